import PyProof.Rows.All
import Wide.All
import OpenK.AllK
import Wide.FinOn
import Lean
import PyProof.EqAt
import PyProof.EqKinds
import PyProof.TupleCall
import PyProof.ZipIter
import PyProof.NeKinds
import PySem.Challenge.RW_mixposts_k51_the_judge
import PyProof.Logic
import PyProof.StationsW
import PyProof.ExcBaseAll.ValueError
import PyProof.ExcInit
import PyProof.ExcClass2
import PyProof.InstStoreFacts
import PyProof.ExcAttrAll.ValueError
import KE.KDictList
import PyProof.StrWalks
import PyProof.ConsumeWalk
import PyProof.EnumFor
import PyProof.EnumStmt
import PyProof.StrLawsIdx
import PyProof.SliceStr2
import PyProof.MeetsStr
import PyProof.FactsAll.str_5
import PyProof.StrBlockL
import PyProof.StrLawsTight
import PyProof.FitsReplace
import PyProof.Rows.StrItems
import KE.KIntText
import KE.KDictOf
import PyProof.AttrMissHeap
import KE.KDictSum
import PyProof.Rows.SortWalk
import PyProof.SetKind
import PyProof.SetNew
import PyProof.SetRoads
import PyProof.CollectWalk
import PyProof.Rows.TupIn
import PyProof.DictStraight
import PyProof.Rows.SetFrom
import PyProof.WalkLemmas
import KE.KListMore
import PyProof.SeqI3
import KE.KEqDict
import PyProof.DictItems
import KE.KPairComp
import PyProof.Rows.CallKwBuiltin
import KE.KLam
import KE.KSortKey
import PyProof.ListRange
import PyProof.MeetsIn
set_option Elab.async false
set_option linter.all false
set_option maxRecDepth 100000
set_option maxHeartbeats 4000000
/-! The head would lay a copy of each heap on the way, with a proof of its own that it is the same: some forty megabytes that the kernel does not need. Where a name is taken, it lays none. -/
namespace PySem.W.Fast
theorem tw10044214609091823411:True:=trivial
theorem tw10062254226515301630:True:=trivial
theorem tw10070903018218830041:True:=trivial
theorem tw10094401129289549357:True:=trivial
theorem tw10095365453596676954:True:=trivial
theorem tw10138381596965311537:True:=trivial
theorem tw10156358325271053743:True:=trivial
theorem tw10228746837638859030:True:=trivial
theorem tw1024436042046973055:True:=trivial
theorem tw10261633250396898218:True:=trivial
theorem tw10279287925176260822:True:=trivial
theorem tw10280045867012488057:True:=trivial
theorem tw10294210533205564390:True:=trivial
theorem tw10350496290466426042:True:=trivial
theorem tw10363039907266824799:True:=trivial
theorem tw10393813849615147431:True:=trivial
theorem tw10396491902871856241:True:=trivial
theorem tw10530374534193772640:True:=trivial
theorem tw10615661940238173617:True:=trivial
theorem tw1064784290688533485:True:=trivial
theorem tw1065642528516069404:True:=trivial
theorem tw10726598287091701350:True:=trivial
theorem tw10836266753561506337:True:=trivial
theorem tw1085746363949531143:True:=trivial
theorem tw10910722580086039091:True:=trivial
theorem tw10945759433867170522:True:=trivial
theorem tw10962311821362049215:True:=trivial
theorem tw10983916067295567168:True:=trivial
theorem tw1102418614930051472:True:=trivial
theorem tw11048321077204168845:True:=trivial
theorem tw11083939647090372925:True:=trivial
theorem tw11122078110331984123:True:=trivial
theorem tw11165415022257546861:True:=trivial
theorem tw11188155384854008415:True:=trivial
theorem tw11256603848738508429:True:=trivial
theorem tw11258177502361178161:True:=trivial
theorem tw11274428092118798175:True:=trivial
theorem tw11333264893934996079:True:=trivial
theorem tw11428697205552590902:True:=trivial
theorem tw11467820854586351122:True:=trivial
theorem tw11501764163234587351:True:=trivial
theorem tw11505690391662862624:True:=trivial
theorem tw11621640439894481375:True:=trivial
theorem tw11646344901116459494:True:=trivial
theorem tw11804147099476755292:True:=trivial
theorem tw11812259424338372867:True:=trivial
theorem tw11823141872467558724:True:=trivial
theorem tw11856228539556732908:True:=trivial
theorem tw11918797966784357079:True:=trivial
theorem tw11934039495178214958:True:=trivial
theorem tw11962800005594457199:True:=trivial
theorem tw11983585647442640356:True:=trivial
theorem tw12071102290915058120:True:=trivial
theorem tw12083951328815270120:True:=trivial
theorem tw12111799498994542707:True:=trivial
theorem tw12149098217296725504:True:=trivial
theorem tw12222047612076186352:True:=trivial
theorem tw12389226168050396913:True:=trivial
theorem tw12410675856691144110:True:=trivial
theorem tw12412297535892264694:True:=trivial
theorem tw12482177712294204063:True:=trivial
theorem tw12483530103180153265:True:=trivial
theorem tw12492772337454143454:True:=trivial
theorem tw12653985570411796895:True:=trivial
theorem tw12667153663526802147:True:=trivial
theorem tw12689166737141365759:True:=trivial
theorem tw12692942620974392452:True:=trivial
theorem tw12721669089168876261:True:=trivial
theorem tw12727268711969526043:True:=trivial
theorem tw12781994975013954956:True:=trivial
theorem tw12801200641492205947:True:=trivial
theorem tw1294842154380976016:True:=trivial
theorem tw12963187725387373122:True:=trivial
theorem tw13014163836042798156:True:=trivial
theorem tw13041017758963599389:True:=trivial
theorem tw13056803793670757582:True:=trivial
theorem tw13107540305460791061:True:=trivial
theorem tw13110658302141597829:True:=trivial
theorem tw13173111119514006250:True:=trivial
theorem tw13201725021809793735:True:=trivial
theorem tw13243778484355359317:True:=trivial
theorem tw13335319410228241717:True:=trivial
theorem tw1337523865140258071:True:=trivial
theorem tw13457759137498511751:True:=trivial
theorem tw13470345829749985272:True:=trivial
theorem tw13505659405730906735:True:=trivial
theorem tw13586170197458262419:True:=trivial
theorem tw13587843959734430971:True:=trivial
theorem tw13666586428372296610:True:=trivial
theorem tw13687322395578787741:True:=trivial
theorem tw13728435884011439829:True:=trivial
theorem tw13732470057592041566:True:=trivial
theorem tw13759207607856249004:True:=trivial
theorem tw13790866152152372242:True:=trivial
theorem tw13802485955532140976:True:=trivial
theorem tw1384948198727370790:True:=trivial
theorem tw13906370871083175730:True:=trivial
theorem tw13921142826598970813:True:=trivial
theorem tw13938331398032313670:True:=trivial
theorem tw14066616114644868694:True:=trivial
theorem tw14067775309262183508:True:=trivial
theorem tw14074289905806563184:True:=trivial
theorem tw14076324050156755414:True:=trivial
theorem tw14114251141721890233:True:=trivial
theorem tw14125992264657317621:True:=trivial
theorem tw14150297057000364801:True:=trivial
theorem tw14163254540841502442:True:=trivial
theorem tw14184079854167858712:True:=trivial
theorem tw14187601018049105859:True:=trivial
theorem tw14190422744824915763:True:=trivial
theorem tw14277437224673046025:True:=trivial
theorem tw14329884065207269338:True:=trivial
theorem tw1437228653666406430:True:=trivial
theorem tw14377500894085535556:True:=trivial
theorem tw1439895326236403946:True:=trivial
theorem tw14539524785116066624:True:=trivial
theorem tw14566975998054741504:True:=trivial
theorem tw14574051527117169912:True:=trivial
theorem tw14593747564264383182:True:=trivial
theorem tw14600687338427166631:True:=trivial
theorem tw14655690043739169487:True:=trivial
theorem tw14667657168304340407:True:=trivial
theorem tw14779881694401149894:True:=trivial
theorem tw14894062580360128665:True:=trivial
theorem tw14904856190165956327:True:=trivial
theorem tw14990822672637625685:True:=trivial
theorem tw15032529737379462831:True:=trivial
theorem tw15073902868328415784:True:=trivial
theorem tw15086054839080568433:True:=trivial
theorem tw15142346741684797203:True:=trivial
theorem tw15161120450748690720:True:=trivial
theorem tw15223379301994421178:True:=trivial
theorem tw15234537193380904695:True:=trivial
theorem tw15347813545992011902:True:=trivial
theorem tw15356226092438585116:True:=trivial
theorem tw15388829366960114628:True:=trivial
theorem tw15412234753684673578:True:=trivial
theorem tw15439762943675744604:True:=trivial
theorem tw15452037860797612880:True:=trivial
theorem tw15468238137936947504:True:=trivial
theorem tw15477365254084724019:True:=trivial
theorem tw15490021056850738238:True:=trivial
theorem tw15559551716153689678:True:=trivial
theorem tw15628847318471021943:True:=trivial
theorem tw15632166332138741288:True:=trivial
theorem tw15641040621672041124:True:=trivial
theorem tw15657713329934890081:True:=trivial
theorem tw15670403718597404929:True:=trivial
theorem tw15701429454505191336:True:=trivial
theorem tw15743634078510439350:True:=trivial
theorem tw15777209077646077786:True:=trivial
theorem tw15892759502278049153:True:=trivial
theorem tw15917844467375228581:True:=trivial
theorem tw15927436804329455681:True:=trivial
theorem tw15931656822007263647:True:=trivial
theorem tw1601590445080066011:True:=trivial
theorem tw16079234161723901552:True:=trivial
theorem tw16244937623598759874:True:=trivial
theorem tw16338895883363811294:True:=trivial
theorem tw16433365873418741677:True:=trivial
theorem tw16453029055950011946:True:=trivial
theorem tw16455052232776120510:True:=trivial
theorem tw16456285754231002616:True:=trivial
theorem tw16462096324532870837:True:=trivial
theorem tw16465344305718980306:True:=trivial
theorem tw16510259455754369088:True:=trivial
theorem tw16547265893618766113:True:=trivial
theorem tw16565710852906145709:True:=trivial
theorem tw16632238179304778751:True:=trivial
theorem tw16698055195540915919:True:=trivial
theorem tw16710850073558992174:True:=trivial
theorem tw167154668250288605:True:=trivial
theorem tw1674861994360698505:True:=trivial
theorem tw16852959156512491903:True:=trivial
theorem tw16977936810068957238:True:=trivial
theorem tw16992381129261117747:True:=trivial
theorem tw17049739580567885924:True:=trivial
theorem tw17090105096353209671:True:=trivial
theorem tw17096372571630765079:True:=trivial
theorem tw17134392321170580549:True:=trivial
theorem tw17154742995459882627:True:=trivial
theorem tw17155728860092998941:True:=trivial
theorem tw17191856450359541837:True:=trivial
theorem tw17198759026941430956:True:=trivial
theorem tw17251619626851632877:True:=trivial
theorem tw1728428299786975992:True:=trivial
theorem tw17414377665032963291:True:=trivial
theorem tw17431895379189566089:True:=trivial
theorem tw17554657379457212907:True:=trivial
theorem tw17610503562565371080:True:=trivial
theorem tw17617423003227429951:True:=trivial
theorem tw1768665944908966289:True:=trivial
theorem tw17705284494689856196:True:=trivial
theorem tw17729999995192928799:True:=trivial
theorem tw17762993961076328601:True:=trivial
theorem tw17865893146480509134:True:=trivial
theorem tw17877902389156102768:True:=trivial
theorem tw17929705374286342309:True:=trivial
theorem tw17977391060995519531:True:=trivial
theorem tw17988436270823184141:True:=trivial
theorem tw18012493712105707612:True:=trivial
theorem tw18108767040980067905:True:=trivial
theorem tw18216293804344896003:True:=trivial
theorem tw18282072120524323977:True:=trivial
theorem tw18309641944469814142:True:=trivial
theorem tw18315075556897118090:True:=trivial
theorem tw183242618808621150:True:=trivial
theorem tw18329855909782603022:True:=trivial
theorem tw18419082320331737395:True:=trivial
theorem tw18423688149762034205:True:=trivial
theorem tw1889234709639455286:True:=trivial
theorem tw1892239209663804180:True:=trivial
theorem tw1993389554391030860:True:=trivial
theorem tw2030071966773213544:True:=trivial
theorem tw2101932497781879592:True:=trivial
theorem tw2145253802036675365:True:=trivial
theorem tw218717883127442540:True:=trivial
theorem tw227469357606104322:True:=trivial
theorem tw232240773619295738:True:=trivial
theorem tw2327677765475516878:True:=trivial
theorem tw2342667902207698903:True:=trivial
theorem tw2360057453198341814:True:=trivial
theorem tw240156398098028135:True:=trivial
theorem tw2460986575935952552:True:=trivial
theorem tw2506378755031960939:True:=trivial
theorem tw258563050969990716:True:=trivial
theorem tw2839026976105211384:True:=trivial
theorem tw2860255055980552456:True:=trivial
theorem tw2935070149765471461:True:=trivial
theorem tw2948567582390190692:True:=trivial
theorem tw3069665070357559554:True:=trivial
theorem tw3093699187303159412:True:=trivial
theorem tw3166780989443614364:True:=trivial
theorem tw3239449290679239382:True:=trivial
theorem tw3248206417759601245:True:=trivial
theorem tw3266976947010492628:True:=trivial
theorem tw3390018507510551610:True:=trivial
theorem tw3423393810097505093:True:=trivial
theorem tw3441332329714971193:True:=trivial
theorem tw3487519787916456851:True:=trivial
theorem tw3505745178830979642:True:=trivial
theorem tw3509332113800655785:True:=trivial
theorem tw358374750910933802:True:=trivial
theorem tw3625656437105285414:True:=trivial
theorem tw3676876187641199657:True:=trivial
theorem tw3732312008463632211:True:=trivial
theorem tw373982270701325379:True:=trivial
theorem tw3747531589555782335:True:=trivial
theorem tw3780799498232736184:True:=trivial
theorem tw3993939474521560758:True:=trivial
theorem tw4060608435568435999:True:=trivial
theorem tw4060643225045162727:True:=trivial
theorem tw4152326216554475856:True:=trivial
theorem tw418141459388586610:True:=trivial
theorem tw4232226429933004845:True:=trivial
theorem tw4253184469964226569:True:=trivial
theorem tw4352635572590694295:True:=trivial
theorem tw4364448143688757713:True:=trivial
theorem tw4388840137419594846:True:=trivial
theorem tw4394159021157231002:True:=trivial
theorem tw4421568687278094834:True:=trivial
theorem tw4447859758310421019:True:=trivial
theorem tw4450965260709803457:True:=trivial
theorem tw4500612819045482195:True:=trivial
theorem tw4579827783778246004:True:=trivial
theorem tw4634445128799910886:True:=trivial
theorem tw4693748850331589120:True:=trivial
theorem tw4702442778702878362:True:=trivial
theorem tw4724659453196844526:True:=trivial
theorem tw4751586472503545523:True:=trivial
theorem tw4952617351899739923:True:=trivial
theorem tw4955755933443872328:True:=trivial
theorem tw5040967993586099976:True:=trivial
theorem tw5138035340536899845:True:=trivial
theorem tw5152947811696693631:True:=trivial
theorem tw5218324174739764806:True:=trivial
theorem tw5302414324514742585:True:=trivial
theorem tw530530520336013052:True:=trivial
theorem tw5333800447138323808:True:=trivial
theorem tw5351393635728316519:True:=trivial
theorem tw5414418785901637608:True:=trivial
theorem tw5459051605563932257:True:=trivial
theorem tw5507040491146395026:True:=trivial
theorem tw5516468647851237914:True:=trivial
theorem tw5641892101381282459:True:=trivial
theorem tw5642086797839856595:True:=trivial
theorem tw5662968633486703627:True:=trivial
theorem tw5766907739525627654:True:=trivial
theorem tw5899440438019150148:True:=trivial
theorem tw5950522219459533007:True:=trivial
theorem tw6004279090126145307:True:=trivial
theorem tw6306279351345073506:True:=trivial
theorem tw6313084625694161104:True:=trivial
theorem tw6353062072491565695:True:=trivial
theorem tw6393297215476884874:True:=trivial
theorem tw6467204217169207073:True:=trivial
theorem tw6490598415200270047:True:=trivial
theorem tw6546975659380719447:True:=trivial
theorem tw660469666521133182:True:=trivial
theorem tw671775409208176649:True:=trivial
theorem tw6739714017273247648:True:=trivial
theorem tw67882584842385790:True:=trivial
theorem tw6815275785650541283:True:=trivial
theorem tw6897467017788756159:True:=trivial
theorem tw6944368100465291036:True:=trivial
theorem tw7040922791347200015:True:=trivial
theorem tw7066208944759732531:True:=trivial
theorem tw7072984408554547157:True:=trivial
theorem tw709582943523489126:True:=trivial
theorem tw7121296858986357145:True:=trivial
theorem tw7127934649152631887:True:=trivial
theorem tw7166529309898393798:True:=trivial
theorem tw7220793736434875996:True:=trivial
theorem tw7234772859438531135:True:=trivial
theorem tw728755414424718278:True:=trivial
theorem tw7312365042408885175:True:=trivial
theorem tw732724809543363079:True:=trivial
theorem tw7414732008256055278:True:=trivial
theorem tw7425688114678220190:True:=trivial
theorem tw7429651114647035182:True:=trivial
theorem tw7435588146305963503:True:=trivial
theorem tw7519477814016969511:True:=trivial
theorem tw7557174368593238654:True:=trivial
theorem tw7602693520651791163:True:=trivial
theorem tw7623494794139402178:True:=trivial
theorem tw7628120791515722898:True:=trivial
theorem tw7768053559376246858:True:=trivial
theorem tw7845898415840357210:True:=trivial
theorem tw78662703739795651:True:=trivial
theorem tw7891582088427274426:True:=trivial
theorem tw7910408972410910499:True:=trivial
theorem tw7913506011980260267:True:=trivial
theorem tw7918880835509941897:True:=trivial
theorem tw8078156790374118962:True:=trivial
theorem tw8084370722880058975:True:=trivial
theorem tw8159300480263649674:True:=trivial
theorem tw8181221269176067338:True:=trivial
theorem tw8245283768507354411:True:=trivial
theorem tw8274565046777098651:True:=trivial
theorem tw8303968995651665060:True:=trivial
theorem tw8526224309970806155:True:=trivial
theorem tw8531330402281739382:True:=trivial
theorem tw8537663574979261609:True:=trivial
theorem tw8560093384433557548:True:=trivial
theorem tw8613466418121462266:True:=trivial
theorem tw8629135275425272993:True:=trivial
theorem tw8648062124418881424:True:=trivial
theorem tw8678861989281011285:True:=trivial
theorem tw8732458551288011834:True:=trivial
theorem tw8773383334227484915:True:=trivial
theorem tw8781955946734171880:True:=trivial
theorem tw879990995832826531:True:=trivial
theorem tw8824709085288337860:True:=trivial
theorem tw8895077036458825384:True:=trivial
theorem tw8972055221433757897:True:=trivial
theorem tw9004342784606451912:True:=trivial
theorem tw9079443125081672756:True:=trivial
theorem tw9092296965917711384:True:=trivial
theorem tw9096325983070619965:True:=trivial
theorem tw9097375200174083444:True:=trivial
theorem tw9224960636001947:True:=trivial
theorem tw9305474789877342927:True:=trivial
theorem tw936639781389688412:True:=trivial
theorem tw9422005885618530445:True:=trivial
theorem tw9455978348752273301:True:=trivial
theorem tw9506024598202636178:True:=trivial
theorem tw9541215873105538257:True:=trivial
theorem tw9621705395857338483:True:=trivial
theorem tw9834459200694999934:True:=trivial
theorem tw9837239077409208141:True:=trivial
theorem tw9896345648519911760:True:=trivial
end PySem.W.Fast
noncomputable abbrev y6:=@List.length_map
noncomputable abbrev y8:=@List.getElem?_eq_getElem
noncomputable abbrev y9:=@PySem.wpAny_bind
noncomputable abbrev yb:=@List.getElem?_eq_some_iff
noncomputable abbrev yc:=@List.getD_eq_getElem?_getD
noncomputable abbrev yd:=@PySem.Heap.get?_push_of_some
noncomputable abbrev ye:=@List.getElem?_map
noncomputable abbrev yg:=@PySem.W.mg_none_of
noncomputable abbrev yh:=@Nat.le_refl
noncomputable abbrev yj:=@List.mem_of_getElem?
noncomputable abbrev yo:=@decide_eq_true
noncomputable abbrev yp:=@List.getElem?_eq_none
noncomputable abbrev yq:=@decide_eq_false
noncomputable abbrev yt:=@List.map_map
noncomputable abbrev yu:=@PySem.wpAny_pure
noncomputable abbrev yv:=@List.mem_append_right
noncomputable abbrev yw:=@List.mem_cons_self
noncomputable abbrev yx:=@List.mem_cons
noncomputable abbrev yA:=@of_decide_eq_true
noncomputable abbrev yB:=@List.not_mem_nil
noncomputable abbrev yC:=@PySem.Heap.get?_push_size
noncomputable abbrev yD:=@List.mem_map
noncomputable abbrev yE:=@List.mem_cons_of_mem
noncomputable abbrev yF:=@List.mem_append
noncomputable abbrev yG:=@Nat.lt_of_lt_of_le
noncomputable abbrev yH:=@PySem.Heap.lt_size
noncomputable abbrev yI:=@List.length_append
noncomputable abbrev yJ:=@List.map_cons
noncomputable abbrev yK:=@List.mem_singleton
noncomputable abbrev yL:=@List.size_toArray
noncomputable abbrev yM:=@List.length_take
noncomputable abbrev yN:=@List.map_append
noncomputable abbrev yO:=@List.mem_map_of_mem
noncomputable abbrev yP:=@Nat.lt_of_le_of_lt
noncomputable abbrev yQ:=@Bool.false_ne_true
noncomputable abbrev yR:=@Nat.zero_le
noncomputable abbrev yS:=@PySem.PassesOwn.never
noncomputable abbrev yT:=@List.getElem?_append_right
noncomputable abbrev yU:=@List.getElem?_append_left
noncomputable abbrev yV:=@Nat.le_trans
noncomputable abbrev yW:=@List.nodup_iff_pairwise_ne
noncomputable abbrev yX:=@Option.map_eq_some_iff
noncomputable abbrev yY:=@List.mem_append_left
noncomputable abbrev yZ:=@Int.toNat_natCast
noncomputable abbrev z4:=@List.length_cons
noncomputable abbrev z5:=@List.find?_cons
noncomputable abbrev z6:=@List.take_add_one
noncomputable abbrev z7:=@List.map_congr_left
noncomputable abbrev z8:=@List.getElem?_range
noncomputable abbrev z9:=@Nat.ne_of_lt
noncomputable abbrev za:=@Int.fmod_eq_emod_of_nonneg
noncomputable abbrev zb:=@Int.emod_lt_of_pos
noncomputable abbrev zc:=@List.nil_append
noncomputable abbrev zd:=@List.mem_filter
noncomputable abbrev ze:=@List.find?_eq_none
noncomputable abbrev zg:=@Bool.and_eq_true
noncomputable abbrev zh:=@List.take_length
noncomputable abbrev zi:=@List.length_range
noncomputable abbrev zj:=@List.length_filter_le
noncomputable abbrev zk:=@List.nodup_cons
noncomputable abbrev zm:=@List.getElem_mem
noncomputable abbrev zo:=@Int.emod_nonneg
noncomputable abbrev zp:=@List.getElem_of_mem
noncomputable abbrev zq:=@List.ext_getElem?
noncomputable abbrev zr:=@Bool.eq_iff_iff
noncomputable abbrev zt:=@PySem.F.plainAttrs_list
noncomputable abbrev zu:=@Nat.lt_irrefl
noncomputable abbrev zw:=@Int.emod_eq_of_lt
noncomputable abbrev zx:=@List.mem_of_find?_eq_some
noncomputable abbrev zy:=@List.take_of_length_le
noncomputable abbrev zz:=@List.mem_range
noncomputable abbrev zA:=@Int.mul_assoc
noncomputable abbrev zB:=@List.mem_iff_getElem?
noncomputable abbrev zC:=@PyProof.Rows.callWith_type1
noncomputable abbrev zD:=@PySem.Heap.size_push
noncomputable abbrev zE:=@Bool.false_eq_true
noncomputable abbrev zF:=@List.all_eq_true
noncomputable abbrev zG:=@Int.emod_eq_emod_iff_emod_sub_eq_zero
noncomputable abbrev zH:=@List.mem_take_iff_getElem
noncomputable abbrev zI:=@List.drop_eq_getElem_cons
noncomputable abbrev zJ:=@Array.getElem?_eq_getElem
noncomputable abbrev zK:=@Array.length_toList
noncomputable abbrev zL:=@List.length_singleton
noncomputable abbrev zM:=@PySem.W.mg_of
noncomputable abbrev zN:=@PySem.F.type_list_append
noncomputable abbrev zO:=@PySem.F.slot_list_append
noncomputable abbrev zP:=@PySem.W.kia_one
noncomputable abbrev zQ:=@Int.emod_eq_zero_of_dvd
noncomputable abbrev zR:=@PySem.wpAny_mono
noncomputable abbrev zS:=@or_false
noncomputable abbrev zT:=@not_false_eq_true
noncomputable abbrev zU:=@List.take_zero
noncomputable abbrev zV:=@List.pairwise_map
noncomputable abbrev zW:=@PySem.mem_of_lookup
noncomputable abbrev zX:=@List.replicate_succ
noncomputable abbrev zY:=@PySem.wpAny_holding
noncomputable abbrev zZ:=@List.map_nil
noncomputable abbrev Aa:=@List.getElem?_take_of_lt
noncomputable abbrev Ab:=@PySem.sizeLine_eq
noncomputable abbrev Ac:=@PySem.wpAny_truthy_bool
noncomputable abbrev Ad:=@beq_iff_eq
noncomputable abbrev Ae:=@PySem.Heap.SameBut.update
noncomputable abbrev Af:=@Nat.ne_of_gt
noncomputable abbrev Ag:=@Int.mul_comm
noncomputable abbrev Ah:=@True.intro
noncomputable abbrev Ai:=@Array.getElem?_toList
noncomputable abbrev Aj:=@List.getElem?_zip_eq_some
noncomputable abbrev Ak:=@List.range_succ
noncomputable abbrev Al:=@Nat.le_of_lt
noncomputable abbrev Am:=@List.nodup_append
noncomputable abbrev An:=@List.append_assoc
noncomputable abbrev Ao:=@beq_eq_false_iff_ne
noncomputable abbrev Ap:=@PySem.wpAny_callSpecial?_slot
noncomputable abbrev Aq:=@if_false
noncomputable abbrev Ar:=@PySem.wpAny_typeNameOfWhole_keyiter
noncomputable abbrev As:=@List.map_id
noncomputable abbrev Au:=@PySem.wpAny_Call_Name_kw
noncomputable abbrev Av:=@of_decide_eq_false
noncomputable abbrev Aw:=@decide_eq_true_iff
noncomputable abbrev Ax:=@List.pairwise_cons
noncomputable abbrev Ay:=@PySem.wpAny_passesOwn
noncomputable abbrev Az:=@Option.map_some
noncomputable abbrev AA:=@List.find?_some
noncomputable abbrev AB:=@List.append_nil
noncomputable abbrev AD:=@PySem.F.slot_dict_keyiterator_next
noncomputable abbrev AE:=@List.any_cons
noncomputable abbrev AF:=@PySem.wpAny_pyIter_list
noncomputable abbrev AG:=@PySem.wpAny_newObj_type
noncomputable abbrev AH:=@PySem.wpAny_seqItems
noncomputable abbrev AI:=@List.mem_erase_of_ne
noncomputable abbrev AJ:=@Bool.false_and
noncomputable abbrev AK:=@PySem.wpAny_call_entry
noncomputable abbrev AL:=@List.length_drop
noncomputable abbrev AM:=@Int.zero_add
noncomputable abbrev AN:=@PySem.Around.in1_units
noncomputable abbrev AO:=@Option.isSome_iff_exists
noncomputable abbrev AQ:=@List.length_erase_of_mem
noncomputable abbrev AR:=@Int.dvd_mul_of_dvd_right
noncomputable abbrev AS:=@PySem.wpAny_setField_rec
noncomputable abbrev AU:=@List.mem_replicate
noncomputable abbrev AV:=@List.filter_append
noncomputable abbrev AW:=@PySem.wpAny_field
noncomputable abbrev AX:=@Int.dvd_mul_of_dvd_left
noncomputable abbrev AY:=@Int.dvd_add
noncomputable abbrev AZ:=@not_true_eq_false
noncomputable abbrev B0:=@if_true
noncomputable abbrev B5:=@decide_eq_true_eq
noncomputable abbrev B6:=@Option.isSome_map
noncomputable abbrev B7:=@Nat.lt_succ_of_lt
noncomputable abbrev B8:=@List.nodup_nil
noncomputable abbrev B9:=@List.forIn_nil
noncomputable abbrev Ba:=@List.flatten_cons
noncomputable abbrev Bb:=@List.find?_append
noncomputable abbrev Bc:=@PySem.Calls.callWith_builtin
noncomputable abbrev Bd:=@List.take_append_drop
noncomputable abbrev Bf:=@List.length_replicate
noncomputable abbrev Bg:=@Nat.lt_succ_self
noncomputable abbrev Bh:=@List.range'_succ
noncomputable abbrev Bi:=@List.lookup_cons
noncomputable abbrev Bj:=@List.getElem_inj
noncomputable abbrev Bl:=@Int.mul_le_mul_of_nonneg_right
noncomputable abbrev Bo:=@List.take_append_of_le_length
noncomputable abbrev Bp:=@Int.mul_le_mul_of_nonneg_left
noncomputable abbrev Bq:=@PySem.wpAny_loadPart'
noncomputable abbrev Br:=@List.length_zip
noncomputable abbrev Bs:=@List.length_nil
noncomputable abbrev Bt:=@List.forIn_cons
noncomputable abbrev Bu:=@Nat.min_self
noncomputable abbrev Bv:=@PySem.tupleKind_room_in1
noncomputable abbrev Bw:=@List.drop_zero
noncomputable abbrev Bx:=@PySem.wpAny_dictEntries
noncomputable abbrev By:=@decide_true
noncomputable abbrev Bz:=@bne_self_eq_false
noncomputable abbrev BA:=@List.flatMap_cons
noncomputable abbrev BB:=@Int.mul_one
noncomputable abbrev BC:=@PySem.wpAny_standAt
noncomputable abbrev BD:=@PySem.wpAny_attempt
noncomputable abbrev BE:=@List.map_take
namespace L2
open PySem PySem.Spec PyProof.Rows
noncomputable abbrev Key:=Sum Int Str
noncomputable def mY:Key->Value->Bool
 | .inl k,v=>Value.isInt k v
 | .inr x,v=>Value.isStrOf x v
noncomputable def V9 (w:World):Key->Int
 | .inl k=>hashInt k
 | .inr x=>hashStr w x
theorem bn:∀ {k:Key}{v:Value},mY k v=true->(∃ i t,k=Sum.inl i/\v=Value.int i t)\/(∃ x t,k=Sum.inr x/\v=Value.str x t)
 | .inl i,v,h=>by
  obtain⟨t,e⟩:=Value.isInt_shape (k:=i) (v:=v) h
  exact .inl ⟨i,t,rfl,e⟩
 | .inr x,v,h=>by
  obtain⟨t,e⟩:=Value.isStrOf_shape (x:=x) (v:=v) h
  exact .inr ⟨x,t,rfl,e⟩
theorem uN (i:Int)(t:Tok):mY (.inl i) (.int i t)=true:=by simp[mY,Value.isInt]
theorem uM (x:Str)(t:Tok):mY (.inr x) (.str x t)=true:=by simp[mY,Value.isStrOf]
theorem Nj (a b:Int):decide ((Sum.inl a:Key)=Sum.inl b)=(a==b):=by
 by_cases e:a=b
 ·subst e;simp
 ·have h:¬ (Sum.inl a:Key)=Sum.inl b:=fun q=>e (Sum.inl.inj q)
  rw[yq h]
  exact (Ao.mpr e).symm
theorem Ng (a b:Str):decide ((Sum.inr a:Key)=Sum.inr b)=decide (a=b):=by
 by_cases e:a=b
 ·subst e;simp
 ·have h:¬ (Sum.inr a:Key)=Sum.inr b:=fun q=>e (Sum.inr.inj q)
  rw[yq h,yq e]
theorem Ni (a:Int)(b:Str):decide ((Sum.inl a:Key)=Sum.inr b)=false:=yq (fun q=>nomatch q)
theorem Nh (a:Str)(b:Int):decide ((Sum.inr a:Key)=Sum.inl b)=false:=yq (fun q=>nomatch q)
noncomputable def aW (prog:Program)(w:World):PySem.KeyKind prog w Key where
 is:=mY
 hash:=V9 w
 inj:=fun v a b ha hb=>by
  rcases bn ha with⟨i,t,rfl,rfl⟩|⟨x,t,rfl,rfl⟩
  ·rcases bn hb with⟨j,u,rfl,e⟩|⟨y,u,rfl,e⟩
   ·injection e with e1 _;rw[e1]
   ·exact nomatch e
  ·rcases bn hb with⟨j,u,rfl,e⟩|⟨y,u,rfl,e⟩
   ·exact nomatch e
   ·injection e with e1 _;rw[e1]
 byValue:=fun k v h=>by
  rcases bn h with⟨i,t,rfl,rfl⟩|⟨x,t,rfl,rfl⟩ <;> rfl
 pyHash:=fun hv h=>by
  rcases bn hv with⟨i,t,rfl,rfl⟩|⟨x,t,rfl,rfl⟩
  ·exact wpAny_pyHash_int h
  ·exact wpAny_pyHash_str h
 eqBool:=fun hu hv h=>by
  rcases bn hu with⟨i,t,rfl,rfl⟩|⟨x,t,rfl,rfl⟩
  ·rcases bn hv with⟨j,u,rfl,rfl⟩|⟨y,u,rfl,rfl⟩
   ·rw[Nj]at h;exact wpAny_eqBool_int h
   ·rw[Ni]at h;exact SeqAt.EqAt.int_str i t y u _ _ _ _ h
  ·rcases bn hv with⟨j,u,rfl,rfl⟩|⟨y,u,rfl,rfl⟩
   ·rw[Nh]at h;exact SeqAt.EqAt.str_int x t j u _ _ _ _ h
   ·rw[Ng]at h;exact wpAny_eqBool_str h
 «strs»:=fun k x t v h=>by
  rcases bn h with⟨i,u,rfl,e⟩|⟨y,u,rfl,e⟩
  ·exact nomatch e
  ·injection e with e1 _
   subst e1
   cases v <;> rfl
theorem qm (prog:Program)(w:World)(i:Int)(t:Tok):(aW prog w).is (.inl i) (.int i t)=true:=uN i t
theorem ql (prog:Program)(w:World)(x:Str)(t:Tok):(aW prog w).is (.inr x) (.str x t)=true:=uM x t
inductive V where
  | non | bl (b : Bool) | int (i : Int) | str (x : Str) | byt (b : Array UInt8) | flt (b : UInt64) | ref (a : Addr) | ty (n : String)
  deriving DecidableEq
noncomputable def RelV:V->Value->Prop
 | .non,u=>u=Value.none
 | .bl b,u=>u=Value.bool b
 | .int i,u=>∃ t,u=Value.int i t
 | .str x,u=>∃ t,u=Value.str x t
 | .byt b,u=>∃ t,u=Value.bytes b t
 | .flt b,u=>∃ t,u=Value.float b t
 | .ref a,u=>u=Value.ref a
 | .ty n,u=>u=Value.type n
noncomputable abbrev Vals:List V->List Value->Prop:=Paired RelV
theorem Vals.length {xs:List V}{us:List Value} (r:Vals xs us):xs.length=us.length:=Paired.length r
theorem Vals.get:∀ {xs:List V}{us:List Value}{i:Nat}{x:V},Vals xs us->xs[i]?=some x->∃ u,us[i]?=some u/\RelV x u
 | _,_,_,_,.nil,e=>by simp at e
 | _,_,0,_,.cons r _,e=>by simp at e;subst e;exact⟨_,rfl,r⟩
 | _,_,i+1,x,.cons _ t,e=>by
  obtain⟨u,h1,h2⟩:=Vals.get (i:=i) (x:=x) t (by simpa using e)
  exact⟨u,by simpa using h1,h2⟩
theorem Vals.set {x:V}{u:Value} (r:RelV x u):∀ {xs:List V}{us:List Value} (i:Nat),Vals xs us->Vals (xs.set i x) (us.set i u)
 | _,_,_,.nil=>.nil
 | _,_,0,.cons _ t=>.cons r t
 | _,_,i+1,.cons q t=>.cons q (Vals.set r i t)
theorem Vals.append:∀ {xs ys:List V}{us ws:List Value},Vals xs us->Vals ys ws->Vals (xs++ys) (us++ws)
 | _,_,_,_,.nil,s=>s
 | _,_,_,_,.cons r t,s=>.cons r (Vals.append t s)
theorem Vals.take:∀ {xs:List V}{us:List Value} (n:Nat),Vals xs us->Vals (xs.take n) (us.take n)
 | _,_,0,_=>.nil
 | _,_,_+1,.nil=>.nil
 | _,_,n+1,.cons r t=>.cons r (Vals.take n t)
theorem Vals.drop:∀ {xs:List V}{us:List Value} (n:Nat),Vals xs us->Vals (xs.drop n) (us.drop n)
 | _,_,0,r=>r
 | _,_,_+1,.nil=>.nil
 | _,_,n+1,.cons _ t=>Vals.drop n t
noncomputable def Ej:Option V->Option Value->Prop
 | some v,some u=>RelV v u
 | none,none=>True
 | _,_=>False
noncomputable def KV {κ:Type}:List (κ×V)->List (κ×Value)->Prop:=Paired fun (p:κ×V) (q:κ×Value)=>p.1=q.1/\RelV p.2 q.2
noncomputable def kV:Key->V
 | .inl i=>.int i
 | .inr x=>.str x
inductive HO where
  | lst (xs : List V)
  | tup (xs : List V)
  | dK (kvs : List (Key × V)) | dT (kvs : List (List Key × V))
  | set (S : Int -> Bool) (n : Nat)
  | ins (C dx : Addr) (fs : List (Str × V))
  | own (x : Addr)
  | xd (fs : List (Str × V))
  | met (f x : Addr)
  | rng (lo hi : Int)
  | frz (o : Obj) (u : HO)
  | tbl (ps : Array Value)
  | ext (φ : Heap -> Prop)
noncomputable abbrev Hp:=Addr->Option HO
noncomputable def upd (H:Hp)(a:Addr)(o:HO):Hp:=fun b=>if b=a then some o else H b
theorem a9 {H:Hp}{a:Addr}{o:HO}:upd H a o a=some o:=by unfold upd;rw[if_pos rfl]
theorem ae {H:Hp}{a b:Addr}{o:HO} (h:b≠a):upd H a o b=H b:=by unfold upd;rw[if_neg h]
theorem wN {H:Hp}{a:Addr}{o u:HO}:upd (upd H a o) a u=upd H a u:=by
 funext b;unfold upd;split <;> rfl
theorem aY {H:Hp}{a b:Addr}{o u:HO} (h:H a=some o) (h':H b=some u) (d:o≠u):a≠b:=by
 intro e;subst e;rw[h]at h';exact d (Option.some.inj h')
theorem ah {H:Hp}{a b:Addr}{o:HO} (h:H a=some o) (h':H b=none):a≠b:=by
 intro e;subst e;rw[h]at h';cases h'
section
variable (P : Program)(w : World)
noncomputable def BN (H:Hp)(h:Heap)(a:Addr):HO->Prop
 | .lst xs=>xs.length<=sizeLine/\∃ (its:List Value)(n:Nat),Vals xs its/\h.get? a=some { cls:=.type "list",data:=.seq its.toArray n }
 | .tup xs=>xs.length<=sizeLine/\∃ its:List Value,Vals xs its/\IsTup h a its.toArray
 | .dK kvs=>kvs.length<=sizeLine/\(a==sysModules)=false/\∃ vs,KV kvs vs/\h.DictOf (aW P w) a vs
 | .dT kvs=>kvs.length<=sizeLine/\(a==sysModules)=false/\∃ xs:List (List Key×Addr×Value),
   Paired (fun (p:List Key×V) (q:List Key×Addr×Value)=>p.1=q.1/\H q.2.1=some (.tup (p.1.map kV))/\RelV p.2 q.2.2) kvs xs/\
   ∃ o es ep,h.get? a=some o/\o.ExactDict/\o.data=.dict es ep/\es.toList=xs.map (entryOfKey (tupleKind (aW P w)))/\(xs.map (·.1)).Nodup
 | .set S n=>h.SetOf (intKind P w) a S n
 | .ins C dx fs=>H dx=some (.own a)/\fs.length<=1000/\dx≠a/\h.get? a=some (PySem.W.instObj C dx)/\
   ∃ mA,h.Ns1 dx mA/\(∀ f,Ej (fs.lookup f) (mA f))/\PySem.Within mA (fs.map (·.1))
 | .own _=>∃ o,h.get? a=some o
 | .xd fs=>∃ mA,h.Ns1 a mA/\∀ f,Ej (fs.lookup f) (mA f)
 | .rng lo hi=>∃ t u v,h.get? a=some { cls:=.type "range",data:=.fields #[.int lo t,.int hi u,.int 1 v] }
 | .frz o u=>h.get? a=some o/\BN H h a u
 | .tbl ps=>h.get? a=some { cls:=.none,data:=.fields ps }
 | .met f x=>h.get? a=some (PySem.W.methodObj (.ref f) (.ref x))
 | .ext φ=>φ h/\(∃ o,h.get? a=some o)/\∀ h1 h2:Heap,φ h1->(∀ o,h1.get? a=some o->h2.get? a=some o)->φ h2
noncomputable def Ep (H:Hp)(h:Heap):Prop:=∀ a o,H a=some o->BN P w H h a o
end
section
variable {P : Program}{w : World}{H H' : Hp}{h h' : Heap}{a : Addr}{o : HO}
theorem BN.lt (x:BN P w H h a o):a<h.objs.size:=by
 cases o with
 | lst xs=>obtain⟨_,_,_,_,e⟩:=x;exact yH e
 | tup xs=>obtain⟨_,_,_,p⟩:=x;exact p.lt
 | dK kvs=>obtain⟨_,_,_,_,o,_,_,e,_⟩:=x;exact yH e
 | dT kvs=>obtain⟨_,_,_,_,o,_,_,e,_⟩:=x;exact yH e
 | set S n=>obtain⟨o,_,_,_,e,_⟩:=x;exact yH e
 | ins C dx fs=>obtain⟨_,_,_,e,_⟩:=x;exact yH e
 | own y=>obtain⟨_,e⟩:=x;exact yH e
 | xd fs=>obtain⟨_,⟨_,_,_,e,_⟩,_⟩:=x;exact yH e
 | rng lo hi=>obtain⟨_,_,_,e⟩:=x;exact yH e
 | frz ob u=>obtain⟨e,_⟩:=x;exact yH e
 | tbl ps=>exact yH (show h.get? a=some _ from x)
 | met f y=>exact yH (show h.get? a=some _ from x)
 | ext φ=>obtain⟨_,⟨_,e⟩,_⟩:=x;exact yH e
theorem Paired.Cp {α β:Type}{F G:α->β->Prop}:∀ {l₁:List α}{l₂:List β},Paired F l₁ l₂->(∀ a b,F a b->G a b)->Paired G l₁ l₂
 | _,_,.nil,_=>.nil
 | _,_,.cons r t,f=>.cons (f _ _ r) (Paired.Cp t f)
theorem BN.Fg (x:BN P w H h a o)(k:∀ b u,(b=a\/H b=some (.own a))->h.get? b=some u->h'.get? b=some u)
  (ho:∀ b,H b=some (.own a)->H' b=some (.own a)) (ht:∀ b xs,H b=some (.tup xs)->H' b=some (.tup xs)):BN P w H' h' a o:=by
 induction o with
 | lst xs=>obtain⟨z,its,n,r,e⟩:=x;exact⟨z,its,n,r,k _ _ (.inl rfl) e⟩
 | tup xs=>obtain⟨z,its,r,ob,e,c⟩:=x;exact⟨z,its,r,ob,k _ _ (.inl rfl) e,c⟩
 | dK kvs=>obtain⟨z,y,vs,r,ob,es,ep,e,c⟩:=x;exact⟨z,y,vs,r,ob,es,ep,k _ _ (.inl rfl) e,c⟩
 | dT kvs=>
  obtain⟨z,y,xs,r,ob,es,ep,e,c⟩:=x
  exact⟨z,y,xs,Paired.Cp r fun p q z=>⟨z.1,ht _ _ z.2.1,z.2.2⟩,ob,es,ep,k _ _ (.inl rfl) e,c⟩
 | set S n=>obtain⟨ob,es,ep,t,e,c⟩:=x;exact⟨ob,es,ep,t,k _ _ (.inl rfl) e,c⟩
 | ins C dx fs=>
  obtain⟨d,z,ne,e,mA,⟨od,es,ep,e2,c⟩,r⟩:=x
  exact⟨ho _ d,z,ne,k _ _ (.inl rfl) e,mA,⟨od,es,ep,k _ _ (.inr d) e2,c⟩,r⟩
 | own y=>obtain⟨ob,e⟩:=x;exact⟨ob,k _ _ (.inl rfl) e⟩
 | xd fs=>obtain⟨mA,⟨od,es,ep,e,c⟩,r⟩:=x;exact⟨mA,⟨od,es,ep,k _ _ (.inl rfl) e,c⟩,r⟩
 | rng lo hi=>obtain⟨t,u,v,e⟩:=x;exact⟨t,u,v,k _ _ (.inl rfl) e⟩
 | frz ob u ih=>obtain⟨e,q⟩:=x;exact⟨k _ _ (.inl rfl) e,ih q⟩
 | tbl ps=>
  have e:h.get? a=some { cls:=.none,data:=.fields ps }:=x
  show h'.get? a=some { cls:=.none,data:=.fields ps }
  exact k a _ (.inl rfl) e
 | met f y=>
  have e:h.get? a=some (PySem.W.methodObj (.ref f) (.ref y)):=x
  show h'.get? a=some (PySem.W.methodObj (.ref f) (.ref y))
  exact k a _ (.inl rfl) e
 | ext φ=>obtain⟨p,⟨o,e⟩,st⟩:=x;exact⟨st _ _ p fun o q=>k _ _ (.inl rfl) q,⟨o,k _ _ (.inl rfl) e⟩,st⟩
theorem Ep.lt (x:Ep P w H h)(e:H a=some o):a<h.objs.size:=(x a o e).lt
theorem Ep.fresh (x:Ep P w H h)(e:h.objs.size<=a):H a=none:=by
 cases q:H a with
 | none=>rfl
 | some u=>exact absurd (yG (x.lt q) e) (zu _)
theorem Ep.kept (x:Ep P w H h)(k:∀ b u,h.get? b=some u->h'.get? b=some u):Ep P w H h':=fun a o e=>
 (x a o e).Fg (fun b u _ q=>k b u q) (fun _ q=>q) fun _ _ q=>q
theorem Ep.laid (x:Ep P w H h)(k:∀ b u,h.get? b=some u->h'.get? b=some u)(hp:h.objs.size<=a)(new:BN P w (upd H a o) h' a o):Ep P w (upd H a o) h':=fun b u e=>by
 have hn:=x.fresh hp
 by_cases hb:b=a
 ·subst hb;rw[a9]at e;cases e;exact new
 ·rw[ae hb]at e
  exact (x b u e).Fg (fun c v _ q=>k c v q) (fun c q=>by rw[ae (ah q hn)];exact q) fun c xs q=>by rw[ae (ah q hn)];exact q
end
noncomputable def Rd (H:Hp)(a:Addr)(u:HO):Prop:=H a=some u\/∃ o,H a=some (.frz o u)
theorem Rd.ok {P:Program}{w:World}{H:Hp}{h:Heap}{a:Addr}{u:HO} (r:Rd H a u) (x:Ep P w H h):BN P w H h a u:=by
 rcases r with r|⟨o,r⟩
 ·exact x a u r
 ·obtain⟨_,q⟩:=x a _ r
  exact q
noncomputable def S9:Option HO->Prop
 | some (.lst _)=>True
 | some (.dK _)=>True
 | some (.dT _)=>True
 | some (.set _ _)=>True
 | some (.ins _ _ _)=>True
 | some (.ext _)=>True
 | _=>False
section
variable {P : Program}{w : World}{H : Hp}{h h' : Heap}{x e : Addr}{o' : HO}
theorem Ep.write (ok:Ep P w H h)(mu:S9 (H x))(he:e=x\/H e=some (.own x))(k:∀ b u,b≠e->h.get? b=some u->h'.get? b=some u)(OX:∃ u,h'.get? e=some u)
  (new:BN P w (upd H x o') h' x o'):Ep P w (upd H x o') h':=fun b u q=>by
 have Qf:∀ c y,H c=some (.own y)->c≠x:=fun c y r z=>by subst z;rw[r]at mu;exact mu
 have UM:∀ c xs,H c=some (.tup xs)->c≠x:=fun c xs r z=>by subst z;rw[r]at mu;exact mu
 by_cases hb:b=x
 ·subst hb;rw[a9]at q;cases q;exact new
 ·rw[ae hb]at q
  by_cases NQ:b=e
  ·have q':H b=some (.own x):=by
    rcases he with z|z
    ·exact absurd (NQ.trans z) hb
    ·rw[NQ];exact z
   rw[q]at q';cases q'
   obtain⟨v,hv⟩:=OX
   exact⟨v,by rw[NQ];exact hv⟩
  ·refine (ok b u q).Fg (fun c v hc r=>k c v ?_ r) (fun c r=>by rw[ae (Qf c b r)];exact r) fun c xs r=>by rw[ae (UM c xs r)];exact r
   rcases hc with rfl|hc
   ·exact NQ
   ·rintro rfl
    rcases he with z|z
    ·exact Qf c b hc z
    ·rw[hc]at z;cases z;exact hb rfl
end
structure Un (fs ex : List Addr) (H H' : Hp) (h h' : Heap) : Prop where
  keep : ∀ b o, h.get? b = some o -> H b = none -> b ∉ fs -> b ∉ ex -> h'.get? b = some o
  slot : ∀ b o, h.get? b = some o -> H b = none -> b ∈ fs -> b ∉ ex -> ∃ sl, h'.get? b = some { o with slots := sl }
  free : ∀ b o, h.get? b = some o -> H b = none -> b ∉ ex -> H' b = none
  there : ∀ b o, h.get? b = some o -> b ∉ ex -> ∃ o', h'.get? b = some o'
  GB : ∀ b xs, H b = some (.tup xs) -> H' b = some (.tup xs)
  FF : ∀ b o u, H b = some (.frz o u) -> H' b = some (.frz o u)
  FY : ∀ b ps, H b = some (.tbl ps) -> ∃ more, H' b = some (.tbl (ps ++ more))
section
variable {fs NZ ex ex' : List Addr}{H H1 H2 : Hp}{h h1 h2 h' : Heap}{a x e : Addr}{o : HO}
theorem Un.any (u:Un fs ex H H1 h h1){b:Addr}{ob:Obj} (q:h.get? b=some ob) (n:H b=none) (hx:b∉ex):∃ sl,h1.get? b=some { ob with slots:=sl }:=by
 by_cases hb:b∈fs
 ·exact u.slot b ob q n hb hx
 ·exact⟨ob.slots,u.keep b ob q n hb hx⟩
theorem Un.kept (k:∀ b u,h.get? b=some u->h'.get? b=some u):Un fs ex H H h h':=
 ⟨fun b ob q _ _ _=>k b ob q,fun b ob q _ _ _=>⟨ob.slots,k b ob q⟩,fun _ _ _ n _=>n,fun b ob q _=>⟨ob,k b ob q⟩,fun _ _ q=>q,fun _ _ _ q=>q,fun _ ps q=>⟨#[],by rw[q];simp⟩⟩
theorem Un.refl:Un fs ex H H h h:=Un.kept fun _ _ q=>q
theorem Un.laid (k:∀ b u,h.get? b=some u->h'.get? b=some u)(hp:h.objs.size<=a)(hn:H a=none):Un fs ex H (upd H a o) h h' where
 keep:=fun b u q _ _ _=>k b u q
 slot:=fun b u q _ _ _=>⟨u.slots,k b u q⟩
 free:=fun b u q n _=>by rw[ae (z9 (yG (yH q) hp))];exact n
 there:=fun b u q _=>⟨u,k b u q⟩
 GB:=fun b xs q=>by rw[ae (ah q hn)];exact q
 FF:=fun b u xs q=>by rw[ae (ah q hn)];exact q
 FY:=fun b ps q=>⟨#[],by rw[ae (ah q hn),q];simp⟩
theorem Un.write (mu:S9 (H x))(he:e=x\/H e=some (.own x))(k:∀ b u,b≠e->h.get? b=some u->h'.get? b=some u)(OX:∃ u,h'.get? e=some u):Un fs ex H (upd H x o) h h':=by
 have hx:∀ b,H b=none->b≠x:=fun b n z=>by subst z;rw[n]at mu;exact mu
 have hb:∀ b,H b=none->b≠e:=fun b n z=>by
  subst z
  rcases he with r|r
  ·exact hx b n r
  ·rw[n]at r;cases r
 have hm:∀ b u,H b=some u->¬ S9 (some u)->b≠x:=fun b u q nm z=>by subst z;rw[q]at mu;exact nm mu
 refine⟨fun b u q n _ _=>k b u (hb b n) q,fun b u q n _ _=>⟨u.slots,k b u (hb b n) q⟩,fun b u q n _=>by rw[ae (hx b n)];exact n,fun b u q _=>?_,
  fun b xs q=>by rw[ae (hm b _ q fun z=>z)];exact q,fun b u xs q=>by rw[ae (hm b _ q fun z=>z)];exact q,fun b ps q=>⟨#[],by rw[ae (hm b _ q fun z=>z),q];simp⟩⟩
 by_cases NQ:b=e
 ·subst NQ;exact OX
 ·exact⟨u,k b u NQ q⟩
end
noncomputable def Sq (h:Heap)(H:Hp):List Addr:=(List.range h.objs.size).filter fun a=>(H a).isSome
noncomputable def lH (h:Heap)(H:Hp):Heap:=PySem.W.hideAll h (Sq h H)
theorem uQ (h:Heap)(H:Hp):(lH h H).objs.size=h.objs.size:=PySem.W.hideAll_size _ _
theorem wb {h:Heap}{H:Hp}{b:Addr}{o:Obj} (e:h.get? b=some o) (n:H b=none):(lH h H).get? b=some o:=
 PySem.W.hideAll_get _ e fun hm=>by
  have q:(H b).isSome=true:=(zd.mp hm).2
  rw[n]at q;simp at q
theorem xC {h:Heap}{H:Hp}{b:Addr}{o:Obj} (e:(lH h H).get? b=some o):h.get? b=some o/\H b=none:=by
 have e':h.get? b=some o:=PySem.W.of_hideAll (Sq h H) e
 refine⟨e',?_⟩
 cases q:H b with
 | none=>rfl
 | some x=>
  have hm:b∈Sq h H:=zd.mpr ⟨zz.mpr (yH e'),by simp[q]⟩
  have z:(lH h H).get? b=none:=PySem.W.hideAll_none (Sq h H) hm
  rw[z]at e;cases e
structure Mod (K : PySem.W.Frag) (mg : Str -> Option Value) (base : Heap) : Prop where
  LC : K.In base
  glob : base.Ns mainGlobals mg
  blt : ∃ mb, base.Ns builtinsNs mb /\ ∀ x : Str, x ≠ "__name__" -> mb x = bootBuiltins x
  nolimit : base.NoLimit
structure Cx where
  prog : Program
  w : World
  K : PySem.W.Frag
  mg : Str -> Option Value
  base : Heap
  A : Around
  N : List Str
  s₀ : Shared
  H₀ : Hp
  env : Env
  outer : List Env
  stack : List Env
  ex : List Addr
  fn : Str -> Bool
  calm : Bool
  pn : List (Addr × Obj)
  xe : Value -> Shared -> Prop
noncomputable def Je (l:List Env):List Addr:=l.filterMap (·.frame)
noncomputable abbrev Cx.fs (X:Cx):List Addr:=Je X.outer
noncomputable def Pd (sc:Scope)(x:Str):Prop:=sc.names.lookup x=some .local\/sc.names.lookup x=some .cell\/sc.names.lookup x=some .free
noncomputable def Loc (sc:Scope)(x:Str):Prop:=sc.names.lookup x=some .local\/sc.names.lookup x=some .cell
noncomputable def Look (env:Env)(h:Heap)(m:Str->Option Value)(x:Str)(u:Value):Prop:=
 (env.kindOf x=some .local/\m x=some u)\/((env.kindOf x=some .cell\/env.kindOf x=some .free)/\∃ c,env.cells.lookup x=some c/\h.IsCell c (some u))
structure Cx.Ok (X : Cx) : Prop where
  mod : Mod X.K X.mg X.base
  kind : X.env.scope.kind = .function
  glob : X.env.globals = mainGlobals
  blt : X.env.builtins = builtinsNs
  above : X.s₀.heap.objs.size <= X.env.locals
  inj : ∀ x y c, X.env.cells.lookup x = some c -> X.env.cells.lookup y = some c -> x = y
  has : ∀ x, (X.env.kindOf x = some .cell \/ X.env.kindOf x = some .free) -> ∃ c, X.env.cells.lookup x = some c
  RQ : ∀ x c, X.fn x = true -> X.env.cells.lookup x = some c -> X.s₀.heap.objs.size <= c
  hd : X.calm = true -> X.A.handled = none
  frames : X.A.frames = some X.stack
  Sv : X.stack = X.outer \/ (X.stack = X.env :: X.outer /\ X.env.frame = some X.env.locals)
  YT : ∀ b ∈ X.ex, b ≠ X.env.locals /\ ∀ x c, X.env.cells.lookup x = some c -> c ≠ b
  bs : ∀ b o, X.base.get? b = some o -> X.s₀.heap.get? b = some o /\ X.H₀ b = none
  Ke : X.base.objs.size <= X.s₀.heap.objs.size
  J8 : ∀ b o, X.base.get? b = some o -> b ∉ X.ex
  KZ : ∀ b ∈ X.ex, b ∉ X.fs
  Fj : X.s₀.heap.FunFrames X.base X.outer
  O0 : ∀ b ∈ X.fs, X.H₀ b = none
structure Inv (X : Cx) (pins : List (Addr × Obj)) (σ : List (Option V)) (H : Hp) (s : Shared) : Prop where
  ok : X.Ok
  os : s.os = X.s₀.os
  bare : AllBare s.gens
  base : Un X.fs X.ex X.H₀ H X.s₀.heap s.heap
  loc : ∃ m, s.heap.Ns X.env.locals m /\ ∀ (i : Nat) (x : Str) (v : V), X.N[i]? = some x -> σ[i]? = some (some v) -> Pd X.env.scope x -> ∃ u, RelV v u /\ Look X.env s.heap m x u
  cell : ∀ x c, X.env.cells.lookup x = some c -> ∃ v, s.heap.IsCell c v
  free : H X.env.locals = none
  Dv : ∀ x c, X.env.cells.lookup x = some c -> H c = none
  pin : ∀ p ∈ X.pn ++ pins, s.heap.get? p.1 = some p.2 /\ H p.1 = none /\ p.1 ≠ X.env.locals /\ p.1 ∉ X.fs /\ ∀ v, p.2.data ≠ .cell v
  BR : Ep X.prog X.w H s.heap
  len : σ.length = X.N.length
section
variable {X : Cx}{pins : List (Addr×Obj)}{σ : List (Option V)}{H H' : Hp}{s : Shared}{h' : Heap}
theorem Cx.Ok.UN (ok:X.Ok){b:Addr}{o:Obj} (e:X.base.get? b=some o):b∉X.fs:=fun hb=>by
 have:=(ok.Fj.mem hb).1
 rw[e]at this;cases this
theorem Inv.bs (I:Inv X pins σ H s):∀ b o,X.base.get? b=some o->s.heap.get? b=some o/\H b=none:=fun b o e=>
 ⟨I.base.keep b o (I.ok.bs b o e).1 (I.ok.bs b o e).2 (I.ok.UN e) (I.ok.J8 b o e),I.base.free b o (I.ok.bs b o e).1 (I.ok.bs b o e).2 (I.ok.J8 b o e)⟩
theorem Inv.bk (I:Inv X pins σ H s):∀ b o,X.base.get? b=some o->s.heap.get? b=some o:=fun b o e=>(I.bs b o e).1
theorem Inv.mod (I:Inv X pins σ H s):Mod X.K X.mg X.base:=I.ok.mod
theorem Inv.ET (I:Inv X pins σ H s):X.K.In s.heap:=I.ok.mod.LC.keeps I.bk
theorem Inv.nolimit (I:Inv X pins σ H s):s.heap.NoLimit:=I.ok.mod.nolimit.keeps I.bk
theorem Inv.lt (I:Inv X pins σ H s):X.env.locals<s.heap.objs.size:=let ⟨_,hn,_⟩:=I.loc;hn.lt
theorem Inv.sz (I:Inv X pins σ H s):X.s₀.heap.objs.size<=s.heap.objs.size:=yV I.ok.above (Al I.lt)
theorem Inv.JK (I:Inv X pins σ H s){a:Addr}(h:s.heap.objs.size<=a):a∉X.fs:=fun hb=>by
 obtain⟨_,o,ho,_⟩:=I.ok.Fj.mem hb
 exact absurd (yG (yH ho) (yV I.sz h)) (zu _)
theorem Inv.O9 (I:Inv X pins σ H s):∀ x c,X.env.cells.lookup x=some c->c≠X.env.locals:=fun x c e z=>by
 obtain⟨v,o,ho,hd⟩:=I.cell x c e
 obtain⟨m,⟨o',es,ep,FV,EL,_⟩,_⟩:=I.loc
 rw[z,FV]at ho;cases ho;rw[EL]at hd;cases hd
theorem Inv.Fj (I:Inv X pins σ H s):s.heap.FunFrames X.base X.outer:=by
 have all:∀ (l:List Env),(∀ b∈Je l,b∈X.fs)->X.s₀.heap.FunFrames X.base l->s.heap.FunFrames X.base l:=by
  intro l
  induction l with
  | nil=>intro _ _;trivial
  | cons env r ih=>
   intro hs hl
   obtain⟨hk,⟨L,o,hf,hn,ho,hd⟩,hr⟩:=hl
   have hL:L∈X.fs:=hs L (by unfold Je;rw[List.filterMap_cons,hf];exact yw)
   obtain⟨sl,e⟩:=I.base.slot L o ho (I.ok.O0 L hL) hL fun z=>I.ok.KZ L z hL
   exact⟨hk,⟨L,_,hf,hn,e,hd⟩,ih (fun b hb=>hs b (by unfold Je;rw[List.filterMap_cons,hf];exact yE _ hb)) hr⟩
 exact all X.outer (fun _ hb=>hb) I.ok.Fj
theorem Inv.stack (I:Inv X pins σ H s):s.heap.FunFrames X.base X.stack:=by
 rcases I.ok.Sv with e|⟨e,hf⟩
 ·rw[e];exact I.Fj
 ·rw[e]
  obtain⟨m,hn,_⟩:=I.loc
  refine .cons (by rw[I.ok.kind];decide) hf hn ?_ I.Fj
  exact Heap.get?_none_of_le (yV I.ok.Ke I.ok.above)
theorem Inv.HU (I:Inv X pins σ H s):∀ b∈Je X.stack,b∈X.env.locals::X.fs:=fun b hb=>by
 rcases I.ok.Sv with e|⟨e,hf⟩
 ·rw[e]at hb;exact yE _ hb
 ·rw[e]at hb
  unfold Je at hb
  rw[List.filterMap_cons,hf]at hb
  exact hb
theorem Inv.GD (I:Inv X pins σ H s):∀ b∈Je X.stack,H b=none:=fun b hb=>by
 rcases yx.mp (I.HU b hb) with e|hb
 ·rw[e];exact I.free
 ·obtain⟨_,o,ho,_⟩:=I.ok.Fj.mem hb
  exact I.base.free b o ho (I.ok.O0 b hb) fun z=>I.ok.KZ b z hb
theorem Inv.step {g':Array GenState}{t':Nat}{d':Drawn}{ch:List Addr} (I:Inv X pins σ H s)
  (Kt:∀ b∈ch,(b∈X.ex\/X.s₀.heap.objs.size<=b)/\b≠X.env.locals/\(∀ x c,X.env.cells.lookup x=some c->c≠b)/\∀ p∈X.pn++pins,p.1≠b)
  (keep:∀ b o,b≠X.env.locals->b∉X.fs->b∉ch->s.heap.get? b=some o->H b=none->h'.get? b=some o)
  (slot:∀ b o,b≠X.env.locals->b∈X.fs->b∉ch->s.heap.get? b=some o->H b=none->∃ sl,h'.get? b=some { o with slots:=sl }) (free:∀ b o,b∉ch->s.heap.get? b=some o->H b=none->H' b=none)
  (there:∀ b o,b∉ch->s.heap.get? b=some o->∃ o',h'.get? b=some o')
  (GB:∀ b xs,H b=some (.tup xs)->H' b=some (.tup xs)) (FF:∀ b o u,H b=some (.frz o u)->H' b=some (.frz o u)) (FY:∀ b ps,H b=some (.tbl ps)->∃ more,H' b=some (.tbl (ps++more)))
  (ns:∀ m,s.heap.Ns X.env.locals m->h'.Ns X.env.locals m) (BR:Ep X.prog X.w H' h') (hg:AllBare g'):
  Inv X pins σ H' { s with heap:=h',gens:=g',drawn:=d',toks:=t' }:=by
 have Xs:∀ b o,X.s₀.heap.get? b=some o->b≠X.env.locals:=fun b o e=>z9 (yG (yH e) I.ok.above)
 have SO:∀ b o,X.s₀.heap.get? b=some o->b∉X.ex->b∉ch:=fun b o e hx hb=>by
  rcases (Kt b hb).1 with z|z
  ·exact hx z
  ·exact absurd (yG (yH e) z) (zu _)
 have cellK:∀ x c,X.env.cells.lookup x=some c->∀ v,s.heap.IsCell c v->h'.IsCell c v:=fun x c e v j'=>by
  obtain⟨o,ho,hd⟩:=j'
  have Qm:c∉ch:=fun z=>(Kt c z).2.2.1 x c e rfl
  by_cases hc:c∈X.fs
  ·obtain⟨sl,q⟩:=slot c o (I.O9 x c e) hc Qm ho (I.Dv x c e)
   exact⟨_,q,hd⟩
  ·exact⟨o,keep c o (I.O9 x c e) hc Qm ho (I.Dv x c e),hd⟩
 refine⟨I.ok,I.os,hg,⟨fun b o e n hb hx=>?_,fun b o e n hb hx=>?_,fun b o e n hx=>?_,fun b o e hx=>?_,fun b xs e=>GB b xs (I.base.GB b xs e),fun b o xs e=>FF b o xs (I.base.FF b o xs e),fun b ps e=>?_⟩,?_,fun x c e=>?_,?_,fun x c e=>?_,fun p hp=>?_,BR,I.len⟩
 ·exact keep b o (Xs b o e) hb (SO b o e hx) (I.base.keep b o e n hb hx) (I.base.free b o e n hx)
 ·obtain⟨sl,e1⟩:=I.base.slot b o e n hb hx
  obtain⟨ZI,e2⟩:=slot b _ (Xs b o e) hb (SO b o e hx) e1 (I.base.free b o e n hx)
  exact⟨ZI,e2⟩
 ·obtain⟨o',e1⟩:=I.base.there b o e hx
  exact free b o' (SO b o e hx) e1 (I.base.free b o e n hx)
 ·obtain⟨o',e1⟩:=I.base.there b o e hx
  exact there b o' (SO b o e hx) e1
 ·obtain⟨m1,e1⟩:=I.base.FY b ps e
  obtain⟨m2,e2⟩:=FY b _ e1
  exact⟨m1++m2,by rw[e2,Array.append_assoc]⟩
 ·obtain⟨m,hn,hl⟩:=I.loc
  refine⟨m,ns m hn,fun i x v e1 e2 e3=>?_⟩
  obtain⟨u,r,l⟩:=hl i x v e1 e2 e3
  refine⟨u,r,?_⟩
  rcases l with l|⟨k,c,e,z⟩
  ·exact .inl l
  ·exact .inr ⟨k,c,e,cellK x c e _ z⟩
 ·obtain⟨v,z⟩:=I.cell x c e
  exact⟨v,cellK x c e v z⟩
 ·obtain⟨m,⟨o,_,_,ho,_⟩,_⟩:=I.loc
  exact free _ o (fun z=>(Kt _ z).2.1 rfl) ho I.free
 ·obtain⟨v,o,ho,hd⟩:=I.cell x c e
  exact free c o (fun z=>(Kt c z).2.2.1 x c e rfl) ho (I.Dv x c e)
 ·obtain⟨e,n,ne,nf,d⟩:=I.pin p hp
  have Qm:p.1∉ch:=fun z=>(Kt p.1 z).2.2.2 p hp rfl
  exact⟨keep p.1 p.2 ne nf Qm e n,free p.1 p.2 Qm e n,ne,nf,d⟩
theorem Inv.un {t':Nat}(I:Inv X pins σ H s)(u:Un X.fs [] H H' s.heap h')(BR:Ep X.prog X.w H' h'):Inv X pins σ H' { s with heap:=h',toks:=t' }:=by
 obtain⟨m,⟨o,es,ep,ho,r⟩,_⟩:=id I.loc
 obtain⟨sl,hL⟩:=u.any ho I.free (by simp)
 exact I.step (g':=s.gens) (d':=s.drawn) (ch:=[]) (fun _ z=>nomatch z) (fun b o _ hb _ e n=>u.keep b o e n hb (by simp)) (fun b o _ hb _ e n=>u.slot b o e n hb (by simp)) (fun b o _ e n=>u.free b o e n (by simp)) (fun b o _ e=>u.there b o e (by simp)) u.GB u.FF u.FY (fun m' hm=>by
  obtain⟨o',Ts,O5,FV,r'⟩:=hm
  rw[ho]at FV;cases FV
  exact⟨_,Ts,O5,hL,r'⟩) BR I.bare
theorem Inv.call {g':Array GenState}{t':Nat}{d':Drawn}{ch:List Addr} (I:Inv X pins σ H s) (u:Un (Je X.stack) ch H H' s.heap h') (BR:Ep X.prog X.w H' h') (hg:AllBare g')
  (Kt:∀ b∈ch,(b∈X.ex\/X.s₀.heap.objs.size<=b)/\b≠X.env.locals/\(∀ x c,X.env.cells.lookup x=some c->c≠b)/\∀ p∈X.pn++pins,p.1≠b):
  Inv X pins σ H' { s with heap:=h',gens:=g',drawn:=d',toks:=t' }:=by
 obtain⟨m,⟨o,es,ep,ho,r⟩,_⟩:=id I.loc
 obtain⟨sl,hL⟩:=u.any ho I.free fun z=>(Kt _ z).2.1 rfl
 exact I.step (ch:=ch) Kt (fun b o hL hb hc e n=>u.keep b o e n (fun z=>(yx.mp (I.HU b z)).elim hL hb) hc) (fun b o _ _ hc e n=>u.any e n hc) (fun b o hc e n=>u.free b o e n hc) (fun b o hc e=>u.there b o e hc) u.GB u.FF u.FY (fun m' hm=>by
  obtain⟨o',Ts,O5,FV,r'⟩:=hm
  rw[ho]at FV;cases FV
  exact⟨_,Ts,O5,hL,r'⟩) BR hg
theorem Inv.turned {t':Nat}{it:Addr} (I:Inv X pins σ H s) (k:∀ b o,b≠it->s.heap.get? b=some o->h'.get? b=some o) (hn:H it=none) (hL:it≠X.env.locals)
  (h1:it∈X.ex\/X.s₀.heap.objs.size<=it) (h2:∀ x c,X.env.cells.lookup x=some c->c≠it) (h3:∀ p∈X.pn++pins,p.1≠it):Inv X pins σ H { s with heap:=h',toks:=t' }:=by
 have Xq:∀ b u,H b=some u->b≠it:=fun b u e z=>by rw[z,hn]at e;cases e
 refine I.step (g':=s.gens) (d':=s.drawn) (ch:=[it]) (fun b hb=>?_) (fun b o _ _ hc e _=>k b o (fun z=>hc (by simp[z])) e) (fun b o _ _ hc e _=>⟨o.slots,k b o (fun z=>hc (by simp[z])) e⟩) (fun _ _ _ _ n=>n)
  (fun b o hc e=>⟨o,k b o (fun z=>hc (by simp[z])) e⟩) (fun _ _ e=>e) (fun _ _ _ e=>e) (fun b ps e=>⟨#[],by rw[e];simp⟩) (fun m hm=>?_) (fun b u e=>?_) I.bare
 ·have e:b=it:=by simpa using hb
  subst e
  exact⟨h1,hL,h2,h3⟩
 ·obtain⟨o,es,ep,ho,r⟩:=hm
  exact⟨o,es,ep,k _ o (Ne.symm hL) ho,r⟩
 ·refine (I.BR b u e).Fg (fun c v hc q=>k c v ?_ q) (fun _ q=>q) fun _ _ q=>q
  rcases hc with z|z
  ·rw[z];exact Xq b u e
  ·exact Xq c _ z
theorem Inv.tok (I:Inv X pins σ H s)(t:Nat):Inv X pins σ H { s with toks:=t }:=I.un (h':=s.heap) (t':=t) Un.refl I.BR
theorem Inv.kept {t':Nat}(I:Inv X pins σ H s)(k:∀ b u,s.heap.get? b=some u->h'.get? b=some u):Inv X pins σ H { s with heap:=h',toks:=t' }:=I.un (Un.kept k) (I.BR.kept k)
theorem Inv.laid {a:Addr}{o:HO}{t':Nat} (I:Inv X pins σ H s) (k:∀ b u,s.heap.get? b=some u->h'.get? b=some u) (hp:s.heap.objs.size<=a) (new:BN X.prog X.w (upd H a o) h' a o):
  Inv X pins σ (upd H a o) { s with heap:=h',toks:=t' }:=I.un (Un.laid k hp (I.BR.fresh hp)) (I.BR.laid k hp new)
theorem Inv.write {x e:Addr}{o:HO}{t':Nat} (I:Inv X pins σ H s) (mu:S9 (H x)) (he:e=x\/H e=some (.own x)) (k:∀ b u,b≠e->s.heap.get? b=some u->h'.get? b=some u) (OX:∃ u,h'.get? e=some u)
  (new:BN X.prog X.w (upd H x o) h' x o):Inv X pins σ (upd H x o) { s with heap:=h',toks:=t' }:=I.un (Un.write mu he k OX) (I.BR.write mu he k OX new)
theorem Inv.De {Lx:List (Addr×Obj)}(I:Inv X pins σ H s)(h:∀ p∈Lx,s.heap.get? p.1=some p.2/\H p.1=none/\p.1≠X.env.locals/\p.1∉X.fs/\∀ v,p.2.data≠.cell v):Inv X Lx σ H s:=
 ⟨I.ok,I.os,I.bare,I.base,I.loc,I.cell,I.free,I.Dv,fun p hp=>(yF.mp hp).elim (fun z=>I.pin p (yY _ z)) (h p),I.BR,I.len⟩
theorem qj {N:List Str}(hN:N.Nodup){i j:Nat}{x:Str} (a:N[i]?=some x) (b:N[j]?=some x):i=j:=by
 obtain⟨h1,e1⟩:=yb.mp a
 obtain⟨h2,e2⟩:=yb.mp b
 exact (Bj hN).mp (e1.trans e2.symm)
theorem mC {M:Model}{A:Around}{E:Value->Shared->Prop}{i:Nat}{x:Str}{v:V}{u:Value}{Q:Unit->Shared->Prop} (I:Inv X pins σ H s) (hN:X.N.Nodup) (hi:X.N[i]?=some x) (hx:Loc X.env.scope x) (r:RelV v u)
  (h:∀ s',Inv X pins (σ.set i (some v)) H s'->(∃ a,Heap.SameBut a s.heap s'.heap/\(a=X.env.locals\/X.env.cells.lookup x=some a))->Q () s') (hf:X.fn x=true\/X.env.scope.names.lookup x=some .local:=by first|exact .inl rfl|exact .inr rfl|assumption):wpAny M A (storeName X.env x u) Q E s:=by
 obtain⟨m,hn,hl⟩:=id I.loc
 have W4:(X.env.scope.kind==.class || (X.env.scope.kind==.module&&X.env.locals != X.env.globals))=false:=by rw[I.ok.kind];rfl
 have hiσ:i<σ.length:=by rw[I.len];exact (yb.mp hi).1
 have O9:=I.O9
 have tracked:∀ {a:Addr}{h':Heap},(∃ o,s.heap.get? a=some o/\H a=none)->Heap.SameBut a s.heap h'->Ep X.prog X.w H h':=fun {a h'} ha hs b ob e=>by
  obtain⟨_,_,HD⟩:=ha
  refine (I.BR b ob e).Fg (fun c w' hc q=>(hs.2 c ?_).trans q) (fun _ q=>q) fun _ _ q=>q
  rintro rfl
  rcases hc with rfl|hc
  ·rw[HD]at e;cases e
  ·rw[HD]at hc;cases hc
 rcases hx with hk|hk
 ·refine wpAny_storeName_local hk hn (fun h' KO hs=>?_) W4
  obtain⟨oL,_,_,R4,_⟩:=id hn
  refine h _ ⟨I.ok,I.os,I.bare,⟨fun b o e n hb hx=>?_,fun b o e n hb hx=>?_,I.base.free,fun b o e hx=>?_,I.base.GB,I.base.FF,I.base.FY⟩,⟨_,KO,fun j y v' e1 e2 e3=>?_⟩,fun y c e=>?_,I.free,I.Dv,fun p hp=>?_,tracked ⟨oL,R4,I.free⟩ hs,by simpa using I.len⟩ ⟨_,hs,.inl rfl⟩
  ·exact (hs.2 b (z9 (yG (yH e) I.ok.above))).trans (I.base.keep b o e n hb hx)
  ·obtain⟨sl,e1⟩:=I.base.slot b o e n hb hx
   exact⟨sl,(hs.2 b (z9 (yG (yH e) I.ok.above))).trans e1⟩
  ·obtain⟨o',e1⟩:=I.base.there b o e hx
   exact⟨o',(hs.2 b (z9 (yG (yH e) I.ok.above))).trans e1⟩
  ·by_cases hj:j=i
   ·subst hj
    rw[hi]at e1;cases e1
    rw[List.getElem?_set_self hiσ]at e2
    cases e2
    exact⟨u,r,.inl ⟨hk,by simp⟩⟩
   ·rw[List.getElem?_set_ne (Ne.symm hj)]at e2
    obtain⟨u',r',q⟩:=hl j y v' e1 e2 e3
    refine⟨u',r',?_⟩
    rcases q with⟨k,e⟩|⟨k,c,e,z⟩
    ·refine .inl ⟨k,?_⟩
     have:y≠x:=fun e=>hj (qj hN e1 (e▸hi))
     simp[this,e]
    ·exact .inr ⟨k,c,e,z.sameBut hs (O9 y c e)⟩
  ·obtain⟨w',z⟩:=I.cell y c e
   exact⟨w',z.sameBut hs (O9 y c e)⟩
  ·obtain⟨e,n,ne,nf,d⟩:=I.pin p hp
   exact⟨(hs.2 p.1 ne).trans e,n,ne,nf,d⟩
 ·have VW:X.fn x=true:=by
   rcases hf with z|z
   ·exact z
   ·rw[z]at hk;cases hk
  obtain⟨c,hc⟩:=I.ok.has x (.inl hk)
  obtain⟨w',z⟩:=I.cell x c hc
  refine wpAny_storeName_cell I.ok.kind hk hc z (fun h' KU hs=>?_)
  obtain⟨oc,Yg,VD⟩:=id z
  refine h { s with heap:=h' } ⟨I.ok,I.os,I.bare,⟨fun b o e n hb hx=>?_,fun b o e n hb hx=>?_,I.base.free,fun b o e hx=>?_,I.base.GB,I.base.FF,I.base.FY⟩,⟨m,hn.sameBut hs (Ne.symm (O9 x c hc)),fun j y v' e1 e2 e3=>?_⟩,fun y c' e=>?_,I.free,I.Dv,fun p hp=>?_,tracked ⟨oc,Yg,I.Dv x c hc⟩ hs,by simpa using I.len⟩ ⟨c,hs,.inr hc⟩
  ·exact (hs.2 b (z9 (yG (yH e) (I.ok.RQ x c VW hc)))).trans (I.base.keep b o e n hb hx)
  ·obtain⟨sl,e1⟩:=I.base.slot b o e n hb hx
   exact⟨sl,(hs.2 b (z9 (yG (yH e) (I.ok.RQ x c VW hc)))).trans e1⟩
  ·obtain⟨o',e1⟩:=I.base.there b o e hx
   exact⟨o',(hs.2 b (z9 (yG (yH e) (I.ok.RQ x c VW hc)))).trans e1⟩
  ·by_cases hj:j=i
   ·subst hj
    rw[hi]at e1;cases e1
    rw[List.getElem?_set_self hiσ]at e2
    cases e2
    exact⟨u,r,.inr ⟨.inl hk,c,hc,KU⟩⟩
   ·rw[List.getElem?_set_ne (Ne.symm hj)]at e2
    obtain⟨u',r',q⟩:=hl j y v' e1 e2 e3
    refine⟨u',r',?_⟩
    rcases q with q|⟨k,c',e,z'⟩
    ·exact .inl q
    ·refine .inr ⟨k,c',e,z'.sameBut hs ?_⟩
     rintro rfl
     exact hj (qj hN e1 (I.ok.inj _ _ _ e hc▸hi))
  ·by_cases Js:c'=c
   ·subst Js;exact⟨_,KU⟩
   ·obtain⟨w2,z2⟩:=I.cell y c' e
    exact⟨w2,z2.sameBut hs Js⟩
  ·obtain⟨e,n,ne,nf,d⟩:=I.pin p hp
   refine⟨(hs.2 p.1 ?_).trans e,n,ne,nf,d⟩
   intro q
   rw[q,Yg]at e
   have q':oc=p.2:=Option.some.inj e
   exact d w' (by rw[<- q'];exact VD)
theorem fm {M:Model}{A:Around}{E:Value->Shared->Prop}{i:Nat}{x:Str}{v:V}{u:Value}{Q:Unit->Shared->Prop} (I:Inv X pins σ H s) (hN:X.N.Nodup) (hi:X.N[i]?=some x) (hx:Loc X.env.scope x) (r:RelV v u)
  (h:∀ s',Inv X pins (σ.set i (some v)) H s'->Q () s') (hf:X.fn x=true\/X.env.scope.names.lookup x=some .local:=by first|exact .inl rfl|exact .inr rfl|assumption):wpAny M A (storeName X.env x u) Q E s:=
 mC I hN hi hx r (fun s' I' _=>h s' I') hf
theorem Inv.RP {s':Shared}{ch:List Addr} (I:Inv X pins σ H s) (ho:s'.os=s.os) (u:Un (Je X.stack) ch H H' s.heap s'.heap) (BR:Ep X.prog X.w H' s'.heap) (hg:AllBare s'.gens)
  (Kt:∀ b∈ch,(b∈X.ex\/X.s₀.heap.objs.size<=b)/\b≠X.env.locals/\(∀ x c,X.env.cells.lookup x=some c->c≠b)/\∀ p∈X.pn++pins,p.1≠b):Inv X pins σ H' s':=by
 obtain⟨h',g',d',t',o'⟩:=s'
 have e:o'=s.os:=ho
 subst e
 exact I.call (g':=g') (t':=t') (d':=d') u BR hg Kt
end
noncomputable abbrev XK:=Value->Option Addr->Hp->Prop
noncomputable abbrev St:=List (Option V)
noncomputable abbrev VK:=V->Hp->Prop
noncomputable abbrev TE:=St->Hp->VK->Prop
noncomputable abbrev TT:=St->Hp->(Bool->Hp->Prop)->Prop
noncomputable abbrev TA:=St->Hp->(List V->Hp->Prop)->Prop
structure gW where
  nx : St -> Hp -> Prop
  rt : VK
  bk : St -> Hp -> Prop := fun _ _ => False
  ct : St -> Hp -> Prop := fun _ _ => False
noncomputable abbrev TS:=gW->St->Hp->Prop
noncomputable def EP (X:Cx)(pins:List (Addr×Obj))(σ:St)(Q:VK)(u:Value)(s':Shared):Prop:=∃ v H',Inv X pins σ H' s'/\RelV v u/\Q v H'
noncomputable def TP (X:Cx)(pins:List (Addr×Obj))(σ:St)(Q:Bool->Hp->Prop)(b:Bool)(s':Shared):Prop:=∃ H',Inv X pins σ H' s'/\Q b H'
noncomputable def AP (X:Cx)(pins:List (Addr×Obj))(σ:St)(Q:List V->Hp->Prop)(us:List Value)(s':Shared):Prop:=∃ vs H',Inv X pins σ H' s'/\Vals vs us/\Q vs H'
noncomputable def SP (X:Cx)(pins:List (Addr×Obj))(D:gW)(f:Flow)(s':Shared):Prop:=
 match f with
 | .next=>∃ σ' H',Inv X pins σ' H' s'/\D.nx σ' H'
 | .brk=>∃ σ' H',Inv X pins σ' H' s'/\D.bk σ' H'
 | .cont=>∃ σ' H',Inv X pins σ' H' s'/\D.ct σ' H'
 | .ret u=>∃ v σ' H',Inv X pins σ' H' s'/\RelV v u/\D.rt v H'
noncomputable def PE (X:Cx)(e:Expr)(t:TE):Prop:=
 ∀ (pins:List (Addr×Obj))(s:Shared)(σ:St)(H:Hp)(Q:VK),Inv X pins σ H s->t σ H Q->wpAny (model X.prog X.w) X.A (eval e X.env) (EP X pins σ Q) X.xe s
noncomputable def PT (X:Cx)(e:Expr)(t:TT):Prop:=
 ∀ (pins:List (Addr×Obj))(s:Shared)(σ:St)(H:Hp)(Q:Bool->Hp->Prop),Inv X pins σ H s->t σ H Q->wpAny (model X.prog X.w) X.A (isTrue e X.env (eval e X.env)) (TP X pins σ Q) X.xe s
noncomputable def PW (X:Cx)(e:Expr)(t:TT):Prop:=
 ∀ (whole:Sem Value)(pins:List (Addr×Obj))(s:Shared)(σ:St)(H:Hp)(Q:Bool->Hp->Prop),Inv X pins σ H s->t σ H Q->wpAny (model X.prog X.w) X.A (isTrue e X.env whole) (TP X pins σ Q) X.xe s
theorem PW.pt {X:Cx}{e:Expr}{t:TT} (h:PW X e t):PT X e t:=h _
noncomputable def PA (X:Cx)(es:List Expr)(t:TA):Prop:=
 ∀ (pos:Pos)(pins:List (Addr×Obj))(s:Shared)(σ:St)(H:Hp)(Q:List V->Hp->Prop),Inv X pins σ H s->t σ H Q->wpAny (model X.prog X.w) X.A (spliced (backTo pos (starEach es X.env))) (AP X pins σ Q) X.xe s
noncomputable def PS (X:Cx)(st:Stmt)(t:TS):Prop:=
 ∀ (pins:List (Addr×Obj))(s:Shared)(σ:St)(H:Hp)(D:gW),Inv X pins σ H s->t D σ H->wpAny (model X.prog X.w) X.A (exec st X.env) (SP X pins D) X.xe s
noncomputable def GA (X:Cx)(st:List Stmt)(t:TS):Prop:=
 ∀ (pins:List (Addr×Obj))(s:Shared)(σ:St)(H:Hp)(D:gW),Inv X pins σ H s->t D σ H->wpAny (model X.prog X.w) X.A (execs st X.env) (SP X pins D) X.xe s
theorem Ca {α:Type}{t:Sem α}{Q Q':α->Shared->Prop}{M:Model}{A:Around}{E:Value->Shared->Prop}{s:Shared} (h:wpAny M A t Q E s) (hQ:∀ a s,Q a s->Q' a s):wpAny M A t Q' E s:=zR h hQ fun _ _ x=>x
section
variable {X : Cx}
noncomputable def gq (i:Nat):TE:=fun σ H Q=>∃ v,σ[i]?=some (some v)/\Q v H
noncomputable def tC (v:V):TE:=fun _ H Q=>Q v H
theorem MD {i:Nat}{x:Str}{pos:Pos} (hN:X.N[i]?=some x) (hv:Pd X.env.scope x) (hd:(x==("__debug__":Str))=false:=by decide) (G8:(x==("__classdict__":Str))=false:=by decide):PE X (.Name x pos) (gq i):=by
 intro pins s σ H Q I h
 obtain⟨v,e,h⟩:=h
 obtain⟨m,hn,hl⟩:=I.loc
 obtain⟨u,r,l⟩:=hl i x v hN e hv
 have fin:EP X pins σ Q u s:=⟨v,H,I,r,h⟩
 rcases l with⟨hk,hm⟩|⟨hk,c,hc,IV⟩
 ·exact wpAny_Name (wpAny_loadName_local I.ok.kind hk hn hm fin) hd
 ·rcases hk with hk|hk
  ·exact wpAny_Name (wpAny_loadName_cell I.ok.kind hk hc IV fin) hd
  ·exact wpAny_Name (wpAny_loadName_free I.ok.kind hk hc IV fin G8) hd
theorem ag {i j pos}:PE X (.Constant (.int i) j pos) (tC (.int i)):=fun _ _ _ H _ I h=>wpAny_Constant_int ⟨.int i,H,I.tok _,⟨_,rfl⟩,h⟩
theorem bM {b j pos}:PE X (.Constant (.bool b) j pos) (tC (.bl b)):=fun _ _ _ H _ I h=>Constant_bool ⟨.bl b,H,I,rfl,h⟩
theorem cv {j pos}:PE X (.Constant .none j pos) (tC .non):=fun _ _ _ H _ I h=>Constant_none ⟨.non,H,I,rfl,h⟩
theorem dm {x j pos}:PE X (.Constant (.str x) j pos) (tC (.str x)):=fun _ _ _ H _ I h=>Calls.Constant_str ⟨.str x,H,I.tok _,⟨_,rfl⟩,h⟩
noncomputable def Gl (X:Cx)(x:Str):Prop:=X.env.kindOf x=some .globalImplicit
theorem jR {E:Value->Shared->Prop}{pins:List (Addr×Obj)}{s:Shared}{σ:St}{H:Hp}{x:Str}{u:Value}{pos:Pos}{Q:Value->Shared->Prop} (I:Inv X pins σ H s) (hg:Gl X x) (hm:X.mg x=some u) (h:Q u s)
  (hd:(x==("__debug__":Str))=false:=by decide):wpAny (model X.prog X.w) X.A (eval (.Name x pos) X.env) Q E s:=
 Calls.Name_function_global I.ok.kind hg (Calls.loadGlobal_global (by rw[I.ok.glob];exact I.mod.glob.keeps I.bk) hm h) hd
theorem dL {E:Value->Shared->Prop}{pins:List (Addr×Obj)}{s:Shared}{σ:St}{H:Hp}{x:Str}{u:Value}{pos:Pos}{Q:Value->Shared->Prop} (I:Inv X pins σ H s) (hg:Gl X x) (hm:X.mg x=none) (hv:bootBuiltins x=some u) (h:Q u s)
  (hn:x≠"__name__":=by decide) (hd:(x==("__debug__":Str))=false:=by decide):wpAny (model X.prog X.w) X.A (eval (.Name x pos) X.env) Q E s:=by
 obtain⟨mb,h1,h2⟩:=I.mod.blt
 exact Calls.Name_function_global I.ok.kind hg (Calls.loadGlobal_builtin (by rw[I.ok.glob];exact I.mod.glob.keeps I.bk) hm (by rw[I.ok.blt];exact h1.keeps I.bk) ((h2 x hn).trans hv) h) hd
theorem eO {x:Str}{v:V}{u:Value}{pos:Pos} (hg:Gl X x) (hm:X.mg x=some u) (r:RelV v u) (hd:(x==("__debug__":Str))=false:=by decide):PE X (.Name x pos) (tC v):=
 fun _ _ _ H _ I h=>jR I hg hm ⟨v,H,I,r,h⟩ hd
theorem cY {x:Str}{v:V}{u:Value}{pos:Pos} (hg:Gl X x) (hm:X.mg x=none) (hv:bootBuiltins x=some u) (r:RelV v u) (hn:x≠"__name__":=by decide) (hd:(x==("__debug__":Str))=false:=by decide):PE X (.Name x pos) (tC v):=
 fun _ _ _ H _ I h=>dL I hg hm hv ⟨v,H,I,r,h⟩ hn hd
variable {a b : Expr}{ta tb : TE}{pos : Pos}
noncomputable def PC (X:Cx)(op:CmpOp)(a b:Expr)(t:TE):Prop:=
 ∀ (pins:List (Addr×Obj))(s:Shared)(σ:St)(H:Hp)(Q:VK),Inv X pins σ H s->t σ H Q->
  wpAny (model X.prog X.w) X.A (eval a X.env) (fun v s₁=>wpAny (model X.prog X.w) X.A (eval b X.env) (fun u s₂=>wpAny (model X.prog X.w) X.A (compareOp op v u) (EP X pins σ Q) X.xe s₂) X.xe s₁) X.xe s
noncomputable def tB (t:TE):TT:=fun σ H Q=>t σ H fun x H1=>∃ c,x=.bl c/\Q c H1
theorem iT {op:CmpOp}{t:TE} (h:PC X op a b t) (h1:behindInMarks op b=false:=by first|exact Qg _ (by decide) (by decide)|rfl):PT X (.Compare a [op] [b] pos) (tB t):=by
 intro pins s σ H Q I hw
 refine wpAny_isTrue_Compare1 (Ca (h pins s σ H _ I hw) fun v s1 h1=>Ca h1 fun u s2 h2=>Ca h2 fun c s3 j'=>?_) h1
 obtain⟨x,H1,I1,r1,q1⟩:=j'
 obtain⟨d,rfl,q⟩:=q1
 cases r1
 exact Ac ⟨H1,I1,q⟩
theorem bG {e:Expr}{t:TE} (h:PE X e t) (he:∀ whole,isTrue e X.env whole=(do let v <- whole;standAt e.pos;holding [v] (truthy v)):=by intro _;rfl):PT X e (tB t):=by
 intro pins s σ H Q I hw
 refine isTrue_plain (Ca (h pins s σ H _ I hw) fun v s1 j'=>?_) (he _)
 obtain⟨x,H1,I1,r1,q1⟩:=j'
 obtain⟨d,rfl,q⟩:=q1
 cases r1
 exact Ac ⟨H1,I1,q⟩
variable {tA Su : TT}{rest : List Expr}
noncomputable def Um (t u:TT):TT:=fun σ H Q=>t σ H fun c H1=>if c=true then u σ H1 Q else Q false H1
noncomputable def ZD (t u:TT):TT:=fun σ H Q=>t σ H fun c H1=>if c=true then Q true H1 else u σ H1 Q
noncomputable def Ue (t:TT):TT:=fun σ H Q=>t σ H fun c H1=>Q (!c) H1
theorem eM (ha:PT X a tA):PW X (.BoolOp .And [a] pos) tA:=by
 intro wh pins s σ H Q I h
 refine isTrue_and (Ca (ha pins s σ H Q I h) fun c s1 e=>?_)
 cases c with
 | true=>exact isTrue_and_nil e
 | false=>exact e
theorem eJ (ha:PT X a tA):PW X (.BoolOp .Or [a] pos) tA:=by
 intro wh pins s σ H Q I h
 refine isTrue_or (Ca (ha pins s σ H Q I h) fun c s1 e=>?_)
 cases c with
 | false=>exact isTrue_or_nil e
 | true=>exact e
theorem gK (ha:PT X a tA)(hb:PW X (.BoolOp .And (b::rest) pos) Su):PW X (.BoolOp .And (a::b::rest) pos) (Um tA Su):=by
 intro wh pins s σ H Q I h
 refine isTrue_and (Ca (ha pins s σ H _ I h) fun c s1 j'=>?_)
 obtain⟨H1,I1,q1⟩:=j'
 cases c with
 | true=>exact hb wh pins s1 σ H1 Q I1 q1
 | false=>exact⟨H1,I1,q1⟩
theorem dY (ha:PT X a tA)(hb:PW X (.BoolOp .Or (b::rest) pos) Su):PW X (.BoolOp .Or (a::b::rest) pos) (ZD tA Su):=by
 intro wh pins s σ H Q I h
 refine isTrue_or (Ca (ha pins s σ H _ I h) fun c s1 j'=>?_)
 obtain⟨H1,I1,q1⟩:=j'
 cases c with
 | true=>exact⟨H1,I1,q1⟩
 | false=>exact hb wh pins s1 σ H1 Q I1 q1
theorem bZ (ha:PT X a tA):PT X (.UnaryOp .Not a pos) (Ue tA):=by
 intro pins s σ H Q I h
 exact isTrue_not (ha pins s σ H (fun c H1=>Q (!c) H1) I h)
noncomputable def PM (ta tb:TE):TE:=fun σ H Q=>ta σ H fun x H1=>∃ c,x=.bl c/\if c=true then tb σ H1 Q else Q (.bl false) H1
noncomputable def Px (ta:TE):TE:=fun σ H Q=>ta σ H fun x H1=>∃ c,x=.bl c/\Q (.bl (!c)) H1
theorem fI {op}{t:TE} (h:PE X a t):PE X (.BoolOp op [a] pos) t:=fun pins s σ H Q I hw=>BoolOp_one (h pins s σ H Q I hw)
theorem fK (ha:PE X a ta)(hb:PE X (.BoolOp .And (b::rest) pos) tb):PE X (.BoolOp .And (a::b::rest) pos) (PM ta tb):=by
 intro pins s σ H Q I h
 refine BoolOp_and (Ca (ha pins s σ H _ I h) fun v s1 j'=>?_)
 obtain⟨x,H1,I1,r1,q1⟩:=j'
 obtain⟨c,rfl,q1⟩:=q1
 cases r1
 refine Ac ?_
 cases c with
 | true=>exact hb pins s1 σ H1 Q I1 q1
 | false=>exact⟨.bl false,H1,I1,rfl,q1⟩
theorem MF (ha:PE X a ta):PE X (.UnaryOp .Not a pos) (Px ta):=by
 intro pins s σ H Q I h
 refine UnaryOp_ (Ca (ha pins s σ H _ I h) fun v s1 j'=>?_)
 obtain⟨x,H1,I1,r1,q1⟩:=j'
 obtain⟨c,rfl,q1⟩:=q1
 cases r1
 exact not_of (Ac ⟨.bl (!c),H1,I1,rfl,q1⟩)
noncomputable def ZE (t:TT)(ta tb:TE):TE:=fun σ H Q=>t σ H fun c H1=>if c=true then ta σ H1 Q else tb σ H1 Q
theorem kN {c:Expr}(hc:PT X c tA)(ha:PE X a ta)(hb:PE X b tb):PE X (.IfExp c a b pos) (ZE tA ta tb):=by
 intro pins s σ H Q I h
 refine wpAny_IfExp (Ca (hc pins s σ H _ I h) fun d s1 j'=>?_)
 obtain⟨H1,I1,q1⟩:=j'
 cases d with
 | true=>exact ha pins s1 σ H1 Q I1 q1
 | false=>exact hb pins s1 σ H1 Q I1 q1
end
noncomputable def B' (K:PySem.W.Frag)(H:Hp)(a:Addr)(xs:List V):Prop:=
 Rd H a (.lst xs) \/
  ∃ (o:Obj)(its:Array Value)(n:Nat),K.lookup a=some o/\o.cls=.type "list"/\o.dict=none/\o.data=.seq its n/\its.size<=sizeLine/\Vals xs its.toList
noncomputable def CT (K:PySem.W.Frag)(H:Hp)(a:Addr)(xs:List V):Prop:=
 Rd H a (.tup xs) \/
  ∃ (o:Obj)(its:Array Value)(n:Nat),K.lookup a=some o/\o.cls=.type "tuple"/\o.data=.seq its n/\its.size<=sizeLine/\Vals xs its.toList
noncomputable def WN:Value->Option V
 | .none=>some .non
 | .bool b=>some (.bl b)
 | .int i _=>some (.int i)
 | .str x _=>some (.str x)
 | .bytes b _=>some (.byt b)
 | .float b _=>some (.flt b)
 | .ref a=>some (.ref a)
 | .type n=>some (.ty n)
 | _=>none
theorem RelV.abs {x:V}{u:Value} (r:RelV x u):WN u=some x:=by
 cases x with
 | non=>cases r;rfl
 | bl _=>cases r;rfl
 | int _=>obtain⟨t,rfl⟩:=r;rfl
 | str _=>obtain⟨t,rfl⟩:=r;rfl
 | byt _=>obtain⟨t,rfl⟩:=r;rfl
 | flt _=>obtain⟨t,rfl⟩:=r;rfl
 | ref _=>cases r;rfl
 | ty _=>cases r;rfl
theorem RelV.inj {x y:V}{u:Value} (r:RelV x u) (q:RelV y u):x=y:=Option.some.inj (r.abs.symm.trans q.abs)
theorem Vals.inj:∀ {xs ys:List V}{us:List Value},Vals xs us->Vals ys us->xs=ys
 | _,_,_,.nil,.nil=>rfl
 | _,_,_,.cons r t,.cons r' t'=>by rw[r.inj r',Vals.inj t t']
section
variable {X : Cx}{pins : List (Addr×Obj)}{σ : St}{H : Hp}{s : Shared}{a : Addr}{xs ys : List V}
theorem B'.of {K:PySem.W.Frag}(h:H a=some (.lst xs)):B' K H a xs:=.inl (.inl h)
theorem CT.of {K:PySem.W.Frag}(h:H a=some (.tup xs)):CT K H a xs:=.inl (.inl h)
theorem Inv.list (I:Inv X pins σ H s)(h:B' X.K H a xs):∃ its:List Value,Vals xs its/\PlainL s.heap a its.toArray/\xs.length<=sizeLine:=by
 rcases h with h|⟨o,its,n,hk,hc,hd,hs,hz,r⟩
 ·obtain⟨z,its,n,r,e⟩:=h.ok I.BR
  exact⟨its,r,⟨_,n,e,rfl,rfl,rfl⟩,z⟩
 ·refine⟨its.toList,r,⟨o,n,I.ET a o hk,hc,hd,by simpa using hs⟩,?_⟩
  have e:=r.length
  simp only[zK]at e
  omega
theorem Inv.tuple (I:Inv X pins σ H s)(h:CT X.K H a xs):∃ its:List Value,Vals xs its/\IsTup s.heap a its.toArray/\xs.length<=sizeLine:=by
 rcases h with h|⟨o,its,n,hk,hc,hs,hz,r⟩
 ·obtain⟨z,its,r,p⟩:=h.ok I.BR
  exact⟨its,r,p,z⟩
 ·refine⟨its.toList,r,⟨o,I.ET a o hk,hc,n,by simpa using hs⟩,?_⟩
  have e:=r.length
  simp only[zK]at e
  omega
theorem Inv.Dn (I:Inv X pins σ H s)(h:B' X.K H a xs)(h':B' X.K H a ys):xs=ys:=by
 obtain⟨its,r,⟨o,n,e,_,_,d⟩,_⟩:=I.list h
 obtain⟨its',r',⟨o',n',e',_,_,d'⟩,_⟩:=I.list h'
 rw[e]at e';cases e'
 rw[d]at d'
 injection d' with d1 _
 have:its=its':=by simpa using congrArg Array.toList d1
 subst this
 exact r.inj r'
end
noncomputable abbrev Cx.FX (X:Cx)(E:Value->Shared->Prop):Cx:={ X with xe:=E }
noncomputable abbrev Cx.JJ (X:Cx):Cx:=X.FX fun _ _=>False
theorem Cx.Ok.FX {X:Cx}(ok:X.Ok)(E:Value->Shared->Prop):(X.FX E).Ok:=
 ⟨ok.mod,ok.kind,ok.glob,ok.blt,ok.above,ok.inj,ok.has,ok.RQ,ok.hd,ok.frames,ok.Sv,ok.YT,ok.bs,ok.Ke,ok.J8,ok.KZ,ok.Fj,ok.O0⟩
theorem Cx.Ok.DV {X:Cx}{E:Value->Shared->Prop} (ok:(X.FX E).Ok):X.Ok:=
 ⟨ok.mod,ok.kind,ok.glob,ok.blt,ok.above,ok.inj,ok.has,ok.RQ,ok.hd,ok.frames,ok.Sv,ok.YT,ok.bs,ok.Ke,ok.J8,ok.KZ,ok.Fj,ok.O0⟩
section
variable {X : Cx}{pins : List (Addr×Obj)}{σ : St}{H : Hp}{s : Shared}{E : Value -> Shared -> Prop}
theorem Inv.FX (I:Inv X pins σ H s)(E:Value->Shared->Prop):Inv (X.FX E) pins σ H s:=⟨I.ok.FX E,I.os,I.bare,I.base,I.loc,I.cell,I.free,I.Dv,I.pin,I.BR,I.len⟩
theorem Inv.DV (I:Inv (X.FX E) pins σ H s):Inv X pins σ H s:=⟨I.ok.DV,I.os,I.bare,I.base,I.loc,I.cell,I.free,I.Dv,I.pin,I.BR,I.len⟩
theorem SP.DV {D:gW}{f:Flow}{s':Shared} (h:SP (X.FX E) pins D f s'):SP X pins D f s':=by
 cases f with
 | next=>obtain⟨σ',H',I,q⟩:=h;exact⟨σ',H',I.DV,q⟩
 | brk=>obtain⟨σ',H',I,q⟩:=h;exact⟨σ',H',I.DV,q⟩
 | cont=>obtain⟨σ',H',I,q⟩:=h;exact⟨σ',H',I.DV,q⟩
 | ret u=>obtain⟨v,σ',H',I,r,q⟩:=h;exact⟨v,σ',H',I.DV,r,q⟩
theorem GA.JJ {st:List Stmt}{t:TS} (h:GA X.JJ st t):GA X st t:=fun pins s σ H D I hw=>
 zR (h pins s σ H D (I.FX _) hw) (fun _ _ q=>q.DV) fun _ _ z=>False.elim z
end
section
variable {X : Cx}{st : Stmt}{rest : List Stmt}{t u : TS}{e : Expr}{te : TE}{pos : Pos}
noncomputable def Py:TS:=fun D σ H=>D.nx σ H
noncomputable def Ua (t u:TS):TS:=fun D σ H=>t { D with nx:=u D } σ H
theorem ay:GA X [] Py:=fun _ _ σ H _ I h=>wpAny_execs_nil ⟨σ,H,I,h⟩
theorem aa (h1:PS X st t)(h2:GA X rest u):GA X (st::rest) (Ua t u):=by
 intro pins s σ H D I h
 refine wpAny_execs_cons (Ca (h1 pins s σ H { D with nx:=u D } I h) fun f s1 q=>?_)
 cases f with
 | next=>
  obtain⟨σ',H',I',q⟩:=q
  exact h2 pins s1 σ' H' D I' q
 | ret v=>exact q
 | brk=>exact q
 | cont=>exact q
theorem ad (h1:PS X st t):GA X [st] t:=by
 intro pins s σ H D I h
 refine wpAny_execs_cons (Ca (h1 pins s σ H D I h) fun f s1 q=>?_)
 cases f with
 | next=>exact wpAny_execs_nil q
 | ret v=>exact q
 | brk=>exact q
 | cont=>exact q
theorem Inv.quiet {pins:List (Addr×Obj)}{σ:St}{H:Hp}{s:Shared} (I:Inv X pins σ H s):interactive X.env=false:=by simp[interactive,I.ok.kind]
noncomputable def Lr (te:TE):TS:=fun D σ H=>te σ H fun _ H1=>D.nx σ H1
theorem b8 (he:PE X e te)(hs:swapsWith e none pos.line X.env=pure false:=by rfl):PS X (.Expr e pos) (Lr te):=by
 intro pins s σ H D I h
 exact wpAny_Expr_any (Ca (he pins s σ H _ I h) fun v s1 j'=>(by obtain⟨x,H1,I1,r1,q1⟩:=j';exact⟨σ,H1,I1,q1⟩)) I.quiet hs
noncomputable def Uc (te:TE):TS:=fun D σ H=>te σ H D.rt
theorem am (he:PE X e te):PS X (.Return (some e) pos) (Uc te):=by
 intro pins s σ H D I h
 exact wpAny_Return_some (Ca (he pins s σ H _ I h) fun v s1 j'=>(by obtain⟨x,H1,I1,r1,q1⟩:=j';exact⟨x,σ,H1,I1,r1,q1⟩))
noncomputable def Uh (c:TT)(t u:TS):TS:=fun D σ H=>c σ H fun b H1=>if b=true then t D σ H1 else u D σ H1
theorem aK {c:Expr}{a b:List Stmt}{tc:TT} (hc:PT X c tc) (ha:GA X a t) (hb:GA X b u):PS X (.If c a b pos) (Uh tc t u):=by
 intro pins s σ H D I h
 refine wpAny_If (Ca (hc pins s σ H _ I h) fun d s1 j'=>?_)
 obtain⟨H1,I1,q1⟩:=j'
 cases d with
 | true=>exact ha pins s1 σ H1 D I1 q1
 | false=>exact hb pins s1 σ H1 D I1 q1
noncomputable def Mf:TS:=fun _ _ _=>False
theorem bB:PS X st Mf:=fun _ _ _ _ _ _ h=>h.elim
end
noncomputable abbrev TG:=V->St->Hp->(St->Hp->Prop)->Prop
noncomputable abbrev M5:=List V->St->Hp->(St->Hp->Prop)->Prop
noncomputable def PG (X:Cx)(target:Expr)(t:TG):Prop:=
 ∀ (pins:List (Addr×Obj))(s:Shared)(σ:St)(H:Hp)(v:V)(u:Value)(Q:St->Hp->Prop),Inv X pins σ H s->RelV v u->t v σ H Q->
  wpAny (model X.prog X.w) X.A (assign target X.env u) (fun _ s'=>∃ σ' H',Inv X pins σ' H' s'/\Q σ' H') X.xe s
noncomputable def S7 (X:Cx)(ts:List Expr)(t:M5):Prop:=
 ∀ (pins:List (Addr×Obj))(s:Shared)(σ:St)(H:Hp)(vs:List V)(us:List Value)(Q:St->Hp->Prop),Inv X pins σ H s->Vals vs us->t vs σ H Q->
  wpAny (model X.prog X.w) X.A (assignInOrder ((assignEach ts X.env).map (·.2)) us) (fun _ s'=>∃ σ' H',Inv X pins σ' H' s'/\Q σ' H') X.xe s
noncomputable abbrev Oq:=V->V->V->Hp->(Hp->Prop)->Prop
noncomputable def S5 (X:Cx)(t:Oq):Prop:=
 ∀ (pins:List (Addr×Obj))(s:Shared)(σ:St)(H:Hp)(o i v:V)(ov iv u:Value)(Q:Hp->Prop),Inv X pins σ H s->RelV o ov->RelV i iv->RelV v u->t o i v H Q->
  wpAny (model X.prog X.w) X.A (setItem ov iv u) (fun _ s'=>∃ H',Inv X pins σ H' s'/\Q H') X.xe s
noncomputable abbrev TV:=V->V->Hp->VK->Prop
noncomputable def Zj (X:Cx)(op:Operator)(t:TV):Prop:=
 ∀ (pins:List (Addr×Obj))(s:Shared)(σ:St)(H:Hp)(x y:V)(v u:Value)(Q:VK),Inv X pins σ H s->RelV x v->RelV y u->t x y H Q->
  wpAny (model X.prog X.w) X.A (inplaceOp op v u) (EP X pins σ Q) X.xe s
section
variable {X : Cx}{pos : Pos}
noncomputable def aO (i:Nat):TG:=fun v σ H Q=>Q (σ.set i (some v)) H
theorem sW {i:Nat}{x:Str} (hN:X.N.Nodup) (hi:X.N[i]?=some x) (hx:Loc X.env.scope x) (hf:X.fn x=true\/X.env.scope.names.lookup x=some .local:=by first|exact .inl rfl|exact .inr rfl|assumption):PG X (.Name x pos) (aO i):=by
 intro pins s σ H v u Q I r h
 exact wpAny_assign_Name (fm I hN hi hx r (fun s' I'=>⟨_,H,I',h⟩) hf)
noncomputable def ox:M5:=fun vs σ H Q=>vs=[]/\Q σ H
noncomputable def cm (t:TG)(u:M5):M5:=fun vs σ H Q=>∃ v r,vs=v::r/\t v σ H fun σ' H'=>u r σ' H' Q
theorem aX:S7 X [] ox:=by
 intro pins s σ H vs us Q I r h
 obtain⟨e,h⟩:=h
 subst e
 cases r
 exact assignInOrder_nil ⟨σ,H,I,h⟩
theorem aj {e:Expr}{es:List Expr}{t:TG}{u:M5} (h1:PG X e t) (h2:S7 X es u)
  (hs:(assignEach (e::es) X.env).map (·.2)=assign e X.env::(assignEach es X.env).map (·.2):=by rfl):S7 X (e::es) (cm t u):=by
 intro pins s σ H vs us Q I r h
 obtain⟨v,vr,e1,h⟩:=h
 subst e1
 cases r with
 | cons r rr=>
  rw[hs]
  refine assignInOrder_cons (Ca (h1 pins s σ H _ _ _ I r h) fun _ s1 j'=>?_)
  obtain⟨σ1,H1,I1,q1⟩:=j'
  exact h2 pins s1 σ1 H1 _ _ Q I1 rr q1
noncomputable def mr (K:PySem.W.Frag)(n:Nat)(t:M5):TG:=fun v σ H Q=>∃ a xs,v=.ref a/\CT K H a xs/\xs.length=n/\t xs σ H Q
theorem MB {es:List Expr}{k:Nat}{t:M5}{n:Nat} (hc:X.calm=true) (h:S7 X es t)
  (hn:(assignEach es X.env).length=n:=by rfl) (IS:(assignEach es X.env).findIdx? (·.1)=none:=by rfl):PG X (.Tuple es k pos) (mr X.K n t):=by
 intro pins s σ H v u Q I r hw
 obtain⟨a,xs,e1,hq,hl,hw⟩:=hw
 subst e1
 cases r
 obtain⟨its,rv,ht,hz⟩:=I.tuple hq
 refine assign_Tuple_tuple (I.ok.hd hc) ht (by simp[hn,<- hl,rv.length]) IS fun h' hx=>?_
 have I1:Inv X pins σ H { s with heap:=h' }:=I.kept (t':=s.toks) fun b o e=>hx b o (z9 (yH e)) e
 exact h pins _ σ H xs _ Q I1 (by simpa using rv) hw
noncomputable def Wq (to ti:TE)(t:Oq):TG:=fun v σ H Q=>to σ H fun o H1=>ti σ H1 fun i H2=>t o i v H2 fun H3=>Q σ H3
theorem MC {o i:Expr}{to ti:TE}{t:Oq} (ho:PE X o to) (hi:PE X i ti) (hs:S5 X t)
  (ha:∀ v,assign (.Subscript o i pos) X.env v=(do
   let ov <- holding [v] (eval o X.env)
   let iv <- holding [v,ov] (eval i X.env)
   standAt pos
   holding [v,ov,iv] (setItem ov iv v)
   release [v,ov,iv] []):=by intro _;rfl):PG X (.Subscript o i pos) (Wq to ti t):=by
 intro pins s σ H v u Q I r h
 rw[ha]
 refine y9 (zY (Ca (ho pins s σ H _ I h) fun ov s1 j'=>?_))
 obtain⟨x,H1,I1,r1,q1⟩:=j'
 refine y9 (zY (Ca (hi pins s1 σ H1 _ I1 q1) fun iv s2 j'=>?_))
 obtain⟨y,H2,I2,r2,q2⟩:=j'
 refine y9 (BC (y9 (zY (Ca (hs pins s2 σ H2 x y v ov iv u _ I2 r1 r2 r q2) fun _ s3 j'=>?_))))
 obtain⟨H3,I3,q3⟩:=j'
 exact wpAny_release ⟨σ,H3,I3,q3⟩
noncomputable def u7 (te:TE)(g:TG):TS:=fun D σ H=>te σ H fun x H1=>g x σ H1 D.nx
theorem vq {tg e:Expr}{te:TE}{g:TG} (he:PE X e te) (hg:PG X tg g) (hs:swapsWithSole [tg] e pos.line X.env=pure false:=by rfl) (hw:swappedStores [tg] e X.env=pure none:=by rfl)
  (h1:(assignEach [tg] X.env).map (·.2)=[assign tg X.env]:=by rfl):PS X (.Assign [tg] e pos) (u7 te g):=by
 intro pins s σ H D I h
 refine wpAny_Assign_stores (Ca (he pins s σ H _ I h) fun v s1 j'=>?_) hs hw
 obtain⟨x,H1,I1,r1,q1⟩:=j'
 rw[h1]
 exact Ca (hg pins s1 σ H1 x v _ I1 r1 q1) fun _ s2 q=>q
theorem Mt {i:Nat}{x:Str}{e:Expr}{te:TE}{pos':Pos} (hN:X.N.Nodup) (hi:X.N[i]?=some x) (hx:Loc X.env.scope x) (he:PE X e te) (hs:swapsWith e (some (.Name x pos')) pos.line X.env=pure false:=by rfl) (hf:X.fn x=true\/X.env.scope.names.lookup x=some .local:=by first|exact .inl rfl|exact .inr rfl|assumption):
  PS X (.Assign [.Name x pos'] e pos) (u7 te (aO i)):=by
 intro pins s σ H D I h
 refine wpAny_Assign_Name (Ca (he pins s σ H _ I h) fun v s1 j'=>?_) hs
 obtain⟨y,H1,I1,r1,q1⟩:=j'
 exact fm I1 hN hi hx r1 (fun s2 I2=>⟨_,H1,I2,q1⟩) hf
noncomputable def Ud (i j:Nat)(ta:TA):TS:=fun D σ H=>ta σ H fun vs H1=>∃ v w,vs=[v,w]/\D.nx ((σ.set i (some v)).set j (some w)) H1
theorem Mu {i j:Nat}{x y:Str}{a b:Expr}{ta:TA}{px py pt:Pos}{kt k2 UA} (hc:X.calm=true) (hN:X.N.Nodup) (hi:X.N[i]?=some x) (hj:X.N[j]?=some y) (T8:i≠j)
  (hx:X.env.scope.names.lookup x=some .local) (hy:X.env.scope.names.lookup y=some .local) (ha:PA X [a,b] ta)
  (hw:swappedStores [.Tuple [.Name x px,.Name y py] kt pt] (.Tuple [a,b] k2 UA) X.env=pure (some [x,y]))
  (hs:swapsWithSole [.Tuple [.Name x px,.Name y py] kt pt] (.Tuple [a,b] k2 UA) pos.line X.env=pure false:=by rfl):
  PS X (.Assign [.Tuple [.Name x px,.Name y py] kt pt] (.Tuple [a,b] k2 UA) pos) (Ud i j ta):=by
 intro pins s σ H D I h
 rw[exec_Assign_arm]
 refine y9 (BC ?_)
 rw[hs]
 refine y9 (yu ?_)
 rw[if_neg (by decide)]
 refine y9 (Tuple_ (Ca (ha _ pins s σ H _ I h) fun us s1 j'=>?_))
 obtain⟨vs,H1,I1,r1,q1⟩:=j'
 obtain⟨v,w,e1,q1⟩:=q1
 subst e1
 obtain⟨u1,u2,rfl,rv,JF⟩:∃ u1 u2,us=[u1,u2]/\RelV v u1/\RelV w u2:=by
  cases r1 with
  | cons p q=>
   cases q with
   | cons p' q'=>
    cases q'
    exact⟨_,_,rfl,p,p'⟩
 refine AG ?_ (by show 2<=sizeLine;decide)
 have I2:Inv X pins σ H1 { s1 with heap:=s1.heap.push { cls:=.type "tuple",data:=.seq [u1,u2].toArray } }:=I1.kept (t':=s1.toks) fun b o e=>yd _ e
 rw[hw]
 refine y9 (yu ?_)
 show wpAny (model X.prog X.w) X.A (do rule "assign.swapped-stores";let items <- unpackItems (.ref s1.heap.objs.size) 2 none;assignInOrder [fun v=>bindName X.env y v,fun v=>bindName X.env x v] items.reverse;pure Flow.next) _ _ _
 refine y9 (wpAny_rule (y9 (unpackItems_tuple (items:=#[u1,u2]) (I.ok.hd hc) (IsTup.new s1.heap _) fun h' DT=>?_)))
 have I3:=I2.kept (h':=h') (t':=s1.toks) fun b o e=>DT b o (z9 (yH e)) e
 show wpAny _ _ (assignInOrder [fun v=>bindName X.env y v,fun v=>bindName X.env x v] [u2,u1] >>= fun _=>pure Flow.next) _ _ _
 refine y9 (assignInOrder_cons (wpAny_bindName (fm I3 hN hj (.inl hy) JF (fun s2 I4=>?_) (.inr hy))))
 refine assignInOrder_cons (wpAny_bindName (fm I4 hN hi (.inl hx) rv (fun s3 I5=>assignInOrder_nil (yu ?_)) (.inr hx)))
 rw[List.set_comm _ _ (Ne.symm T8)]at I5
 exact⟨_,H1,I5,q1⟩
noncomputable def Ul (i:Nat)(te:TE)(ti:TV):TS:=fun D σ H=>∃ x,σ[i]?=some (some x)/\te σ H fun y H1=>ti x y H1 fun z H2=>D.nx (σ.set i (some z)) H2
theorem vp {i:Nat}{x:Str}{e:Expr}{te:TE}{op:Operator}{ti:TV}{pos':Pos} (hN:X.N.Nodup) (hi:X.N[i]?=some x) (hx:Loc X.env.scope x) (he:PE X e te) (ho:Zj X op ti) (hf:X.fn x=true\/X.env.scope.names.lookup x=some .local:=by first|exact .inl rfl|exact .inr rfl|assumption):
  PS X (.AugAssign (.Name x pos') op e pos) (Ul i te ti):=by
 intro pins s σ H D I h
 obtain⟨v,e1,h⟩:=h
 obtain⟨m,hn,hl⟩:=I.loc
 have U3:Pd X.env.scope x:=by rcases hx with k|k;exact .inl k;exact .inr (.inl k)
 obtain⟨u,r,l⟩:=hl i x v hi e1 U3
 refine wpAny_AugAssign_Name ?_
 have go:wpAny (model X.prog X.w) X.A (eval e X.env) (fun w s₂=>wpAny (model X.prog X.w) X.A (inplaceOp op u w) (fun r s₃=>wpAny (model X.prog X.w) X.A (storeName X.env x r) (fun _=>SP X pins D .next) X.xe s₃) X.xe s₂) X.xe s:=by
  refine Ca (he pins s σ H _ I h) fun w s1 j'=>?_
  obtain⟨y,H1,I1,r1,q1⟩:=j'
  refine Ca (ho pins s1 σ H1 v y u w _ I1 r r1 q1) fun z s2 j'=>?_
  obtain⟨zv,H2,I2,r2,q2⟩:=j'
  exact fm I2 hN hi hx r2 (fun s3 I3=>⟨_,H2,I3,q2⟩) hf
 rcases l with⟨hk,hm⟩|⟨hk,c,hc,IV⟩
 ·exact wpAny_loadName_local I.ok.kind hk hn hm go
 ·rcases hk with hk|hk
  ·exact wpAny_loadName_cell I.ok.kind hk hc IV go
  ·rcases hx with k|k
   ·have:X.env.scope.names.lookup x=some .free:=hk
    rw[k]at this;cases this
   ·have:X.env.scope.names.lookup x=some .free:=hk
    rw[k]at this;cases this
noncomputable def ipI (f:Int->Int->Int):TV:=fun x y H Q=>∃ i j,x=.int i/\y=.int j/\Q (.int (f i j)) H
theorem w6:Zj X .Add (ipI fun i j=>i+j):=by
 intro pins s σ H x y v u Q I r1 r2 h
 obtain⟨i,j,e1,e2,q⟩:=h
 subst e1;subst e2
 obtain⟨t,rfl⟩:=r1
 obtain⟨t',rfl⟩:=r2
 exact iadd_int ⟨.int _,H,I.tok _,⟨_,rfl⟩,q⟩
end
section
variable {X : Cx}{pos : Pos}
noncomputable def Md (c:TT)(tb:TS):TS:=fun D σ H=>∃ W:Nat->St->Hp->Prop,(∃ m,W m σ H)/\∀ m σ H,W m σ H->
 c σ H fun b H1=>if b=true then ∃ N:St->Hp->Prop,(∀ σ' H',N σ' H'->∃ m',m'<m/\W m' σ' H')/\tb { D with nx:=N,ct:=N,bk:=D.nx } σ H1 else D.nx σ H1
theorem i7 {c:Expr}{body:List Stmt}{tc:TT}{tb:TS} (hp:PassesOwn (model X.prog X.w) X.A X.env X.xe) (hc:PT X c tc) (hb:GA X body tb):PS X (.While c body [] pos) (Md tc tb):=by
 intro pins s σ H D I h
 obtain⟨W,⟨m0,w0⟩,turn⟩:=h
 refine wpAny_While (codeAny_whileLoop (fun n s'=>∃ σ' H',Inv X pins σ' H' s'/\W n σ' H') ?_ m0 ⟨σ,H,I,w0⟩)
 rintro n s1 ⟨σ1,H1,I1,w1⟩
 refine Ay hp (Ca (hc pins s1 σ1 H1 _ I1 (turn n σ1 H1 w1)) fun b s2 j'=>?_)
 obtain⟨H2,I2,q2⟩:=j'
 cases b with
 | true=>
  obtain⟨N,hN,q2⟩:=q2
  rw[if_pos rfl]
  refine Ay hp (Ca (hb pins s2 σ1 H2 _ I2 q2) fun f s3 q3=>?_)
  cases f with
  | next=>
   obtain⟨σ3,H3,I3,n3⟩:=q3
   obtain⟨m',hm,w3⟩:=hN σ3 H3 n3
   exact⟨m',hm,σ3,H3,I3,w3⟩
  | cont=>
   obtain⟨σ3,H3,I3,n3⟩:=q3
   obtain⟨m',hm,w3⟩:=hN σ3 H3 n3
   exact⟨m',hm,σ3,H3,I3,w3⟩
  | brk=>exact q3
  | ret v=>exact q3
 | false=>
  rw[if_neg yQ]
  exact wpAny_execs_nil ⟨σ1,H2,I2,q2⟩
end
structure It where
  go : Nat -> Hp -> Prop
  Ky : Nat -> Hp -> V -> Hp -> Prop
  stop : Nat -> Hp -> Prop
noncomputable def ja (X:Cx)(pins:List (Addr×Obj))(H:Hp)(b:Addr):Prop:=
 H b=none/\b≠X.env.locals/\b∉X.fs/\(b∈X.ex\/X.s₀.heap.objs.size<=b)/\(∀ x c,X.env.cells.lookup x=some c->c≠b)/\∀ p∈X.pn++pins,p.1≠b
theorem Inv.EZ {X:Cx}{pins:List (Addr×Obj)}{σ:St}{H H':Hp}{s:Shared}{b:Addr} (I:Inv X pins σ H s) (hb:s.heap.objs.size<=b) (hn:H' b=none):ja X pins H' b:=by
 refine⟨hn,Af (yG I.lt hb),I.JK hb,.inr (yV I.sz hb),fun x c e z=>?_,fun p hp z=>?_⟩
 ·obtain⟨v,q⟩:=I.cell x c e
  exact absurd (yG q.lt (by rw[z];exact hb)) (zu _)
 ·exact absurd (yG (yH (I.pin p hp).1) (by rw[z];exact hb)) (zu _)
structure M4 (Cc : Cx -> Prop) (P : Program) (w : World) (K : PySem.W.Frag) (tg : Expr) (J : It) (fp : List Addr) (it : Addr) (tn : Nat -> Heap -> Prop) : Prop where
  mem : it ∈ fp
  obj : ∀ i h, tn i h -> ∀ b ∈ fp, ∃ o, h.get? b = some o /\ ∀ v, o.data ≠ .cell v
  keep : ∀ i h h', tn i h -> (∀ b ∈ fp, ∀ o, h.get? b = some o -> h'.get? b = some o) -> tn i h'
  item : ∀ (X : Cx), X.prog = P -> X.w = w -> X.K = K -> Cc X -> ∀ (i : Nat) (pins : List (Addr × Obj)) (s : Shared) (σ : St) (H : Hp) (E : Value -> Shared -> Prop), Inv X pins σ H s -> (∀ b ∈ fp, ja X pins H b) -> tn i s.heap -> J.go i H ->
    wpAny (model P w) X.A (pyNext (.ref it)) (fun r s1 => ∃ u, r = some u /\
      wpAny (model P w) X.A (letOwnedTupleGo tg (.ref it) u) (fun _ s2 => ∃ x H', Inv X pins σ H' s2 /\ RelV x u /\ J.Ky i H x H' /\ tn (i + 1) s2.heap /\ ∀ b ∈ fp, H' b = none) E s1) E s
  done : ∀ (X : Cx), X.prog = P -> X.w = w -> X.K = K -> Cc X -> ∀ (i : Nat) (pins : List (Addr × Obj)) (s : Shared) (σ : St) (H : Hp) (E : Value -> Shared -> Prop), Inv X pins σ H s -> (∀ b ∈ fp, ja X pins H b) -> tn i s.heap -> J.stop i H ->
    wpAny (model P w) X.A (pyNext (.ref it)) (fun r s1 => r = none /\ Inv X pins σ H s1) E s
  self : ∀ (A : Around) (i : Nat) (s : Shared) (Q : Value -> Shared -> Prop) (E : Value -> Shared -> Prop), tn i s.heap -> Q (.ref it) s -> wpAny (model P w) A (pyIter (.ref it)) Q E s
noncomputable abbrev oO:=M4 fun X=>X.calm=true
noncomputable abbrev TI:=St->Hp->(It->Hp->Prop)->Prop
noncomputable def S6 (Cc:Cx->Prop)(X:Cx)(pins:List (Addr×Obj))(σ:St)(tg:Expr)(R:It->Hp->Prop)(Vb:Value)(s2:Shared):Prop:=
 ∃ (it:Addr)(fp:List Addr)(tn:Nat->Heap->Prop)(J:It)(H':Hp),Vb=.ref it/\Inv X pins σ H' s2/\M4 Cc X.prog X.w X.K tg J fp it tn/\tn 0 s2.heap/\(∀ b∈fp,ja X pins H' b)/\R J H'
noncomputable def TY (Cc:Cx->Prop)(X:Cx)(tg iter:Expr)(wi:TI):Prop:=
 ∀ (pins:List (Addr×Obj))(s:Shared)(σ:St)(H:Hp)(R:It->Hp->Prop),Inv X pins σ H s->wi σ H R->
  wpAny (model X.prog X.w) X.A (eval iter X.env) (fun v s1=>wpAny (model X.prog X.w) X.A (pyIter v) (S6 Cc X pins σ tg R) X.xe s1) X.xe s
noncomputable abbrev PIE:=S6 fun X=>X.calm=true
noncomputable abbrev PI:=TY fun X=>X.calm=true
theorem qB {M : Model} {A : Around} {E : Value -> Shared -> Prop} {s : Shared} {tg : Expr} {it : Addr} {u : Value} {o : Obj} {n : String} {vs : Array Value} {Q : Unit -> Shared -> Prop} (ho : s.heap.get? it = some o) (hc : o.cls = .type n) (hd : o.data = .fields vs)
    (hn : ["enumerate", "zip", "dict_itemiterator", "dict_reverseitemiterator", "odict_iterator", "itertools.zip_longest", "itertools.pairwise"].contains n = false) (hQ : Q () s) : wpAny M A (letOwnedTupleGo tg (.ref it) u) Q E s := by
  unfold letOwnedTupleGo
  cases tg <;> first
    | exact yu hQ
    | (cases u <;> first
        | exact yu hQ
        | (refine y9 (wpAny_load ho ?_)
           rw [hc, hd]
           show wpAny M A (if (["enumerate", "zip", "dict_itemiterator", "dict_reverseitemiterator", "odict_iterator", "itertools.zip_longest", "itertools.pairwise"].contains n && vs[0]? == some (rawInt _)) = true then _ else _) Q E s
           rw [if_neg (by intro h; rw [hn, AJ] at h; cases h)]
           exact yu hQ))
noncomputable def Il (K:PySem.W.Frag)(a:Addr):It:=
 ⟨fun i H=>∃ xs x,B' K H a xs/\xs[i]?=some x,fun i H x H'=>H'=H/\∀ xs,B' K H a xs->xs[i]?=some x,fun i H=>∃ xs,B' K H a xs/\xs.length<=i⟩
noncomputable def Kx (lo:Int)(n:Nat):It:=⟨fun i _=>i<n,fun i H x H'=>H'=H/\x=.int (lo+i),fun i _=>n<=i⟩
theorem u4 {P:Program}{w:World}{K:PySem.W.Frag}{tg:Expr} (a it:Addr):oO P w K tg (Il K a) [it] it (fun i h=>h.IsListIter it a i) where
 mem:=by simp
 obj:=fun i h st b hb=>by
  have e:b=it:=by simpa using hb
  subst e
  obtain⟨o,e,c,d⟩:=st
  exact⟨o,e,fun v z=>by rw[d]at z;cases z⟩
 keep:=fun i h h' st k=>st.at fun o e=>k it (by simp) o e
 item:=by
  intro X hP hw hK hc i pins s σ H E I hf st hg
  subst hP hw hK
  obtain⟨xs,x,hq,hx⟩:=hg
  obtain⟨its,rv,p,hz⟩:=I.list hq
  obtain⟨u,hu,ru⟩:=rv.get hx
  obtain⟨f0,f1,f2,f3,f4,f5⟩:=hf it (by simp)
  refine wpAny_pyNext_list_item st p.isList (x:=u) (by simpa using hu) fun h' FT sb=>?_
  have I1:Inv X pins σ H { s with heap:=h' }:=I.turned (t':=s.toks) (fun b o hb e=>(sb.2 b hb).trans e) f0 f1 f3 f4 f5
  obtain⟨o,e,c,d⟩:=id FT
  exact⟨u,rfl,qB (s:={ s with heap:=h' }) e c d (by decide) ⟨x,H,I1,ru,⟨rfl,fun ys hy=>by rw[I.Dn hy hq];exact hx⟩,FT,fun b hb=>(hf b hb).1⟩⟩
 done:=by
  intro X hP hw hK hc i pins s σ H E I hf st hg
  subst hP hw hK
  obtain⟨xs,hq,hx⟩:=hg
  obtain⟨its,rv,p,hz⟩:=I.list hq
  obtain⟨f0,f1,f2,f3,f4,f5⟩:=hf it (by simp)
  have hl:=rv.length
  exact wpAny_pyNext_list_end (I.ok.hd hc) st p.isList (by simp;omega) fun h' eb=>⟨rfl,I.turned (t':=s.toks) (fun b o hb e=>eb b o hb e) f0 f1 f3 f4 f5⟩
 self:=fun _ _ _ _ _ st h=>wpAny_pyIter_listiter st h
theorem r8 {P:Program}{w:World}{K:PySem.W.Frag}{tg:Expr} (it:Addr) (lo:Int) (n:Nat):oO P w K tg (Kx lo n) [it] it (fun i h=>IsRangeIter h it (lo+(i:Nat) * 1) ((n:Int) - (i:Nat)) 1) where
 mem:=by simp
 obj:=fun i h st b hb=>by
  have e:b=it:=by simpa using hb
  subst e
  exact⟨_,st,fun v z=>by
   have z':Data.fields _=Data.cell v:=z
   cases z'⟩
 keep:=fun i h h' st k=>k it (by simp) _ st
 item:=by
  intro X hP hw hK hc i pins s σ H E I hf st hg
  subst hP hw hK
  obtain⟨f0,f1,f2,f3,f4,f5⟩:=hf it (by simp)
  have W:=Walks.range (prog:=X.prog) (w:=X.w) (I.ok.hd hc) it lo 1 n
  refine W.item i s _ _ hg st fun v h' tk hv FT kk=>?_
  obtain⟨t,rfl⟩:=hv
  have I1:Inv X pins σ H { s with heap:=h',toks:=tk }:=I.turned (fun b o hb e=>kk b o (by simpa using hb) e) f0 f1 f3 f4 f5
  refine⟨_,rfl,qB (s:={ s with heap:=h',toks:=tk }) (n:="range_iterator") FT rfl rfl (by decide) ⟨.int (lo+i),H,I1,⟨t,?_⟩,⟨rfl,rfl⟩,FT,fun b hb=>(hf b hb).1⟩⟩
  rw[BB]
 done:=by
  intro X hP hw hK hc i pins s σ H E I hf st hg
  subst hP hw hK
  obtain⟨f0,f1,f2,f3,f4,f5⟩:=hf it (by simp)
  exact wpAny_pyNext_range_end (I.ok.hd hc) st (by have:n<=i:=hg;omega) fun h' eb=>⟨rfl,I.turned (t':=s.toks) (fun b o hb e=>eb b o hb e) f0 f1 f3 f4 f5⟩
 self:=fun _ _ _ _ _ st h=>wpAny_pyIter_rangeiter st h
section
variable {X : Cx}{tg : Expr}
noncomputable def w8 (K:PySem.W.Frag)(tl:TE):TI:=fun σ H R=>tl σ H fun x H1=>∃ a,x=.ref a/\(∃ xs,B' K H1 a xs)/\R (Il K a) H1
theorem xf {l:Expr}{tl:TE} (hl:PE X l tl):PI X tg l (w8 X.K tl):=by
 intro pins s σ H R I h
 refine Ca (hl pins s σ H _ I h) fun v s1 j'=>?_
 obtain⟨x,H1,I1,r1,q1⟩:=j'
 obtain⟨a,e,⟨xs,hq⟩,q⟩:=q1
 subst e
 cases r1
 obtain⟨its,rv,p,hz⟩:=I1.list hq
 refine AF p.isList ?_
 refine⟨s1.heap.objs.size,[s1.heap.objs.size],_,_,H1,rfl,I1.kept (t':=s1.toks) fun b o e=>yd _ e,u4 a _,⟨_,yC _ rfl,rfl,rfl⟩,fun b hb=>?_,q⟩
 have e:b=s1.heap.objs.size:=by simpa using hb
 subst e
 exact I1.EZ (yh _) (I1.BR.fresh (yh _))
theorem pH {pins:List (Addr×Obj)}{σ:St}{H:Hp}{s:Shared}{R:It->Hp->Prop}{E:Value->Shared->Prop}{lo hi:Int}{t u v:Tok}{tk:Nat} (I:Inv X pins σ H s) (h1:-(2 ^ 62)<=lo) (h2:lo<2 ^ 62) (h3:-(2 ^ 62)<=hi) (h4:hi<2 ^ 62)
  (q:R (Kx lo (hi - lo).toNat) H):wpAny (model X.prog X.w) X.A (pyIter (.ref s.heap.objs.size)) (PIE X pins σ tg R) E { s with heap:=s.heap.push { cls:=.type "range",data:=.fields #[.int lo t,.int hi u,.int 1 v] },toks:=tk }:=by
 refine wpAny_pyIter_range (IsRange.new ..) (small_one h1 h2 h3 h4) ?_
 have I1:Inv X pins σ H { s with heap:=s.heap.push { cls:=.type "range",data:=.fields #[.int lo t,.int hi u,.int 1 v] },toks:=tk }:=I.kept fun b o e=>yd _ e
 refine⟨(s.heap.push { cls:=.type "range",data:=.fields #[.int lo t,.int hi u,.int 1 v] }).objs.size,[(s.heap.push { cls:=.type "range",data:=.fields #[.int lo t,.int hi u,.int 1 v] }).objs.size],_,_,H,rfl,
  I1.kept (t':=tk) fun b o e=>yd _ e,r8 _ lo (hi - lo).toNat,?_,fun b hb=>?_,q⟩
 ·have e1:lo+((0:Nat):Int) * 1=lo:=by simp
  have e2:(((hi - lo).toNat:Nat):Int) - ((0:Nat):Int)=Builtin.Range.rangeSize lo hi 1:=by rw[rangeSize_one];split <;> omega
  show IsRangeIter _ _ (lo+((0:Nat):Int) * 1) ((((hi - lo).toNat:Nat):Int) - ((0:Nat):Int)) 1
  rw[e1,e2]
  exact yC _ rfl
 ·have e:b=(s.heap.push { cls:=.type "range",data:=.fields #[.int lo t,.int hi u,.int 1 v] }).objs.size:=by simpa using hb
  subst e
  exact I1.EZ (yh _) (I1.BR.fresh (yh _))
noncomputable def QA (ta:TA):TI:=fun σ H R=>ta σ H fun vs H1=>∃ j:Int,vs=[.int j]/\-(2 ^ 62)<=j/\j<2 ^ 62/\R (Kx 0 j.toNat) H1
noncomputable def Qz (ta:TA):TI:=fun σ H R=>ta σ H fun vs H1=>∃ i j:Int,vs=[.int i,.int j]/\(-(2 ^ 62)<=i/\i<2 ^ 62/\-(2 ^ 62)<=j/\j<2 ^ 62)/\R (Kx i (j - i).toNat) H1
theorem cf {a:Expr}{ta:TA}{p pos:Pos} (hg:Gl X "range") (hm:X.mg "range"=none) (ha:PA X [a] ta) (hs:starEach [a] X.env=[(false,eval a X.env)]:=by rfl):PI X tg (.Call (.Name "range" p) [a] [] pos) (QA ta):=by
 intro pins s σ H R I h
 refine Call_ (dL I hg hm boot_range (zC (Ca (ha pos pins s σ H _ I h) fun us s1 j'=>?_) hs rfl))
 obtain⟨vs,H1,I1,r1,q1⟩:=j'
 obtain⟨j,e,q1,q2,q⟩:=q1
 subst e
 cases r1 with
 | cons r rr=>
  cases rr
  obtain⟨t,rfl⟩:=r
  exact call_range_1 (pH I1 (by omega) (by omega) q1 q2 (by simpa using q))
theorem ur {a b:Expr}{ta:TA}{p pos:Pos} (hg:Gl X "range") (hm:X.mg "range"=none) (ha:PA X [a,b] ta) (hs:starEach [a,b] X.env=[(false,eval a X.env),(false,eval b X.env)]:=by rfl) (Jn:starEach [b] X.env=[(false,eval b X.env)]:=by rfl):
  PI X tg (.Call (.Name "range" p) [a,b] [] pos) (Qz ta):=by
 intro pins s σ H R I h
 refine Call_ (dL I hg hm boot_range (zC (Ca (ha pos pins s σ H _ I h) fun us s1 j'=>?_) (by rw[hs,Jn]) (by rw[Jn];rfl)))
 obtain⟨vs,H1,I1,r1,q1⟩:=j'
 obtain⟨i,j,e,⟨q1,q2,q3,q4⟩,q⟩:=q1
 subst e
 cases r1 with
 | cons r rr=>
  cases rr with
  | cons r' rr=>
   cases rr
   obtain⟨t,rfl⟩:=r
   obtain⟨t',rfl⟩:=r'
   exact call_range_2 (pH I1 q1 q2 q3 q4 q)
noncomputable def PH (wi:TI)(g:TG)(tb:TS):TS:=fun D σ H=>wi σ H fun J H1=>∃ W:Nat->Nat->St->Hp->Prop,(∃ m,W 0 m σ H1)/\∀ i m σ H,W i m σ H->
 (J.stop i H/\D.nx σ H)\/(J.go i H/\∃ N:St->Hp->Prop,(∀ σ' H',N σ' H'->∃ m',m'<m/\W (i+1) m' σ' H')/\∀ x H',J.Ky i H x H'->g x σ H' fun σ2 H2=>tb { D with nx:=N,ct:=N,bk:=D.nx } σ2 H2)
noncomputable def kL (fp:List Addr)(h:Heap):List (Addr×Obj):=fp.filterMap fun b=>(h.get? b).map fun o=>(b,o)
theorem eQ {fp:List Addr}{h:Heap}{b:Addr}{o:Obj} (hb:b∈fp) (e:h.get? b=some o):(b,o)∈kL fp h:=List.mem_filterMap.mpr ⟨b,hb,by rw[e];rfl⟩
theorem uF {fp:List Addr}{h:Heap}{p:Addr×Obj} (hp:p∈kL fp h):p.1∈fp/\h.get? p.1=some p.2:=by
 obtain⟨b,hb,e⟩:=List.mem_filterMap.mp hp
 cases q:h.get? b with
 | none=>rw[q]at e;cases e
 | some o=>
  rw[q]at e
  have e':(b,o)=p:=Option.some.inj e
  subst e'
  exact⟨hb,q⟩
theorem Inv.pinned {pins:List (Addr×Obj)}{σ:St}{H:Hp}{s:Shared}{fp:List Addr} (I:Inv X pins σ H s) (hf:∀ b∈fp,ja X pins H b) (ho:∀ b∈fp,∃ o,s.heap.get? b=some o/\∀ v,o.data≠.cell v):Inv X (pins++kL fp s.heap) σ H s:=
 I.De fun p hp=>(yF.mp hp).elim (fun z=>I.pin p (yv _ z)) fun z=>by
  obtain⟨hb,e⟩:=uF z
  obtain⟨f0,f1,f2,_⟩:=hf p.1 hb
  obtain⟨o,e',d⟩:=ho p.1 hb
  rw[e]at e';cases e'
  exact⟨e,f0,f1,f2,d⟩
theorem Inv.DW {pins pl:List (Addr×Obj)}{σ:St}{H:Hp}{s:Shared} (I:Inv X (pins++pl) σ H s):Inv X pins σ H s:=I.De fun p hp=>I.pin p (yv _ (yY _ hp))
theorem bi {iter:Expr}{body:List Stmt}{wi:TI}{g:TG}{tb:TS}{pos:Pos} (hp:PassesOwn (model X.prog X.w) X.A X.env X.xe) (hc:X.calm=true) (hi:PI X tg iter wi) (hg:PG X tg g) (hb:GA X body tb)
  (hs:∀ x,foldedSetIterable iter X.env x=pure x:=by intro _;rfl):PS X (.For tg iter body [] pos) (PH wi g tb):=by
 intro pins s σ H D I h
 refine wpAny_For (Ca (hi pins s σ H _ I h) fun v s1 h1=>Ca h1 fun Vb s2 h2=>?_) hs
 obtain⟨it,fp,tn,J,H2,e,I2,T,Sw,f2,W,⟨m0,w0⟩,turn⟩:=h2
 subst e
 have stat:∀ {H':Hp},(∀ b∈fp,H' b=none)->∀ b∈fp,ja X pins H' b:=fun hn b hb=>⟨hn b hb,(f2 b hb).2⟩
 refine codeAny_forLoop_any (fun n s'=>∃ i σ' H',Inv X pins σ' H' s'/\tn i s'.heap/\(∀ b∈fp,H' b=none)/\W i n σ' H') ?_ m0 ⟨0,σ,H2,I2,Sw,fun b hb=>(f2 b hb).1,w0⟩
 rintro n s3 ⟨i,σ3,H3,I3,Xa,YN,w3⟩
 rcases turn i n σ3 H3 w3 with⟨stop,qn⟩|⟨go,N,hN,step⟩
 ·refine Ay hp (Ca (T.done X rfl rfl rfl hc i pins s3 σ3 H3 X.xe I3 (stat YN) Xa stop) fun r s4 j'=>?_)
  obtain⟨hr,I4⟩:=j'
  subst hr
  exact wpAny_execs_nil ⟨σ3,H3,I4,qn⟩
 ·refine Ay hp (Ca (T.item X rfl rfl rfl hc i pins s3 σ3 H3 X.xe I3 (stat YN) Xa go) fun r s4 j'=>?_)
  obtain⟨u,hr,h4⟩:=j'
  subst hr
  refine Ay hp (Ca h4 fun _ s5 j'=>?_)
  obtain⟨x,H5,I5,r5,y5,OE,Tr⟩:=j'
  have I5':=I5.pinned (stat Tr) (T.obj _ _ OE)
  refine Ay hp (Ca (hg _ s5 σ3 H5 x u _ I5' r5 (step x H5 y5)) fun _ s6 j'=>?_)
  obtain⟨σ6,H6,I6,q6⟩:=j'
  refine Ay hp (Ca (hb _ s6 σ6 H6 _ I6 q6) fun f s7 q7=>?_)
  have again:∀ {σ7:St}{H7:Hp},Inv X (pins++kL fp s5.heap) σ7 H7 s7->N σ7 H7->∃ m,m<n/\∃ i σ' H',Inv X pins σ' H' s7/\tn i s7.heap/\(∀ b∈fp,H' b=none)/\W i m σ' H':=fun {σ7 H7} I7 n7=>by
   obtain⟨m',hm,w7⟩:=hN σ7 H7 n7
   refine⟨m',hm,i+1,σ7,H7,I7.DW,T.keep _ _ _ OE fun b hb o e=>(I7.pin (b,o) (yv _ (yv _ (eQ hb e)))).1,fun b hb=>?_,w7⟩
   obtain⟨o,e,d⟩:=T.obj _ _ OE b hb
   exact (I7.pin (b,o) (yv _ (yv _ (eQ hb e)))).2.1
  cases f with
  | next=>obtain⟨σ7,H7,I7,n7⟩:=q7;exact again I7 n7
  | cont=>obtain⟨σ7,H7,I7,n7⟩:=q7;exact again I7 n7
  | brk=>obtain⟨σ7,H7,I7,q7⟩:=q7;exact⟨σ7,H7,I7.DW,q7⟩
  | ret v=>obtain⟨x7,σ7,H7,I7,r7,q7⟩:=q7;exact⟨x7,σ7,H7,I7.DW,r7,q7⟩
end
theorem bC {K:PySem.W.Frag}{a:Addr}{xs:List V}{g:TG}{tb:TS}{D:gW}{σ:St}{H:Hp} (Pv:Nat->St->Hp->Prop) (h0:Pv 0 σ H) (hl:∀ i σ H,i<=xs.length->Pv i σ H->B' K H a xs)
  (hs:∀ i x σ H,xs[i]?=some x->Pv i σ H->g x σ H fun σ2 H2=>tb { D with nx:=Pv (i+1),ct:=Pv (i+1),bk:=D.nx } σ2 H2) (hd:∀ σ H,Pv xs.length σ H->D.nx σ H):
  ∃ W:Nat->Nat->St->Hp->Prop,(∃ m,W 0 m σ H)/\∀ i m σ H,W i m σ H->
   ((Il K a).stop i H/\D.nx σ H)\/((Il K a).go i H/\∃ N:St->Hp->Prop,(∀ σ' H',N σ' H'->∃ m',m'<m/\W (i+1) m' σ' H')/\∀ x H',(Il K a).Ky i H x H'->g x σ H' fun σ2 H2=>tb { D with nx:=N,ct:=N,bk:=D.nx } σ2 H2):=by
 refine⟨fun i m σ H=>m=xs.length - i/\i<=xs.length/\Pv i σ H,⟨xs.length,by simp,yR _,h0⟩,?_⟩
 rintro i m σ H ⟨rfl,hi,p⟩
 have q:=hl i σ H hi p
 by_cases BU:i<xs.length
 ·refine .inr ⟨⟨xs,xs[i],q,by simp[BU]⟩,Pv (i+1),fun σ' H' p'=>⟨xs.length - (i+1),by omega,rfl,BU,p'⟩,fun x H' y=>?_⟩
  obtain⟨e,y⟩:=y
  subst e
  exact hs i x σ _ (y xs q) p
 ·have e:i=xs.length:=by omega
  subst e
  exact .inl ⟨⟨xs,q,yh _⟩,hd σ H p⟩
theorem eA {lo:Int}{n:Nat}{g:TG}{tb:TS}{D:gW}{σ:St}{H:Hp} (Pv:Nat->St->Hp->Prop) (h0:Pv 0 σ H)
  (hs:∀ i σ H,i<n->Pv i σ H->g (.int (lo+i)) σ H fun σ2 H2=>tb { D with nx:=Pv (i+1),ct:=Pv (i+1),bk:=D.nx } σ2 H2) (hd:∀ σ H,Pv n σ H->D.nx σ H):
  ∃ W:Nat->Nat->St->Hp->Prop,(∃ m,W 0 m σ H)/\∀ i m σ H,W i m σ H->
   ((Kx lo n).stop i H/\D.nx σ H)\/((Kx lo n).go i H/\∃ N:St->Hp->Prop,(∀ σ' H',N σ' H'->∃ m',m'<m/\W (i+1) m' σ' H')/\∀ x H',(Kx lo n).Ky i H x H'->g x σ H' fun σ2 H2=>tb { D with nx:=N,ct:=N,bk:=D.nx } σ2 H2):=by
 refine⟨fun i m σ H=>m=n - i/\i<=n/\Pv i σ H,⟨n,by simp,yR _,h0⟩,?_⟩
 rintro i m σ H ⟨rfl,hi,p⟩
 by_cases BU:i<n
 ·refine .inr ⟨BU,Pv (i+1),fun σ' H' p'=>⟨n - (i+1),by omega,rfl,BU,p'⟩,fun x H' y=>?_⟩
  obtain⟨e,y⟩:=y
  subst e y
  exact hs i σ _ BU p
 ·have e:i=n:=by omega
  subst e
  exact .inl ⟨yh _,hd σ H p⟩
noncomputable abbrev R2:=V->V->Hp->VK->Prop
noncomputable def Dq (X:Cx)(f:Value->Value->Sem Value)(r:R2):Prop:=
 ∀ (pins:List (Addr×Obj))(s:Shared)(σ:St)(H:Hp)(x y:V)(v u:Value)(Q:VK),Inv X pins σ H s->RelV x v->RelV y u->r x y H Q->
  wpAny (model X.prog X.w) X.A (f v u) (EP X pins σ Q) X.xe s
noncomputable def CM (X:Cx)(f:Value)(r:List V->Hp->VK->Prop):Prop:=
 ∀ (pins:List (Addr×Obj))(s:Shared)(σ:St)(H:Hp)(xs:List V)(us:List Value)(Q:VK),Inv X pins σ H s->Vals xs us->r xs H Q->
  wpAny (model X.prog X.w) X.A (call f us) (EP X pins σ Q) X.xe s
noncomputable def Me (r:R2)(ta tb:TE):TE:=fun σ H Q=>ta σ H fun x H1=>tb σ H1 fun y H2=>r x y H2 Q
noncomputable def rI (C:Int->Int->Prop)(g:Int->Int->V):R2:=fun x y H Q=>∃ i j,x=.int i/\y=.int j/\C i j/\Q (g i j) H
noncomputable def Lw (g:Int->Int->V):R2:=fun x y H Q=>∃ i j,x=.int i/\y=.int j/\Q (g i j) H
section
variable {X : Cx}{a b c : Expr}{ta tb tc : TE}{pos : Pos}
theorem Of (ha:PE X a ta)(hb:PE X b tb){pins:List (Addr×Obj)}{s:Shared}{σ:St}{H:Hp}{R:V->V->Hp->Prop} (I:Inv X pins σ H s)
  (h:ta σ H fun x H1=>tb σ H1 fun y H2=>R x y H2) {Q:Value->Shared->Prop}{f:Value->Value->Sem Value}
  (hf:∀ v u s2 x y H2,Inv X pins σ H2 s2->RelV x v->RelV y u->R x y H2->wpAny (model X.prog X.w) X.A (f v u) Q X.xe s2):
  wpAny (model X.prog X.w) X.A (eval a X.env) (fun v s₁=>wpAny (model X.prog X.w) X.A (eval b X.env) (fun u s₂=>wpAny (model X.prog X.w) X.A (f v u) Q X.xe s₂) X.xe s₁) X.xe s:=by
 refine Ca (ha pins s σ H _ I h) fun v s1 j'=>?_
 obtain⟨x,H1,I1,r1,q1⟩:=j'
 refine Ca (hb pins s1 σ H1 _ I1 q1) fun u s2 j'=>?_
 obtain⟨y,H2,I2,r2,q2⟩:=j'
 exact hf v u s2 x y H2 I2 r1 r2 q2
theorem aB {op:Operator}{r:R2} (ho:Dq X (binaryOp op) r) (ha:PE X a ta) (hb:PE X b tb):PE X (.BinOp a op b pos) (Me r ta tb):=by
 intro pins s σ H Q I h
 exact wpAny_BinOp (Of ha hb I h fun v u s2 x y H2 I2 rx ry q=>ho pins s2 σ H2 x y v u Q I2 rx ry q)
theorem SG {f:Value->Value->Sem Value}{C:Int->Int->Prop}{g:Int->Int->Int}
  (rule:∀ (i j:Int)(t u:Tok)(s:Shared)(Q:Value->Shared->Prop)(E:Value->Shared->Prop),C i j->Q (.int (g i j) s.toks) { s with toks:=s.toks+1 }->wpAny (model X.prog X.w) X.A (f (.int i t) (.int j u)) Q E s):
  Dq X f (rI C fun i j=>.int (g i j)):=by
 intro pins s σ H x y v u Q I rx ry h
 obtain⟨i,j,rfl,rfl,hc,q⟩:=h
 obtain⟨t,rfl⟩:=rx
 obtain⟨t',rfl⟩:=ry
 exact rule i j t t' s _ _ hc ⟨.int (g i j),H,I.tok _,⟨_,rfl⟩,q⟩
theorem Q9 {f:Value->Value->Sem Value}{g:Int->Int->Int}
  (rule:∀ (i j:Int)(t u:Tok)(s:Shared)(Q:Value->Shared->Prop)(E:Value->Shared->Prop),Q (.int (g i j) s.toks) { s with toks:=s.toks+1 }->wpAny (model X.prog X.w) X.A (f (.int i t) (.int j u)) Q E s):
  Dq X f (Lw fun i j=>.int (g i j)):=by
 intro pins s σ H x y v u Q I rx ry h
 obtain⟨i,j,rfl,rfl,q⟩:=h
 obtain⟨t,rfl⟩:=rx
 obtain⟨t',rfl⟩:=ry
 exact rule i j t t' s _ _ ⟨.int (g i j),H,I.tok _,⟨_,rfl⟩,q⟩
theorem xr {f:Value->Value->Sem Value}{g:Int->Int->Bool}
  (rule:∀ (i j:Int)(t u:Tok)(s:Shared)(Q:Value->Shared->Prop)(E:Value->Shared->Prop),Q (.bool (g i j)) s->wpAny (model X.prog X.w) X.A (f (.int i t) (.int j u)) Q E s):
  Dq X f (Lw fun i j=>.bl (g i j)):=by
 intro pins s σ H x y v u Q I rx ry h
 obtain⟨i,j,rfl,rfl,q⟩:=h
 obtain⟨t,rfl⟩:=rx
 obtain⟨t',rfl⟩:=ry
 exact rule i j t t' s _ _ ⟨.bl (g i j),H,I,rfl,q⟩
noncomputable def WZ (i j:Int):Prop:=0<j/\j<1073741824
noncomputable def WY (i j:Int):Prop:=0<=j/\j<=1000000/\i.natAbs<2 ^ 64
noncomputable def Li (i j:Int):Prop:=(-(2 ^ 64)<i/\i<2 ^ 64)\/(-(2 ^ 64)<j/\j<2 ^ 64)
theorem Li.ok {i j:Int}(h:Li i j):IntMulOk i j:=by
 rcases h with⟨h1,h2⟩|⟨h1,h2⟩
 ·exact .of_left (intBits_le_64 h1 h2)
 ·exact .of_right (intBits_le_64 h1 h2)
theorem cH:Dq X (binaryOp .Add) (Lw fun i j=>.int (i+j)):=Q9 fun _ _ _ _ _ _ _ q=>add_int q
theorem rK:Dq X (binaryOp .Sub) (Lw fun i j=>.int (i - j)):=Q9 fun _ _ _ _ _ _ _ q=>sub_int q
theorem dG:Dq X (binaryOp .Mult) (rI Li fun i j=>.int (i * j)):=SG fun _ _ _ _ _ _ _ hc q=>mul_int q hc.ok
theorem cZ:Dq X (binaryOp .FloorDiv) (rI WZ fun i j=>.int (i / j)):=SG fun i j _ _ _ _ _ hc q=>by
 have h1:(0:Int)<j:=hc.1
 have h2:j<1073741824:=hc.2
 exact floordiv_int (by omega) (by rw[Int.fdiv_eq_ediv_of_nonneg i (by omega)];exact q) (.inl (PyProof.noPylong_small (by omega)))
theorem bg:Dq X (binaryOp .Mod) (rI (fun _ j=>0<j) fun i j=>.int (i % j)):=SG fun i j _ _ _ _ _ hc q=>by
 have h1:(0:Int)<j:=hc
 exact mod_int' (by omega) (by rw[za i (by omega)];exact q)
theorem MK:Dq X (binaryOp .Pow) (rI WY fun i j=>.int (i ^ j.toNat)):=SG fun _ _ _ _ _ _ _ hc q=>pow_int_small hc.1 hc.2.1 hc.2.2 q
end
noncomputable def Mm:V->V->Bool
 | .non,.non=>true|.non,.int _=>true|.int _,.non=>true|.non,.bl _=>true|.bl _,.non=>true|.non,.str _=>true|.str _,.non=>true
 | .int _,.int _=>true|.bl _,.bl _=>true|.str _,.str _=>true|.byt _,.byt _=>true
 | .int _,.str _=>true|.str _,.int _=>true|.bl _,.str _=>true|.str _,.bl _=>true
 | _,_=>false
noncomputable def ZP:R2:=fun x y H Q=>Mm x y=true/\Q (.bl (decide (x=y))) H
noncomputable def ZO:R2:=fun x y H Q=>Mm x y=true/\Q (.bl (!decide (x=y))) H
theorem tO {i j:Int}:decide (V.int i=V.int j)=(i==j):=by
 rw[zr]
 simp
theorem wB {i j:Bool}:decide (V.bl i=V.bl j)=(i==j):=by
 rw[zr]
 simp
theorem tN {i j:Str}:decide (V.str i=V.str j)=(i==j):=by
 rw[zr]
 simp
theorem tP {i j:Array UInt8}:decide (V.byt i=V.byt j)=(i.toList==j.toList):=by
 rw[zr]
 cases i
 cases j
 simp
section
variable {X : Cx}{a b c : Expr}{ta tb tc : TE}{pos : Pos}
theorem aJ {pins:List (Addr×Obj)}{σ:St}{H:Hp}{s:Shared}{Q:VK}{k k':Bool} (I:Inv X pins σ H s) (q:Q (.bl k) H) (e:k=k'):EP X pins σ Q (.bool k') s:=by
 subst e
 exact⟨.bl k,H,I,rfl,q⟩
theorem bP:Dq X (compareOp .Eq) ZP:=by
 intro pins s σ H x y v u Q I rx ry h
 obtain⟨hs,q⟩:=h
 cases x with
 | non=>
  cases rx
  cases y with
  | non=>cases ry;exact PySem.EqNone.eq_none_none (aJ I q (by simp))
  | bl j=>cases ry;exact PySem.EqNone.eq_none_bool (aJ I q (by simp))
  | int j=>obtain⟨t',rfl⟩:=ry;exact PySem.EqNone.eq_none_int (aJ I q (by simp))
  | str j=>obtain⟨t',rfl⟩:=ry;exact PySem.EqNone.eq_none_str (aJ I q (by simp))
  | _=>exact absurd (show false=true from hs) yQ
 | bl i=>
  cases rx
  cases y with
  | non=>cases ry;exact PySem.EqNone.eq_bool_none (aJ I q (by simp))
  | bl j=>cases ry;exact eq_bool (aJ I q wB)
  | str j=>obtain⟨t',rfl⟩:=ry;exact PySem.EqMixed.eq_bool_str (aJ I q (by simp))
  | _=>exact absurd (show false=true from hs) yQ
 | int i=>
  obtain⟨t,rfl⟩:=rx
  cases y with
  | non=>cases ry;exact PySem.EqNone.eq_int_none (aJ I q (by simp))
  | int j=>obtain⟨t',rfl⟩:=ry;exact eq_int (aJ I q tO)
  | str j=>obtain⟨t',rfl⟩:=ry;exact PySem.EqMixed.eq_int_str (aJ I q (by simp))
  | _=>exact absurd (show false=true from hs) yQ
 | str i=>
  obtain⟨t,rfl⟩:=rx
  cases y with
  | non=>cases ry;exact PySem.EqNone.eq_str_none (aJ I q (by simp))
  | bl j=>cases ry;exact PySem.EqMixed.eq_str_bool (aJ I q (by simp))
  | int j=>obtain⟨t',rfl⟩:=ry;exact PySem.EqMixed.eq_str_int (aJ I q (by simp))
  | str j=>obtain⟨t',rfl⟩:=ry;exact eq_str (aJ I q tN)
  | _=>exact absurd (show false=true from hs) yQ
 | byt i=>
  obtain⟨t,rfl⟩:=rx
  cases y with
  | byt j=>obtain⟨t',rfl⟩:=ry;exact PySem.W.eq_bytes (aJ I q tP)
  | _=>exact absurd (show false=true from hs) yQ
 | _=>cases y <;> exact absurd (show false=true from hs) yQ
theorem ic:Dq X (compareOp .NotEq) ZO:=by
 intro pins s σ H x y v u Q I rx ry h
 obtain⟨hs,q⟩:=h
 cases x with
 | non=>
  cases rx
  cases y with
  | non=>cases ry;exact PySem.EqNone.ne_none_none (aJ I q (by simp))
  | bl j=>cases ry;exact PySem.EqNone.ne_none_bool (aJ I q (by simp))
  | int j=>obtain⟨t',rfl⟩:=ry;exact PySem.EqNone.ne_none_int (aJ I q (by simp))
  | str j=>obtain⟨t',rfl⟩:=ry;exact PySem.EqNone.ne_none_str (aJ I q (by simp))
  | _=>exact absurd (show false=true from hs) yQ
 | bl i=>
  cases rx
  cases y with
  | non=>cases ry;exact PySem.EqNone.ne_bool_none (aJ I q (by simp))
  | bl j=>cases ry;exact ne_bool (aJ I q (congrArg not wB))
  | str j=>obtain⟨t',rfl⟩:=ry;exact PySem.EqMixed.ne_bool_str (aJ I q (by simp))
  | _=>exact absurd (show false=true from hs) yQ
 | int i=>
  obtain⟨t,rfl⟩:=rx
  cases y with
  | non=>cases ry;exact PySem.EqNone.ne_int_none (aJ I q (by simp))
  | int j=>obtain⟨t',rfl⟩:=ry;exact ne_int (aJ I q (congrArg not tO))
  | str j=>obtain⟨t',rfl⟩:=ry;exact PySem.EqMixed.ne_int_str (aJ I q (by simp))
  | _=>exact absurd (show false=true from hs) yQ
 | str i=>
  obtain⟨t,rfl⟩:=rx
  cases y with
  | non=>cases ry;exact PySem.EqNone.ne_str_none (aJ I q (by simp))
  | bl j=>cases ry;exact PySem.EqMixed.ne_str_bool (aJ I q (by simp))
  | int j=>obtain⟨t',rfl⟩:=ry;exact PySem.EqMixed.ne_str_int (aJ I q (by simp))
  | str j=>obtain⟨t',rfl⟩:=ry;exact ne_str (aJ I q (congrArg not tN))
  | _=>exact absurd (show false=true from hs) yQ
 | byt i=>
  obtain⟨t,rfl⟩:=rx
  cases y with
  | byt j=>obtain⟨t',rfl⟩:=ry;exact PySem.W.ne_bytes (aJ I q (congrArg not tP))
  | _=>exact absurd (show false=true from hs) yQ
 | _=>cases y <;> exact absurd (show false=true from hs) yQ
theorem kU:Dq X (compareOp .Lt) (Lw fun i j=>.bl (decide (i<j))):=xr fun _ _ _ _ _ _ _ q=>lt_int q
theorem mS:Dq X (compareOp .LtE) (Lw fun i j=>.bl (decide (i<=j))):=xr fun _ _ _ _ _ _ _ q=>le_int q
theorem kW:Dq X (compareOp .Gt) (Lw fun i j=>.bl (decide (j<i))):=xr fun _ _ _ _ _ _ _ q=>gt_int q
theorem t3:Dq X (compareOp .GtE) (Lw fun i j=>.bl (decide (j<=i))):=xr fun _ _ _ _ _ _ _ q=>ge_int q
theorem uu:Dq X (compareOp .In) (fun x y H Q=>∃ i j,x=.str i/\y=.str j/\Q (.bl (!(Builtin.Str.occurrences j i 0 j.length 1).isEmpty)) H):=by
 intro pins s σ H x y v u Q I rx ry h
 obtain⟨i,j,rfl,rfl,q⟩:=h
 obtain⟨t,rfl⟩:=rx
 obtain⟨t',rfl⟩:=ry
 exact in_str (aJ I q rfl)
theorem vF:Dq X (compareOp .Is) (fun x y H Q=>y=.non/\Q (.bl (decide (x=.non))) H):=by
 intro pins s σ H x y v u Q I rx ry h
 obtain⟨rfl,q⟩:=h
 cases ry
 refine is_none_gen (aJ I q ?_)
 cases x <;> first
  | (cases rx;rfl)
  | (obtain⟨t,rfl⟩:=rx;rfl)
theorem ia:Dq X (compareOp .IsNot) (fun x y H Q=>y=.non/\Q (.bl (!decide (x=.non))) H):=by
 intro pins s σ H x y v u Q I rx ry h
 obtain⟨rfl,q⟩:=h
 cases ry
 refine isnot_none_gen (aJ I q ?_)
 cases x <;> first
  | (cases rx;rfl)
  | (obtain⟨t,rfl⟩:=rx;rfl)
theorem vN (b:Expr){op:CmpOp}(h:op≠.In:=by decide)(h2:op≠.NotIn:=by decide):behindInMarks op b=false:=by
 have e1:(op==CmpOp.In)=false:=by cases op <;> first|rfl|exact absurd rfl h
 have e2:(op==CmpOp.NotIn)=false:=by cases op <;> first|rfl|exact absurd rfl h2
 cases b <;> simp[behindInMarks,e1,e2]
theorem xm {op:CmpOp}{r:R2} (ho:Dq X (compareOp op) r) (ha:PE X a ta) (hb:PE X b tb) (hm:behindInMarks op b=false):PE X (.Compare a [op] [b] pos) (Me r ta tb):=by
 intro pins s σ H Q I h
 exact wpAny_Compare1 (Of ha hb I h fun v u s2 x y H2 I2 rx ry q=>ho pins s2 σ H2 x y v u Q I2 rx ry q) hm
noncomputable def Lq (t:TE):TT:=fun σ H Q=>t σ H fun x H'=>∃ k,x=.bl k/\Q k H'
theorem x9 {op:CmpOp}{r:R2} (ho:Dq X (compareOp op) r) (ha:PE X a ta) (hb:PE X b tb) (hm:behindInMarks op b=false):PT X (.Compare a [op] [b] pos) (Lq (Me r ta tb)):=by
 intro pins s σ H Q I h
 refine wpAny_isTrue_Compare1 (Ca (ha pins s σ H _ I h) fun v s1 ⟨x,H1,I1,r1,q1⟩=>Ca (hb pins s1 σ H1 _ I1 q1) fun u s2 ⟨y,H2,I2,r2,q2⟩=>
  Ca (ho pins s2 σ H2 x y v u _ I2 r1 r2 q2) fun c s3 ⟨z,H3,I3,r3,k,e,q3⟩=>?_) hm
 subst e
 cases r3
 exact Ac ⟨H3,I3,q3⟩
noncomputable def Mi (r r':R2)(ta tb tc:TE):TE:=fun σ H Q=>ta σ H fun x H1=>tb σ H1 fun y H2=>r x y H2 fun z H3=>∃ k,z=.bl k/\
 (if k=true then tc σ H3 fun w' H4=>r' y w' H4 Q else Q (.bl false) H3)
theorem kO {op UI:CmpOp}{r r':R2} (ho:Dq X (compareOp op) r) (FV:Dq X (compareOp UI) r') (ha:PE X a ta) (hb:PE X b tb) (hc:PE X c tc)
  (hm:lastMarks [op,UI] [b,c]=false:=by with_unfolding_all rfl):PE X (.Compare a [op,UI] [b,c] pos) (Mi r r' ta tb tc):=by
 intro pins s σ H Q I h
 refine Compare_chain (Ca (ha pins s σ H _ I h) fun v s1 ⟨x,H1,I1,r1,q1⟩=>chain_link (Ca (hb pins s1 σ H1 _ I1 q1) fun u s2 ⟨y,H2,I2,r2,q2⟩=>
  Ca (ho pins s2 σ H2 x y v u _ I2 r1 r2 q2) fun d s3 ⟨z,H3,I3,r3,k,e,q3⟩=>?_)) hm
 subst e
 cases r3
 refine Ac ?_
 cases k with
 | false=>exact ite_ff ⟨.bl false,H3,I3,rfl,q3⟩
 | true=>exact ite_tt (chain_last (Ca (hc pins s3 σ H3 _ I3 q3) fun w' s4 j'=>(by obtain⟨z',H4,I4,r4,q4⟩:=j';exact FV pins s4 σ H4 y z' u w' Q I4 r2 r4 q4)))
theorem lw:(sizeLine:Nat)<2 ^ 63:=by rw[Ab];decide
theorem dP {x:V}{us:List Value} (r:Vals [x] us):∃ u,us=[u]/\RelV x u:=by
 cases r with
 | cons r1 r2=>cases r2;exact⟨_,rfl,r1⟩
theorem vals2 {x y:V}{us:List Value} (r:Vals [x,y] us):∃ u w',us=[u,w']/\RelV x u/\RelV y w':=by
 cases r with
 | cons r1 r2=>
  cases r2 with
  | cons r3 r4=>cases r4;exact⟨_,_,rfl,r1,r3⟩
theorem v0:CM X (.type "int") (fun xs H Q=>(∃ i,xs=[.int i]/\Q (.int i) H)\/∃ k,xs=[.bl k]/\Q (.int (if k then 1 else 0)) H):=by
 intro pins s σ H xs us Q I r h
 rcases h with⟨i,rfl,q⟩|⟨k,rfl,q⟩
 ·obtain⟨u,rfl,t,rfl⟩:=dP r
  exact call_int_int ⟨.int i,H,I,⟨_,rfl⟩,q⟩
 ·obtain⟨u,rfl,r1⟩:=dP r
  cases r1
  exact call_int_bool ⟨.int (if k then 1 else 0),H,I.tok _,⟨_,rfl⟩,q⟩
end
structure Ik (h : Heap) (x dx C : Addr) (mA : Str -> Option Value) : Prop where
  obj : h.get? x = some (PySem.W.instObj C dx)
  ns : h.Ns1 dx mA
  ne : dx ≠ x
theorem uH {h:Heap}{dx:Addr}{mA:Str->Option Value} (n:h.Ns1 dx mA):∃ od,h.get? dx=some od/\∀ name,PySem.W.lookIn name od=some (mA name):=by
 obtain⟨o,es,ep,ho,hd,hk,_,hm⟩:=n
 refine⟨o,ho,fun name=>?_⟩
 have e:=hm name
 unfold nsFind findBy at e
 rw[<- Array.find?_toList]at e
 unfold PySem.W.lookIn
 rw[hd]
 dsimp only
 split
 ·rename_i y q
  rw[q]at e
  exact congrArg some e
 ·rename_i q
  rw[q]at e
  have a:es.toList.any (·.refKey)=false:=by
   rw[List.any_eq_false]
   intro y hy
   obtain⟨z,t,HZ⟩:=hk y (Array.mem_toList_iff.mp hy)
   simp[DictEntry.refKey,HZ]
  have a':¬ es.toList.any (·.refKey)=true:=by rw[a];exact yQ
  rw[if_neg a']
  exact congrArg some e
theorem Ik.look {h:Heap}{x dx C:Addr}{mA:Str->Option Value} (I:Ik h x dx C mA):∃ od,PySem.W.InstAt h x (PySem.W.instObj C dx) C (some od)/\∀ name,PySem.W.lookIn name od=some (mA name):=
 let ⟨od,ho,hl⟩:=uH I.ns
 ⟨od,⟨I.obj,rfl,rfl,ho⟩,hl⟩
section
variable {prog : Program}{w : World}{A : Around}{E : Value -> Shared -> Prop}{s : Shared}{K : PySem.W.Frag}{x dx C f : Addr}{mA : Str -> Option Value}{name : Str}{v : Value}
theorem xO {expr:Bool}{Q:Value->Shared->Prop} (X:K.In s.heap) (I:Ik s.heap x dx C mA) (hg:PySem.W.plainGet K C name=true) (hh:PySem.W.hasDictIn K C=true)
  (ha:PySem.W.findIn K (.ref C) name=some none) (hv:mA name=some v) (QJ:PySem.W.handedIn v=true) (h:Q v { s with toks:=s.toks+1 }):
  wpAny (model prog w) A (getAttr (.ref x) name expr) Q E s:=by
 obtain⟨od,J,hl⟩:=I.look
 exact PySem.W.get_value X J (PySem.W.plainGet_of hg).1 (PySem.W.findObj_own hh ha rfl (by rw[hl,hv])) QJ h
theorem we {pl:Sem Bool}{Q:Value×List Value->Shared->Prop} (X:K.In s.heap) (I:Ik s.heap x dx C mA) (hg:PySem.W.plainGet K C name=true)
  (hf:PySem.W.findIn K (.ref C) name=some (some (.ref f))) (ht:PySem.W.isFn K (.ref f)=true) (hv:mA name=none) (h:Q (.ref f,[.ref x]) s):
  wpAny (model prog w) A (getMethod (.ref x) name pl) Q E s:=by
 obtain⟨od,J,hl⟩:=I.look
 exact PySem.W.method_fn X J (PySem.W.plainGet_of hg).1 (PySem.W.plainGet_of hg).2 hf (Ad.mp ht) (by show (PySem.W.lookIn name od).map (·.isSome)=some false;rw[hl,hv];rfl) h
theorem wW {ns:List Str}{Q:Unit->Shared->Prop} (X:K.In s.heap) (I:Ik s.heap x dx C mA)
  (hs:PySem.W.findIn K (.ref C) "__setattr__"=some (some (.builtin "object.__setattr__"))) (hp:PySem.W.plainOver K C=true) (ht:PySem.W.takerIn K C name=some none) (hh:PySem.W.hasDictIn K C=true)
  (hw:PySem.Within mA ns) (hsz:ns.length<=sizeLine)
  (h:∀ h',Ik h' x dx C (fun y=>if y=name then some v else mA y)->Heap.SameBut dx s.heap h'->Q () { s with heap:=h',toks:=s.toks+2 }):
  wpAny (model prog w) A (setAttr (.ref x) name v) Q E s:=by
 obtain⟨od,J,hl⟩:=I.look
 refine PySem.W.set_plain X J hs (PySem.W.osa_open (s:={ s with toks:=s.toks+1 }) (r:=none) X J hp ht fun b=>?_)
 obtain⟨cd,hc,EL⟩:=PySem.W.any_some hh
 have hx:s.heap.get? x=some ⟨.ref C,some dx,.plain,#[]⟩:=I.obj
 refine y9 (yu (y9 (y9 (wpAny_loadPart hx (y9 (PySem.W.Looks.here (s:={ s with toks:=s.toks+1 }) (PySem.W.looks_clsIn X hc) ?_))))))
 rw[EL]
 refine yu (a:=some dx) (y9 (yu (y9 ?_)))
 refine wpAny_nsSet1 (s:={ s with toks:=s.toks+1 }) I.ns fun h' OU Jn=>?_
 obtain⟨oD,esD,epD,hoD,hdD,hcD⟩:=OU.count (PySem.Within.cons name v hw)
 refine y9 (wpAny_lookBehind hoD (by rw[hdD];exact pastItsLine_dict (yV hcD (by rw[z4];omega))) ?_)
 exact yu (h _ ⟨(Jn.2 _ (Ne.symm I.ne)).trans I.obj,OU,I.ne⟩ Jn)
theorem vU {R:Result->Shared->Prop}{vs:List Value}{kw:List (Str×Value)} (X:K.In s.heap) (hm:PySem.W.makesIn K C=true)
  (hi:PySem.W.findIn K (.ref C) "__init__"=some (some (.ref f))) (hf:PySem.W.typeIn K (.ref f)=some (.type "function"))
  (h:codeAny (model prog w) (A.under (.builtin "type.__call__" ⟨.ref C::vs,kw⟩)) (.call (.ref f) ⟨.ref (s.heap.objs.size+1)::vs,kw⟩) (PySem.W.InitBack (s.heap.objs.size+1) R)
   { s with heap:=(s.heap.push PySem.W.emptyDict).push (PySem.W.instObj C s.heap.objs.size) }):
  codeAny (model prog w) A (.call (.ref C) ⟨vs,kw⟩) R s:=by
 obtain⟨hh,g,d,t,os⟩:=s
 exact PySem.W.make_core (PySem.W.makes_of X hm) (PySem.W.looks_findIn X hi) (fun self=>PySem.W.bind_fn X self hf) (.inl rfl) h
end
noncomputable def gh (f:Str)(v:V):List (Str×V)->List (Str×V)
 | []=>[(f,v)]
 | (g,x)::r=>if g=f then (g,v)::r else (g,x)::gh f v r
theorem jo (f g:Str)(v:V):∀ fs:List (Str×V),(gh f v fs).lookup g=if g=f then some v else fs.lookup g
 | []=>by
  show List.lookup g [(f,v)]=_
  by_cases h:g=f
  ·have hb:(g==f)=true:=Ad.mpr h
   simp only[List.lookup,hb,if_pos h]
  ·have hb:(g==f)=false:=Ao.mpr h
   simp only[List.lookup,hb,if_neg h]
 | (k,x)::r=>by
  have ih:=jo f g v r
  rw[show gh f v ((k,x)::r)=(if k=f then (k,v)::r else (k,x)::gh f v r) from rfl]
  by_cases hk:k=f
  ·rw[if_pos hk]
   by_cases h:g=k
   ·have hb:(g==k)=true:=Ad.mpr h
    simp only[List.lookup,hb,if_pos (h.trans hk)]
   ·have hb:(g==k)=false:=Ao.mpr h
    simp only[List.lookup,hb,if_neg (fun e:g=f=>h (e.trans hk.symm))]
  ·rw[if_neg hk]
   by_cases h:g=k
   ·have hb:(g==k)=true:=Ad.mpr h
    simp only[List.lookup,hb,if_neg (fun e:g=f=>hk (h.symm.trans e))]
   ·have hb:(g==k)=false:=Ao.mpr h
    simp only[List.lookup,hb]
    exact ih
theorem j2 (f:Str)(v:V):∀ fs:List (Str×V),f∈(gh f v fs).map (·.1)/\∀ g,g∈fs.map (·.1)->g∈(gh f v fs).map (·.1)
 | []=>⟨by simp[gh],fun g h=>by simp at h⟩
 | (k,x)::r=>by
  obtain⟨i1,i2⟩:=j2 f v r
  rw[show gh f v ((k,x)::r)=(if k=f then (k,v)::r else (k,x)::gh f v r) from rfl]
  by_cases hk:k=f
  ·rw[if_pos hk]
   subst hk
   exact⟨by simp,fun g h=>by simpa using h⟩
  ·rw[if_neg hk]
   refine⟨?_,fun g h=>?_⟩
   ·rw[yJ]
    exact yE _ i1
   ·rw[yJ]at h ⊢
    rcases yx.mp h with e|e
    ·exact yx.mpr (.inl e)
    ·exact yE _ (i2 g e)
theorem jq (f:Str)(v:V):∀ fs:List (Str×V),(gh f v fs).length<=fs.length+1
 | []=>by simp[gh]
 | (k,x)::r=>by
  have ih:=jq f v r
  rw[show gh f v ((k,x)::r)=(if k=f then (k,v)::r else (k,x)::gh f v r) from rfl]
  by_cases hk:k=f
  ·rw[if_pos hk,z4,z4];omega
  ·rw[if_neg hk,z4,z4];omega
theorem Ej.some_of {v:V}{o:Option Value} (r:Ej (some v) o):∃ u,o=some u/\RelV v u:=by
 cases o with
 | none=>exact (show False from r).elim
 | some u=>exact⟨u,rfl,r⟩
theorem Ej.none_of {o:Option Value}(r:Ej none o):o=none:=by
 cases o with
 | none=>rfl
 | some u=>exact (show False from r).elim
theorem uR {v:V}{u:Value} (r:RelV v u):PySem.W.handedIn u=true:=by
 cases v with
 | non=>cases (show u=Value.none from r);rfl
 | bl b=>cases (show u=Value.bool b from r);rfl
 | int i=>obtain⟨t,e⟩:=(show ∃ t,u=Value.int i t from r);cases e;rfl
 | str x=>obtain⟨t,e⟩:=(show ∃ t,u=Value.str x t from r);cases e;rfl
 | byt b=>obtain⟨t,e⟩:=(show ∃ t,u=Value.bytes b t from r);cases e;rfl
 | flt b=>obtain⟨t,e⟩:=(show ∃ t,u=Value.float b t from r);cases e;rfl
 | ref a=>cases (show u=Value.ref a from r);rfl
 | ty n=>cases (show u=Value.type n from r);rfl
section
variable {P : Program}{w : World}{H H' : Hp}{h h' : Heap}{a C dx : Addr}{fs NZ : List (Str×V)}
theorem jU (BR:Ep P w H h)(e:H a=some (.ins C dx fs)):∃ mA,Ik h a dx C mA/\(∀ f,Ej (fs.lookup f) (mA f))/\PySem.Within mA (fs.map (·.1))/\fs.length<=1000/\H dx=some (.own a):=by
 obtain⟨d,z,ne,ob,mA,n,r,q⟩:=(show BN P w H h a (.ins C dx fs) from BR a _ e)
 exact⟨mA,⟨ob,n,ne⟩,r,q,z,d⟩
end
structure F8 (K : PySem.W.Frag) (C : Addr) : Prop where
  pg : PySem.W.plainGet K C Str.empty = true
  hd : PySem.W.hasDictIn K C = true
  po : PySem.W.plainOver K C = true
  sa : PySem.W.findIn K (.ref C) "__setattr__" = some (some (.builtin "object.__setattr__"))
theorem F8.get {K:PySem.W.Frag}{C:Addr} (c:F8 K C) (f:Str):PySem.W.plainGet K C f=true:=c.pg
noncomputable def CD (K:PySem.W.Frag)(C:Addr)(f:Str):Prop:=PySem.W.findIn K (.ref C) f=some none
theorem CD.Pr {K:PySem.W.Frag}{C:Addr}{f:Str} (n:CD K C f):PySem.W.takerIn K C f=some none:=by
 unfold PySem.W.takerIn
 rw[show PySem.W.findIn K (.ref C) f=some none from n]
 rfl
structure sI (K : PySem.W.Frag) (C : Addr) (m : Str) (f : Addr) : Prop where
  at_ : PySem.W.findIn K (.ref C) m = some (some (.ref f))
  fn : PySem.W.isFn K (.ref f) = true
  kp : PySem.W.keepIn K (.ref f) = true
section
variable {X : Cx}{pins : List (Addr×Obj)}{σ : St}{H : Hp}{s : Shared}{a C dx : Addr}{fs : List (Str×V)}{f : Str}{v : V}{A : Around}{E : Value -> Shared -> Prop}
theorem sx {b:Bool}{Q:Value->Shared->Prop} (I:Inv X pins σ H s) (e:H a=some (.ins C dx fs)) (c:F8 X.K C) (n:CD X.K C f) (l:fs.lookup f=some v)
  (h:∀ u s',Inv X pins σ H s'->RelV v u->Q u s'):wpAny (model X.prog X.w) A (getAttr (.ref a) f b) Q E s:=by
 obtain⟨mA,O,r,_,_,_⟩:=jU I.BR e
 obtain⟨u,hu,ru⟩:=Ej.some_of (v:=v) (o:=mA f) (by rw[<- l];exact r f)
 exact xO I.ET O (c.get f) c.hd n hu (uR ru) (h u _ (I.tok _) ru)
theorem gQ {m:Str}{g:Addr}{pl:Sem Bool}{Q:Value×List Value->Shared->Prop} (I:Inv X pins σ H s) (e:H a=some (.ins C dx fs)) (c:F8 X.K C) (k:sI X.K C m g) (l:fs.lookup m=none)
  (h:Q (.ref g,[.ref a]) s):wpAny (model X.prog X.w) A (getMethod (.ref a) m pl) Q E s:=by
 obtain⟨mA,O,r,_,_,_⟩:=jU I.BR e
 have hn:mA m=none:=Ej.none_of (by rw[<- l];exact r m)
 exact we I.ET O (c.get m) k.at_ k.fn hn h
theorem rn {y:V}{u:Value}{Q:Unit->Shared->Prop} (I:Inv X pins σ H s) (e:H a=some (.ins C dx fs)) (c:F8 X.K C) (n:CD X.K C f) (hl:fs.length<1000) (ry:RelV y u)
  (h:∀ s',Inv X pins σ (upd H a (.ins C dx (gh f y fs))) s'->Q () s'):wpAny (model X.prog X.w) A (setAttr (.ref a) f u) Q E s:=by
 obtain⟨mA,O,r,wi,_,ho⟩:=jU I.BR e
 have hz:(fs.map (·.1)).length<=sizeLine:=by rw[y6,Ab];omega
 refine wW I.ET O c.sa c.po n.Pr c.hd wi hz fun h' O' sb=>h _ ?_
 have hd:∃ o,h'.get? dx=some o:=let ⟨o,_,_,e',_⟩:=O'.ns;⟨o,e'⟩
 refine I.write (x:=a) (e:=dx) (by rw[e];exact Ah) (.inr ho) (fun b q hb z=>(sb.2 b hb).trans z) hd ?_
 refine⟨by rw[ae O.ne];exact ho,?_,O.ne,O'.obj,_,O'.ns,fun g=>?_,fun g hg=>?_⟩
 ·have:=jq f y fs;omega
 ·show Ej ((gh f y fs).lookup g) (if g=f then some u else mA g)
  rw[jo]
  by_cases q:g=f
  ·rw[if_pos q,if_pos q];exact ry
  ·rw[if_neg q,if_neg q];exact r g
 ·by_cases q:g=f
  ·rw[q];exact (j2 f y fs).1
  ·refine (j2 f y fs).2 g (wi g fun z=>hg ?_)
   show (if g=f then some u else mA g)=none
   rw[if_neg q];exact z
theorem Inv.made (I:Inv X pins σ H s):Inv X pins σ (upd (upd H s.heap.objs.size (.own (s.heap.objs.size+1))) (s.heap.objs.size+1) (.ins C s.heap.objs.size []))
  { s with heap:=(s.heap.push PySem.W.emptyDict).push (PySem.W.instObj C s.heap.objs.size) }:=by
 have e1:(s.heap.push PySem.W.emptyDict).get? s.heap.objs.size=some PySem.W.emptyDict:=yC s.heap rfl
 have e2:((s.heap.push PySem.W.emptyDict).push (PySem.W.instObj C s.heap.objs.size)).get? (s.heap.objs.size+1)=some (PySem.W.instObj C s.heap.objs.size):=by
  have:=yC (s.heap.push PySem.W.emptyDict) (o:=PySem.W.instObj C s.heap.objs.size) rfl
  rwa [zD]at this
 have e3:(s.heap.push PySem.W.emptyDict).Ns s.heap.objs.size (fun _=>none):=⟨PySem.W.emptyDict,#[],_,e1,rfl,(fun e he=>absurd he (by simp)),fun _=>rfl⟩
 have I1:=I.laid (a:=s.heap.objs.size) (o:=.own (s.heap.objs.size+1)) (h':=s.heap.push PySem.W.emptyDict) (t':=s.toks) (fun b u q=>yd _ q) (yh _) ⟨_,e1⟩
 refine I1.laid (a:=s.heap.objs.size+1) (o:=.ins C s.heap.objs.size []) (t':=s.toks) (fun b u q=>yd _ q) (Nat.le_of_eq (zD _ _)) ?_
 have ne:s.heap.objs.size≠s.heap.objs.size+1:=z9 (Bg _)
 refine⟨by rw[ae ne,a9],yR _,ne,e2,fun _=>none,(Heap.Ns1.of_empty e3).at fun o q=>yd _ q,fun _=>Ah,fun y hy=>absurd rfl hy⟩
theorem xT {prog:Program}{w:World}{env:Env}{e:Expr}{f:Str}{pos:Pos}{s:Shared}{Q:Value->Shared->Prop} (hb:attributeBase e f env (eval e env)=eval e env)
  (h:wpAny (model prog w) A (eval e env) (fun o s₁=>wpAny (model prog w) A (getAttr o f true) Q E s₁) E s):wpAny (model prog w) A (eval (.Attribute e f pos) env) Q E s:=
 Attribute_any_ h (by rw[arm_eval_Attribute,hb])
end
noncomputable def PJ (K:PySem.W.Frag)(ta:TE)(f:Str):TE:=fun σ H Q=>ta σ H fun x H1=>∃ a C dx fs v,x=.ref a/\H1 a=some (.ins C dx fs)/\F8 K C/\CD K C f/\fs.lookup f=some v/\Q v H1
noncomputable def Ur (K:PySem.W.Frag)(ta tv:TE)(f:Str):TS:=fun D σ H=>tv σ H fun y H1=>ta σ H1 fun x H2=>∃ a C dx fs,x=.ref a/\H2 a=some (.ins C dx fs)/\F8 K C/\CD K C f/\fs.length<1000/\
 D.nx σ (upd H2 a (.ins C dx (gh f y fs)))
section
variable {X : Cx}{o e value : Expr}{f : Str}{pos pos' DF : Pos}{ta tv : TE}
theorem MH (he:PE X e ta)(hb:attributeBase e f X.env (eval e X.env)=eval e X.env):PE X (.Attribute e f pos) (PJ X.K ta f):=by
 intro pins s σ H Q I h
 refine xT hb (Ca (he pins s σ H _ I h) fun u s1 j'=>?_)
 obtain⟨x,H1,I1,rx,a,C,dx,fs,v,ex,ea,c,n,l,q⟩:=j'
 subst ex
 obtain rfl:u=Value.ref a:=rx
 exact sx I1 ea c n l fun u' s2 I2 ru=>⟨v,H1,I2,ru,q⟩
theorem iU (ha:PE X o ta)(hv:PE X value tv)(hs:swapsWith value (some (.Attribute o f pos')) pos.line X.env=pure false):PS X (.Assign [.Attribute o f pos'] value pos) (Ur X.K ta tv f):=by
 intro pins s σ H D I h
 refine plainObj_wpAny_Assign_Attribute (Ca (hv pins s σ H _ I h) fun u s1 ⟨y,H1,I1,ry,q⟩=>Ca (ha pins s1 σ H1 _ I1 q) fun ov s2 j'=>?_) hs
 obtain⟨x,H2,I2,rx,a,C,dx,fs,ex,ea,c,n,l,q2⟩:=j'
 subst ex
 obtain rfl:ov=Value.ref a:=rx
 exact rn I2 ea c n l ry fun s3 I3=>⟨σ,_,I3,q2⟩
end
section
variable {X : Cx}{pins : List (Addr×Obj)}{σ : St}{H : Hp}{s : Shared}{A : Around}{E : Value -> Shared -> Prop}{Q : Value -> Shared -> Prop}{c : Value}{b : Bool}
inductive iy (K : PySem.W.Frag) (H : Hp) : V -> Value -> Prop where
  | non : iy K H .non (.type "NoneType")
  | bl (x : Bool) : iy K H (.bl x) (.type "bool")
  | int (i : Int) : iy K H (.int i) (.type "int")
  | str (x : Str) : iy K H (.str x) (.type "str")
  | flt (x : UInt64) : iy K H (.flt x) (.type "float")
  | lst {a : Addr} {xs : List V} (e : H a = some (.lst xs)) : iy K H (.ref a) (.type "list")
  | frz {a : Addr} {o : Obj} {xs : List V} (e : H a = some (.frz o (.lst xs))) : iy K H (.ref a) (.type "list")
  | tup {a : Addr} {xs : List V} (e : H a = some (.tup xs)) : iy K H (.ref a) (.type "tuple")
  | dK {a : Addr} {kvs : List (Key × V)} (e : H a = some (.dK kvs)) : iy K H (.ref a) (.type "dict")
  | dT {a : Addr} {kvs : List (List Key × V)} (e : H a = some (.dT kvs)) : iy K H (.ref a) (.type "dict")
  | ins {a C dx : Addr} {fs : List (Str × V)} (e : H a = some (.ins C dx fs)) (cl : F8 K C) (ha : PySem.W.findIn K (.ref C) "__class__" = some (some (.builtin "object.__class__")))
      (hn : PySem.W.specialIn K (.builtin "object.__class__") "__get__" = some (some (.builtin "getset_descriptor.__get__"))) (XY : PySem.W.takesIn K (.builtin "object.__class__") = some true)
      (hm : PySem.W.mroIn K C (.type "object") = some true) : iy K H (.ref a) (.ref C)
theorem uO {x:V}{u t:Value} (I:Inv X pins σ H s) (rx:RelV x u) (ty:iy X.K H x t) (e:PySem.W.kitOne X.K t c=some b) (h:∀ tk,Q (.bool b) { s with toks:=tk }):
  wpAny (model X.prog X.w) A (call (.builtin "isinstance") [u,c]) Q E s:=by
 cases ty with
 | non=>cases (show u=Value.none from rx);exact zP PySem.W.kitx_none I.ET Ah e (fun z=>nomatch z) h
 | bl y=>cases (show u=Value.bool y from rx);exact zP PySem.W.kitx_bool I.ET Ah e (fun z=>nomatch z) h
 | int i=>obtain⟨t,q⟩:=(show ∃ t,u=Value.int i t from rx);cases q;exact zP PySem.W.kitx_int I.ET Ah e (fun z=>nomatch z) h
 | str y=>obtain⟨t,q⟩:=(show ∃ t,u=Value.str y t from rx);cases q;exact zP PySem.W.kitx_str I.ET Ah e (fun z=>nomatch z) h
 | flt y=>obtain⟨t,q⟩:=(show ∃ t,u=Value.float y t from rx);cases q;exact zP PySem.W.kitx_float I.ET Ah e (fun z=>nomatch z) h
 | @lst a xs ea=>
  cases (show u=Value.ref a from rx)
  obtain⟨_,_,n,_,h1⟩:=(show BN X.prog X.w H s.heap a (.lst xs) from I.BR a _ ea)
  exact zP PySem.W.kitx_list I.ET ⟨_,h1,rfl⟩ e (fun z=>nomatch z) h
 | @frz a ob xs ea=>
  cases (show u=Value.ref a from rx)
  obtain⟨_,_,_,n,_,h1⟩:=(show BN X.prog X.w H s.heap a (.frz ob (.lst xs)) from I.BR a _ ea)
  exact zP PySem.W.kitx_list I.ET ⟨_,h1,rfl⟩ e (fun z=>nomatch z) h
 | @tup a xs ea=>
  cases (show u=Value.ref a from rx)
  obtain⟨_,_,_,p⟩:=(show BN X.prog X.w H s.heap a (.tup xs) from I.BR a _ ea)
  obtain⟨o,h1,h2,_⟩:=p
  exact zP PySem.W.kitx_tuple I.ET ⟨o,h1,h2⟩ e (fun z=>nomatch z) h
 | @dK a kvs ea=>
  cases (show u=Value.ref a from rx)
  obtain⟨_,_,vs,_,p⟩:=(show BN X.prog X.w H s.heap a (.dK kvs) from I.BR a _ ea)
  obtain⟨o,es,ep,h1,h2,_⟩:=p
  exact zP PySem.W.kitx_dict I.ET ⟨o,h1,h2.1⟩ e (fun z=>nomatch z) h
 | @dT a kvs ea=>
  cases (show u=Value.ref a from rx)
  obtain⟨_,_,xs,_,o,es,ep,h1,h2,_⟩:=(show BN X.prog X.w H s.heap a (.dT kvs) from I.BR a _ ea)
  exact zP PySem.W.kitx_dict I.ET ⟨o,h1,h2.1⟩ e (fun z=>nomatch z) h
 | @ins a C dx fs ea cl ha hn XY hm=>
  cases (show u=Value.ref a from rx)
  obtain⟨mA,O,_⟩:=jU I.BR ea
  obtain⟨od,J,_⟩:=O.look
  exact zP (PySem.W.kitx_own (cl.get _) cl.hd ha hn XY hm) I.ET J e (fun z=>nomatch z) h
end
structure Ck (k : Nat) (A : Around) : Prop where
  hd : A.handled = none
  dp : A.depth + 3 * k + 5 < recursionLimit
  un : A.units + 16 * k + 200 < cLine
theorem Ck.mono {j k:Nat}{A:Around} (r:Ck k A) (h:j<=k):Ck j A:=⟨r.hd,by have:=r.dp;omega,by have:=r.un;omega⟩
theorem Ck.deeper {k:Nat}{A:Around} (r:Ck (k+1) A) (env:Env):Ck k (A.deeper env):=
 ⟨r.hd,by have:=r.dp;show A.depth+1+3 * k+5<_;omega,by have:=r.un;show A.units+3+16 * k+200<_;omega⟩
theorem Ck.in1 {k:Nat}{A:Around} (r:Ck (k+1) A):Ck k A.in1:=
 ⟨r.hd,by have:=r.dp;show A.depth+3 * k+5<_;omega,by have:=r.un;show A.units+1+16 * k+200<_;omega⟩
theorem sg {A:Around}{C:Addr}{us:List Value}{kw:List (Str×Value)}:(A.under (.builtin "type.__call__" ⟨.ref C::us,kw⟩)).depth=A.depth+1:=by
 first|rfl|simp[Around.under,Code.weight,Code.isCreation,Code.isGuard,Code.isCaller,Code.frames,Code.isFrame,guardIds]
theorem sf {A:Around}{C:Addr}{us:List Value}{kw:List (Str×Value)}:(A.under (.builtin "type.__call__" ⟨.ref C::us,kw⟩)).units=A.units+1:=by
 first|rfl|simp[Around.under,Code.cUnits,Code.frames,Code.isFrame]
theorem Ck.make {k:Nat}{A:Around} (r:Ck (k+1) A) (C:Addr) (us:List Value) (kw:List (Str×Value)):Ck k (A.under (.builtin "type.__call__" ⟨.ref C::us,kw⟩)):=
 ⟨r.hd,by have:=r.dp;rw[sg];omega,by have:=r.un;rw[sf];omega⟩
theorem Ck.depth {k:Nat}{A:Around} (r:Ck k A):A.depth<recursionLimit:=by have:=r.dp;omega
theorem Ck.units {k:Nat}{A:Around} (r:Ck k A):A.units+64<cLine:=by have:=r.un;omega
noncomputable def lX:TA:=fun _ H Q=>Q [] H
noncomputable def fk (ta:TE)(tr:TA):TA:=fun σ H Q=>ta σ H fun x H1=>tr σ H1 fun xs H2=>Q (x::xs) H2
section
variable {X : Cx}{e : Expr}{es : List Expr}{te : TE}{t : TA}{pos : Pos}
theorem ab:PA X [] lX:=fun _ _ _ _ H Q I h=>Calls.spliced_nil ⟨[],H,I,.nil,h⟩
theorem a0 (ha:PE X e te)(hr:PA X es t)(hs:starEach (e::es) X.env=(false,eval e X.env)::starEach es X.env:=by rfl):PA X (e::es) (fk te t):=by
 intro pos pins s σ H Q I h
 rw[hs]
 show wpAny _ _ (spliced ((false,eval e X.env)::backTo pos (starEach es X.env))) _ _ s
 refine Calls.spliced_cons (Ca (ha pins s σ H _ I h) fun u s1 j'=>?_)
 obtain⟨x,H1,I1,r1,q1⟩:=j'
 exact Ca (hr pos pins s1 σ H1 _ I1 q1) fun us s2 j'=>by obtain⟨xs,H2,I2,r2,q2⟩:=j';exact⟨x::xs,H2,I2,.cons r1 r2,q2⟩
noncomputable def Ug (t:TA):TE:=fun σ H Q=>t σ H fun xs H1=>xs.length<=sizeLine/\∀ p,H1 p=none->Q (.ref p) (upd H1 p (.lst xs))
theorem MG (h:PA X es t):PE X (.List es pos) (Ug t):=by
 intro pins s σ H Q I hq
 refine wpAny_List_spliced (Ca (h pos pins s σ H _ I hq) fun us s1 ⟨xs,H1,I1,r,z,q⟩=>⟨by rw[<- r.length];exact z,?_⟩)
 have hf:H1 s1.heap.objs.size=none:=I1.BR.fresh (yh _)
 refine⟨.ref s1.heap.objs.size,upd H1 s1.heap.objs.size (.lst xs),I1.laid (t':=s1.toks) (fun b u e=>yd _ e) (yh _) ?_,rfl,q _ hf⟩
 exact⟨z,us,0,r,yC _ rfl⟩
end
noncomputable abbrev Sp:=List V->Hp->VK->XK->Prop
noncomputable abbrev Kk:=List Env->Hp->Shared->XK->Value->Shared->Prop
structure Io (P : Program) (w : World) (K : PySem.W.Frag) (mg : Str -> Option Value) (base : Heap) (A : Around) (outer : List Env) (s : Shared) (H : Hp) : Prop where
  frames : A.frames = some outer
  mod : Mod K mg base
  bs : ∀ b o, base.get? b = some o -> s.heap.get? b = some o /\ H b = none
  Ke : base.objs.size <= s.heap.objs.size
  Fj : s.heap.FunFrames base outer
  O0 : ∀ b ∈ Je outer, H b = none
  BR : Ep P w H s.heap
  bare : AllBare s.gens
noncomputable def CE (outer:List Env)(P:Program)(w:World)(H:Hp)(s:Shared)(Q:VK)(u:Value)(s':Shared):Prop:=
 ∃ v H',s'.os=s.os/\AllBare s'.gens/\Un (Je outer) [] H H' s.heap s'.heap/\Ep P w H' s'.heap/\RelV v u/\Q v H'
noncomputable def CR (CX:Kk)(outer:List Env)(P:Program)(w:World)(H:Hp)(s:Shared)(Q:VK)(E:XK)(r:Result)(s':Shared):Prop:=
 match r with
 | .ok (.ret u)=>CE outer P w H s Q u s'
 | .ok _=>False
 | .error e=>CX outer H s E e s'
structure BF (P : Program) (w : World) (K : PySem.W.Frag) (mg : Str -> Option Value) (base : Heap) (CX : Kk) (k : Nat) (f : Addr) (fd : FuncData) (ps : List Str) (sp : Sp) : Prop where
  len : ∀ vs H Q E, sp vs H Q E -> vs.length = ps.length
  run : ∀ (A : Around) (outer : List Env) (s : Shared) (H : Hp) (args : Args) (us : List Value) (vs : List V) (Q : VK) (E : XK), Ck k A -> Io P w K mg base A outer s H -> BindsTo s fd args (ps.zip us) -> Vals vs us -> sp vs H Q E ->
    codeAny (model P w) A (.call (.ref f) args) (CR CX outer P w H s Q E) s
theorem BF.imp {P:Program}{w:World}{K:PySem.W.Frag}{mg:Str->Option Value}{base:Heap}{CX:Kk}{k:Nat}{f:Addr}{fd:FuncData}{ps:List Str}{sp Xb:Sp} (F:BF P w K mg base CX k f fd ps sp)
  (h:∀ vs H Q E,Xb vs H Q E->sp vs H Q E):BF P w K mg base CX k f fd ps Xb:=
 ⟨fun vs H Q E q=>F.len vs H Q E (h _ _ _ _ q),fun A outer s H args us vs Q E hr he hb hv hs=>F.run A outer s H args us vs Q E hr he hb hv (h _ _ _ _ hs)⟩
theorem Io.make {P:Program}{w:World}{K:PySem.W.Frag}{mg:Str->Option Value}{base:Heap}{A:Around}{outer:List Env}{s:Shared}{H:Hp} (e:Io P w K mg base A outer s H) (C:Addr) (us:List Value) (kw:List (Str×Value)):
  Io P w K mg base (A.under (.builtin "type.__call__" ⟨.ref C::us,kw⟩)) outer s H:=⟨by first|exact e.frames|(simpa [Around.under,Code.envs,Code.isFrame,pushEnvs] using e.frames),e.mod,e.bs,e.Ke,e.Fj,e.O0,e.BR,e.bare⟩
section
variable {X : Cx}{pins : List (Addr×Obj)}{σ : St}{H : Hp}{s s' : Shared}
theorem Inv.RH (I:Inv X pins σ H s):Io X.prog X.w X.K X.mg X.base X.A X.stack s H:=
 ⟨I.ok.frames,I.ok.mod,I.bs,yV I.ok.Ke I.sz,I.stack,I.GD,I.BR,I.bare⟩
theorem Inv.after {Q:VK}{u:Value} (I:Inv X pins σ H s) (h:CE X.stack X.prog X.w H s Q u s'):EP X pins σ Q u s':=by
 obtain⟨v,H',os,bare,un,BR,r,q⟩:=h
 obtain⟨hh,g,d,t,ZY⟩:=s'
 obtain rfl:ZY=s.os:=os
 exact⟨v,H',I.call (h':=hh) (g':=g) (d':=d) (t':=t) (ch:=[]) un BR bare (fun b z=>absurd z (by simp)),r,q⟩
end
noncomputable def oX (sp:Sp)(dvs:List V)(E:XK)(t:TA):TE:=fun σ H Q=>t σ H fun vs H1=>sp (vs++dvs) H1 Q E
noncomputable def mx (C:Addr)(m:Str)(sp:Sp)(dvs:List V)(E:XK)(ta:TE)(t:TA):TE:=fun σ H Q=>ta σ H fun x H1=>∃ a dx fs,x=.ref a/\H1 a=some (.ins C dx fs)/\fs.lookup m=none/\
 t σ H1 fun vs H2=>sp (x::(vs++dvs)) H2 Q E
noncomputable def sM (C:Addr)(sp:Sp)(dvs:List V)(E:XK)(t:TA):TE:=fun σ H Q=>t σ H fun vs H1=>∀ x dx,H1 x=none->H1 dx=none->dx≠x->
 sp (.ref x::(vs++dvs)) (upd (upd H1 dx (.own x)) x (.ins C dx [])) (fun v H2=>v=.non/\Q (.ref x) H2) E
noncomputable def Binds (K:PySem.W.Frag)(fd:FuncData)(ps:List Str)(ds:List Value):Prop:=
 ∀ (s:Shared)(us:List Value),K.In s.heap->(us++ds).length=ps.length->BindsTo s fd ⟨us,[]⟩ (ps.zip (us++ds))
theorem Binds.all {K:PySem.W.Frag}{fd:FuncData}{ps:List Str} (h:∀ us:List Value,us.length=ps.length->bindArgs fd ⟨us,[]⟩=pure (ps.zip us)):Binds K fd ps []:=fun s us _ hl=>by
 rw[AB]at hl ⊢
 exact .of_eq (h us hl)
noncomputable def fY (CX:Kk)(X:Cx)(E:XK):Prop:=∀ (pins:List (Addr×Obj))(σ:St)(H:Hp)(s:Shared)(e:Value)(s':Shared),Inv X pins σ H s->CX X.stack H s E e s'->X.xe e s'
section
variable {X : Cx}{CX : Kk}{k : Nat}{f C : Addr}{fd : FuncData}{ps : List Str}{sp : Sp}{dvs : List V}{ds : List Value}{E : XK}{x m : Str}{p pos apos : Pos}{e o : Expr}{es : List Expr}{ta : TE}{t : TA}
theorem nS {pins:List (Addr×Obj)}{σ:St}{H:Hp}{s:Shared}{Q:VK}{us:List Value}{vs:List V} (F:BF X.prog X.w X.K X.mg X.base CX k f fd ps sp) (hr:Ck k X.A) (hb:Binds X.K fd ps ds) (hd:Vals dvs ds) (hx:fY CX X E)
  (I:Inv X pins σ H s) (r:Vals vs us) (h:sp (vs++dvs) H Q E):wpAny (model X.prog X.w) X.A (call (.ref f) us) (EP X pins σ Q) X.xe s:=by
 have r2:Vals (vs++dvs) (us++ds):=r.append hd
 have hl:(us++ds).length=ps.length:=by rw[<- r2.length];exact F.len _ _ _ _ h
 refine wpAny_call (codeAny_mono (F.run X.A X.stack s H ⟨us,[]⟩ (us++ds) (vs++dvs) Q E hr I.RH (hb s us I.ET hl) r2 h) fun r s' hq=>?_)
 cases r with
 | error e=>exact hx pins σ H s e s' I hq
 | ok fl=>
  cases fl with
  | ret u=>exact I.after hq
  | next=>exact False.elim hq
  | brk=>exact False.elim hq
  | cont=>exact False.elim hq
theorem sY (F:BF X.prog X.w X.K X.mg X.base CX k f fd ps sp)(hr:Ck k X.A)(hg:Gl X x)(hm:X.mg x=some (.ref f))(hk:PySem.W.keepIn X.K (.ref f)=true)(hb:Binds X.K fd ps ds)(hd:Vals dvs ds)(hx:fY CX X E)
  (ha:PA X (e::es) t) (Gw:(x==("__debug__":Str))=false:=by decide) (he:starEach (e::es) X.env=(false,eval e X.env)::starEach es X.env:=by rfl) (En:(backTo pos (starEach es X.env)).any (·.1)=false:=by rfl):
  PE X (.Call (.Name x p) (e::es) [] pos) (oX sp dvs E t):=by
 intro pins s σ H Q I h
 refine Au (jR I hg hm ?_ Gw)
 refine PySem.W.callWith_K (h₀:=X.base) I.ok.mod.LC hk (Ca (ha pos pins s σ H _ I h) fun us s1 ⟨vs,H1,I1,r,q⟩=>⟨I1.ET,?_⟩) he En
 exact nS F hr hb hd hx I1 r q
theorem sX {pl:Sem Bool}(he:PE X o ta)(c:F8 X.K C)(hm:sI X.K C m f)(F:BF X.prog X.w X.K X.mg X.base CX k f fd ps sp)(hr:Ck k X.A)(hb:Binds X.K fd ps ds)(hd:Vals dvs ds)(hx:fY CX X E)(ha:PA X (e::es) t)
  (IS:starEach (e::es) X.env=(false,eval e X.env)::starEach es X.env:=by rfl) (En:(backTo pos (starEach es X.env)).any (·.1)=false:=by rfl)
  (ht:eval (.Call (.Attribute o m apos) (e::es) [] pos) X.env=(do
   let ov <- eval o X.env
   standAt apos.atName
   let (f,first) <- holding [ov] (getMethod ov m pl)
   callWith pos f first (backTo pos (starEach (e::es) X.env)) (backToKw pos (keywordEach [] X.env))):=by rfl):
  PE X (.Call (.Attribute o m apos) (e::es) [] pos) (mx C m sp dvs E ta t):=by
 intro pins s σ H Q I h
 refine PySem.W.methodCall_KW (pl:=pl) (Ca (he pins s σ H _ I h) fun u s1 j'=>?_) ht
 obtain⟨x,H1,I1,rx,a,dx,fs,ex,ea,l,q⟩:=j'
 subst ex
 obtain rfl:u=Value.ref a:=rx
 refine gQ I1 ea c hm l ?_
 refine PySem.W.callWith_K (first:=[.ref a]) (h₀:=X.base) I.ok.mod.LC hm.kp (Ca (ha pos pins s1 σ H1 _ I1 q) fun us s2 ⟨vs,H2,I2,r,q2⟩=>⟨I2.ET,?_⟩) IS En
 exact nS (us:=.ref a::us) (vs:=.ref a::vs) F hr hb hd hx I2 (.cons rfl r) q2
theorem vA {pl:Sem Bool}(he:PE X o ta)(c:F8 X.K C)(hm:sI X.K C m f)(F:BF X.prog X.w X.K X.mg X.base CX k f fd ps sp)(hr:Ck k X.A)(hb:Binds X.K fd ps ds)(hd:Vals dvs ds)(hx:fY CX X E)
  (ht:eval (.Call (.Attribute o m apos) [] [] pos) X.env=(do
   let ov <- eval o X.env
   standAt apos.atName
   let (f,first) <- holding [ov] (getMethod ov m pl)
   callWith pos f first (backTo pos (starEach [] X.env)) (backToKw pos (keywordEach [] X.env))):=by rfl):
  PE X (.Call (.Attribute o m apos) [] [] pos) (mx C m sp dvs E ta lX):=by
 intro pins s σ H Q I h
 refine PySem.W.methodCall_KW (pl:=pl) (Ca (he pins s σ H _ I h) fun u s1 j'=>?_) ht
 obtain⟨x,H1,I1,rx,a,dx,fs,ex,ea,l,q⟩:=j'
 subst ex
 obtain rfl:u=Value.ref a:=rx
 refine gQ I1 ea c hm l ?_
 exact PySem.W.callWith_K0 (first:=[.ref a]) I1.ET hm.kp (nS (us:=[.ref a]) (vs:=[.ref a]) F hr hb hd hx I1 (.cons rfl .nil) q)
structure Mk (K : PySem.W.Frag) (C f : Addr) : Prop where
  makes : PySem.W.makesIn K C = true
  init : PySem.W.findIn K (.ref C) "__init__" = some (some (.ref f))
  fn : PySem.W.isFn K (.ref f) = true
  kp : PySem.W.keepIn K (.ref C) = true
theorem pB {pins:List (Addr×Obj)}{σ:St}{H:Hp}{s:Shared}{Q:VK}{us:List Value}{vs:List V} (M:Mk X.K C f) (F:BF X.prog X.w X.K X.mg X.base CX k f fd ps sp) (hr:Ck (k+1) X.A) (hb:Binds X.K fd ps ds) (hd:Vals dvs ds)
  (hx:fY CX X E) (I:Inv X pins σ H s) (r:Vals vs us)
  (h:∀ x dx,H x=none->H dx=none->dx≠x->sp (.ref x::(vs++dvs)) (upd (upd H dx (.own x)) x (.ins C dx [])) (fun v H2=>v=.non/\Q (.ref x) H2) E):
  wpAny (model X.prog X.w) X.A (call (.ref C) us) (EP X pins σ Q) X.xe s:=by
 have hq:=h (s.heap.objs.size+1) s.heap.objs.size (I.BR.fresh (Nat.le_succ _)) (I.BR.fresh (yh _)) (z9 (Bg _))
 have I2:=Inv.made (C:=C) I
 have r2:Vals (V.ref (s.heap.objs.size+1)::(vs++dvs)) (Value.ref (s.heap.objs.size+1)::(us++ds)):=.cons rfl (r.append hd)
 have hl:(Value.ref (s.heap.objs.size+1)::us++ds).length=ps.length:=by
  have e:=r2.length
  rw[F.len _ _ _ _ hq]at e
  exact e.symm
 refine wpAny_call (vU (f:=f) I.ET M.makes M.init (Ad.mp M.fn) (codeAny_mono (F.run _ X.stack _ _ ⟨Value.ref (s.heap.objs.size+1)::us,[]⟩ (Value.ref (s.heap.objs.size+1)::(us++ds)) _ _ E (hr.make C us [])
  (I2.RH.make C us []) (hb _ (Value.ref (s.heap.objs.size+1)::us) I2.ET hl) r2 hq) fun r s' Gq=>?_))
 cases r with
 | error e=>exact hx pins σ _ _ e s' I2 Gq
 | ok fl=>
  cases fl with
  | ret u=>
   obtain⟨v,H',I3,rv,ev,q3⟩:=I2.after Gq
   subst ev
   exact⟨rv,⟨V.ref (s.heap.objs.size+1),H',I3,rfl,q3⟩⟩
  | next=>exact False.elim Gq
  | brk=>exact False.elim Gq
  | cont=>exact False.elim Gq
theorem xi (M:Mk X.K C f)(F:BF X.prog X.w X.K X.mg X.base CX k f fd ps sp)(hr:Ck (k+1) X.A)(hg:Gl X x)(hm:X.mg x=some (.ref C))(hb:Binds X.K fd ps ds)(hd:Vals dvs ds)(hx:fY CX X E)
  (ha:PA X (e::es) t) (Gw:(x==("__debug__":Str))=false:=by decide) (he:starEach (e::es) X.env=(false,eval e X.env)::starEach es X.env:=by rfl) (En:(backTo pos (starEach es X.env)).any (·.1)=false:=by rfl):
  PE X (.Call (.Name x p) (e::es) [] pos) (sM C sp dvs E t):=by
 intro pins s σ H Q I h
 refine Au (jR I hg hm ?_ Gw)
 refine PySem.W.callWith_K (h₀:=X.base) I.ok.mod.LC M.kp (Ca (ha pos pins s σ H _ I h) fun us s1 ⟨vs,H1,I1,r,q⟩=>⟨I1.ET,?_⟩) he En
 exact pB M F hr hb hd hx I1 r q
theorem vB (M:Mk X.K C f)(F:BF X.prog X.w X.K X.mg X.base CX k f fd ps sp)(hr:Ck (k+1) X.A)(hg:Gl X x)(hm:X.mg x=some (.ref C))(hb:Binds X.K fd ps ds)(hd:Vals dvs ds)(hx:fY CX X E)
  (Gw:(x==("__debug__":Str))=false:=by decide):PE X (.Call (.Name x p) [] [] pos) (sM C sp dvs E lX):=by
 intro pins s σ H Q I h
 refine Au (jR I hg hm ?_ Gw)
 exact PySem.W.callWith_K0 I.ET M.kp (pB (us:=[]) M F hr hb hd hx I .nil h)
end
structure ai (N P : List Str) (sc : Scope) : Prop where
  kind : sc.kind = .function
  co : sc.isCoroutine = false
  gen : sc.isGenerator = false
  nd : N.Nodup
  pre : N.take P.length = P
  par : ∀ x ∈ P, sc.names.lookup x = some .local \/ sc.names.lookup x = some .cell
  MS : ∀ y ∈ sc.names, y.2 ≠ .free
theorem nz {kindOf:Str->Option NameKind}{x:Str}:∀ {binds:List (Str×Value)}{m:Str->Option Value},(∀ v,(x,v)∉binds)->bindL kindOf binds m x=m x
 | [],_,_=>rfl
 | (n,v)::r,m,h=>by
  unfold bindL
  rw[nz fun w hw=>h w (yE _ hw)]
  split
  ·have:x≠n:=by rintro rfl;exact h v yw
   simp[this]
  ·rfl
theorem nB {kindOf:Str->Option NameKind}{x:Str}:∀ {binds:List (Str×Value)}{m:Str->Option Value},(∀ v,(x,v)∉binds)->bindC kindOf binds m x=m x
 | [],_,_=>rfl
 | (n,v)::r,m,h=>by
  unfold bindC
  rw[nB fun w hw=>h w (yE _ hw)]
  split
  ·rfl
  ·have:x≠n:=by rintro rfl;exact h v yw
   simp[this]
theorem nA {kindOf:Str->Option NameKind}{x:Str}{v:Value}:∀ {P:List Str}{vs:List Value}{i:Nat}{m:Str->Option Value},P.Nodup->P[i]?=some x->vs[i]?=some v->kindOf x=some .local->
  bindL kindOf (P.zip vs) m x=some v
 | [],_,_,_,_,h,_,_=>by simp at h
 | _::_,[],_,_,_,_,h,_=>by simp at h
 | p::P,w::vs,0,m,nd,h1,h2,hk=>by
  simp at h1 h2;subst h1;subst h2
  show bindL kindOf ((p,w)::P.zip vs) m p=_
  unfold bindL
  rw[nz fun v hv=>(zk.mp nd).1 (List.of_mem_zip hv).1,if_pos hk]
  simp
 | p::P,w::vs,i+1,m,nd,h1,h2,hk=>by
  show bindL kindOf ((p,w)::P.zip vs) m x=_
  unfold bindL
  exact nA (i:=i) (zk.mp nd).2 (by simpa using h1) (by simpa using h2) hk
theorem nC {kindOf:Str->Option NameKind}{x:Str}{v:Value}:∀ {P:List Str}{vs:List Value}{i:Nat}{m:Str->Option Value},P.Nodup->P[i]?=some x->vs[i]?=some v->kindOf x≠some .local->
  bindC kindOf (P.zip vs) m x=some v
 | [],_,_,_,_,h,_,_=>by simp at h
 | _::_,[],_,_,_,_,h,_=>by simp at h
 | p::P,w::vs,0,m,nd,h1,h2,hk=>by
  simp at h1 h2;subst h1;subst h2
  show bindC kindOf ((p,w)::P.zip vs) m p=_
  unfold bindC
  rw[nB fun v hv=>(zk.mp nd).1 (List.of_mem_zip hv).1,if_neg hk]
  simp
 | p::P,w::vs,i+1,m,nd,h1,h2,hk=>by
  show bindC kindOf ((p,w)::P.zip vs) m x=_
  unfold bindC
  exact nC (i:=i) (zk.mp nd).2 (by simpa using h1) (by simpa using h2) hk
noncomputable def start (N:List Str)(vs:List V):St:=vs.map some++List.replicate (N.length - vs.length) none
noncomputable def lK (CX:Kk)(P:Program)(w:World)(K:PySem.W.Frag)(mg:Str->Option Value)(base:Heap)(N:List Str)(qual:Str)(scope:Scope)(f:Addr)(cd:Value)(A:Around)(outer:List Env)(s:Shared)(H:Hp)(E:XK):Cx where
 prog:=P
 w:=w
 K:=K
 mg:=mg
 base:=base
 A:=A.deeper (envOfC qual scope s.heap.objs.size f cd)
 N:=N
 s₀:=s
 H₀:=H
 env:=envOfC qual scope s.heap.objs.size f cd
 outer:=outer
 stack:=envOfC qual scope s.heap.objs.size f cd::outer
 ex:=[]
 calm:=true
 fn:=fun _=>true
 pn:=[]
 xe:=fun e s'=>wpAny (model P w) (A.deeper (envOfC qual scope s.heap.objs.size f cd)) (leaving (envOfC qual scope s.heap.objs.size f cd) e) (fun _ Lu=>CX outer H s E e Lu) (fun e' Lu=>CX outer H s E e' Lu) s'
theorem qR {sc:Scope}{n:Nat}{x:Str} (h:sc.names.lookup x=some .cell):∃ c,(cellsFrom n sc.names []).lookup x=some c:=by
 have q:=PySem.W.cellsFrom_some sc.names n [] (.inl h)
 exact AO.mp q
theorem uP {CX:Kk}{P:Program}{w:World}{K:PySem.W.Frag}{mg:Str->Option Value}{base:Heap}{N ps:List Str}{qual:Str}{scope:Scope}{f:Addr}{cd:Value}{A:Around}{outer:List Env}{s s1:Shared}{H:Hp}{E:XK}{us:List Value}{vs:List V}
  (S:ai N ps scope) (hd:A.handled=none) (e0:Io P w K mg base A outer s H) (hl:vs.length=ps.length) (r:Vals vs us)
  (x:InCallC s s.heap.objs.size (bindL (envOfC qual scope s.heap.objs.size f cd).kindOf (ps.zip us) fun _=>none) (cellsFrom (s.heap.objs.size+1) scope.names []) (bindC (envOfC qual scope s.heap.objs.size f cd).kindOf (ps.zip us) fun _=>none) s1):
  Inv (lK CX P w K mg base N qual scope f cd A outer s H E) [] (start N vs) H s1:=by
 have En:ps.length<=N.length:=by have:=congrArg List.length S.pre;rw[yM]at this;omega
 obtain⟨h1,tk,rfl,hk⟩:=x.done
 have Kn:∀ b:Addr,b∉(lK CX P w K mg base N qual scope f cd A outer s H E).ex:=fun b z=>absurd (show b∈([]:List Addr) from z) (by simp)
 refine⟨⟨e0.mod,S.kind,rfl,rfl,yh _,fun y z c h1 h2=>?_,fun y hy=>?_,fun y c _ h=>?_,fun _=>hd,Around.frames_deeper e0.frames,.inr ⟨rfl,rfl⟩,fun b z=>absurd z (Kn b),e0.bs,e0.Ke,fun b _ _=>Kn b,fun b z=>absurd z (Kn b),e0.Fj,e0.O0⟩,
  rfl,e0.bare,Un.kept hk,⟨_,x.toInCall.ns,fun i y v h1 h2 h3=>?_⟩,fun y c h=>⟨_,x.cell y c h⟩,e0.BR.fresh (yh _),fun y c h=>?_,fun p hp=>absurd (show p∈([]:List (Addr×Obj)) from hp) (by simp),e0.BR.kept hk,?_⟩
 ·exact name_of_addr x.apart (zW h1) (zW h2)
 ·have hy:scope.names.lookup y=some .cell\/scope.names.lookup y=some .free:=hy
  rcases hy with hy|hy
  ·exact qR hy
  ·exact absurd rfl (S.MS _ (zW hy))
 ·exact Al (x.above y c (zW h))
 ·have hi:i<vs.length:=by
   unfold start at h2
   by_cases hi:i<vs.length
   ·exact hi
   ·rw[yT (by simpa using hi)]at h2
    rw[List.getElem?_replicate]at h2
    split at h2 <;> cases h2
  have ha:vs[i]?=some v:=by
   unfold start at h2
   rw[yU (by simpa using hi),ye]at h2
   cases e:vs[i]? with
   | none=>rw[e]at h2;cases h2
   | some a=>rw[e]at h2;cases h2;rfl
  obtain⟨u,hu,rv⟩:=r.get ha
  have hp:ps[i]?=some y:=by
   rw[<- S.pre,Aa (by omega)];exact h1
  have Xt:ps.Nodup:=by rw[<- S.pre];exact S.nd.sublist (List.take_sublist _ _)
  refine⟨u,rv,?_⟩
  rcases S.par y (yj hp) with k|k
  ·exact .inl ⟨k,nA Xt hp hu k⟩
  ·obtain⟨c,e⟩:=qR (n:=s.heap.objs.size+1) k
   refine .inr ⟨.inl k,c,e,?_⟩
   have q:=x.cell y c e
   rw[nC Xt hp hu (by show scope.names.lookup y≠_;rw[k];decide)]at q
   exact q
 ·exact e0.BR.fresh (Al (x.above y c (zW h)))
 ·unfold start
  show _=N.length
  rw[yI,y6,Bf]
  omega
theorem wj {CX:Kk}{P:Program}{w:World}{K:PySem.W.Frag}{mg:Str->Option Value}{base:Heap}{k:Nat}{f:Addr}{name qual:Str}{params:Arguments}{body:List Stmt}{scope:Scope}{dV kV doc pm BJ ct oc:Value}{an od:Option Addr}
  {DS:Array (Option Value)}{N ps:List Str}{sp:Sp} (lk:K.lookup f=some ⟨oc,od,.func (PySem.W.fnOf name qual params body scope dV kV doc pm an BJ ct),DS⟩) (G8:PySem.W.codeIn K BJ qual=true) (S:ai N ps scope)
  (len:∀ vs H Q E,sp vs H Q E->vs.length=ps.length)
  (E5:∀ (A:Around)(outer:List Env)(s:Shared)(H:Hp)(vs:List V)(Q:VK)(E:XK),Ck k (A.deeper (envOfC qual scope s.heap.objs.size f BJ))->sp vs H Q E->
   ∃ t,GA (lK CX P w K mg base N qual scope f BJ A outer s H E) body t/\t { nx:=fun _ H'=>Q .non H',rt:=Q } (start N vs) H):
  BF P w K mg base CX (k+1) f (PySem.W.fnOf name qual params body scope dV kV doc pm an BJ ct) ps sp:=by
 refine⟨len,fun A outer s H args us vs Q E hr e0 hb r Jm=>?_⟩
 have hl:=len _ _ _ _ Jm
 have KX:K.In s.heap:=e0.mod.LC.keeps fun b o e=>(e0.bs b o e).1
 have lim:s.heap.NoLimit:=e0.mod.nolimit.keeps fun b o e=>(e0.bs b o e).1
 have Ri:∀ y∈ps.zip us,scope.names.lookup y.1=some .local\/(scope.names.lookup y.1=some .cell/\((cellsFrom (s.heap.objs.size+1) scope.names []).lookup y.1).isSome=true):=fun j' hy=>by
  obtain⟨n,v⟩:=j'
  rcases S.par n (List.of_mem_zip hy).1 with q|q
  ·exact .inl q
  ·exact .inr ⟨q,PySem.W.cellsFrom_some _ _ _ (.inl q)⟩
 refine codeAny_call_function hr.depth (KX _ _ lk) rfl S.co S.gen rfl (PySem.W.codeRec_of KX G8) (hb _ _ _ _ ?_)
 refine wpAny_newFunctionEnv_cells S.kind Ri fun env he s1 x=>?_
 subst he
 refine⟨lim.keeps x.toInCall.keep,codeAny_func ?_⟩
 obtain⟨t,ht,hq⟩:=E5 A outer s H vs Q E (hr.deeper _) Jm
 have I:Inv (lK CX P w K mg base N qual scope f BJ A outer s H E) [] (start N vs) H s1:=uP S hr.hd e0 hl r x
 refine zR (ht [] s1 (start N vs) H _ I hq) (fun fl s' hs=>?_) fun e s' hs=>hs
 have fin:∀ {σ':St}{H':Hp}{v:V}{u:Value},Inv (lK CX P w K mg base N qual scope f BJ A outer s H E) [] σ' H' s'->RelV v u->Q v H'->CE outer P w H s Q u s':=
  fun {σ' H' v u} J rv q=>⟨v,H',J.os,J.bare,J.base,J.BR,rv,q⟩
 cases fl with
 | ret u=>
  obtain⟨v,σ',H',J,rv,q⟩:=hs
  exact fin J rv q
 | next=>
  obtain⟨σ',H',J,q⟩:=hs
  exact fin (v:=V.non) (u:=Value.none) J rfl q
 | brk=>
  obtain⟨_,_,_,q⟩:=hs
  exact False.elim q
 | cont=>
  obtain⟨_,_,_,q⟩:=hs
  exact False.elim q
section
variable {X : Cx}{x : Str}{p pos : Pos}{e : Expr}{es : List Expr}{t : TA}{id T : String}{r : List V -> Hp -> VK -> Prop}
noncomputable def X' (r:List V->Hp->VK->Prop)(t:TA):TE:=fun σ H Q=>t σ H fun vs H1=>r vs H1 Q
theorem aw (hc:CM X (.builtin id) r)(hg:Gl X x)(hm:X.mg x=none)(hv:bootBuiltins x=some (.builtin id))(ha:PA X (e::es) t)(hn:x≠"__name__":=by decide)(Gw:(x==("__debug__":Str))=false:=by decide)
  (he:starEach (e::es) X.env=(false,eval e X.env)::starEach es X.env:=by rfl) (En:(backTo pos (starEach es X.env)).any (·.1)=false:=by rfl):PE X (.Call (.Name x p) (e::es) [] pos) (X' r t):=by
 intro pins s σ H Q I h
 refine Au (dL I hg hm hv ?_ hn Gw)
 exact PyProof.Rows.callWith_builtin1 (Ca (ha pos pins s σ H _ I h) fun us s1 j'=>(by obtain⟨vs,H1,I1,r1,q1⟩:=j';exact hc pins s1 σ H1 vs us Q I1 r1 q1)) he En
theorem bz (hc:CM X (.type T) r)(hg:Gl X x)(hm:X.mg x=none)(hv:bootBuiltins x=some (.type T))(ha:PA X (e::es) t)(hn:x≠"__name__":=by decide)(Gw:(x==("__debug__":Str))=false:=by decide)
  (he:starEach (e::es) X.env=(false,eval e X.env)::starEach es X.env:=by rfl) (En:(backTo pos (starEach es X.env)).any (·.1)=false:=by rfl):PE X (.Call (.Name x p) (e::es) [] pos) (X' r t):=by
 intro pins s σ H Q I h
 refine Au (dL I hg hm hv ?_ hn Gw)
 exact zC (Ca (ha pos pins s σ H _ I h) fun us s1 j'=>(by obtain⟨vs,H1,I1,r1,q1⟩:=j';exact hc pins s1 σ H1 vs us Q I1 r1 q1)) he En
end
end L2
namespace HT
open PySem PyProof.Rows
theorem Kb (A:Around)(s:Shared)(a:Int)(t:Tok)(c:Int)(u:Tok):∃ e,SeqAt.EqAt A s (.int a t) (.int c u) e/\(e=true ↔ a=c):=
 ⟨(a==c),SeqAt.EqAt.int_int a t c u,by simp⟩
section
variable {prog : Program}{w : World}{A : Around}{E : Value -> Shared -> Prop}{s : Shared}
noncomputable def Hq (n d:Nat):Option Int->Nat
 | none=>d
 | some v=>if v<0 then (v+(n:Int)).toNat else min v.toNat n
theorem Ho (n d:Nat):Hq n d none=d:=rfl
theorem Fp (n d k:Nat):Hq n d (some (k:Int))=min k n:=by
 show (if (k:Int)<0 then ((k:Int)+(n:Int)).toNat else min (k:Int).toNat n)=min k n
 rw[if_neg (by omega),yZ]
end
end HT
namespace L2
open PySem PySem.Spec PyProof.Rows
noncomputable abbrev TO:=St->Hp->(Option Int->Hp->Prop)->Prop
noncomputable def PO (X:Cx)(e:Option Expr)(t:TO):Prop:=
 ∀ (pins:List (Addr×Obj))(s:Shared)(σ:St)(H:Hp)(Q:Option Int->Hp->Prop),Inv X pins σ H s->t σ H Q->
  wpAny (model X.prog X.w) X.A (evalPart e X.env) (fun u s'=>∃ o H',Inv X pins σ H' s'/\IsPart u o/\Q o H') X.xe s
noncomputable def wQ:TO:=fun _ H Q=>Q none H
noncomputable def Pw (t:TE):TO:=fun σ H Q=>t σ H fun x H1=>∃ i,x=.int i/\Q (some i) H1
theorem sv {ns:List Int}:∀ {us:List Value},Vals (ns.map V.int) us->IntsAre us ns:=by
 induction ns with
 | nil=>intro us r;rw[zZ]at r;cases r;exact .nil
 | cons n ns ih=>
  intro us r
  rw[yJ]at r
  cases r with
  | cons r1 r2=>
   obtain⟨t,e⟩:=r1
   subst e
   exact .cons n t (ih r2)
section
variable {X : Cx}{e : Expr}{te : TE}{lo hi : Option Expr}{tl th : TO}{pos p2 : Pos}
theorem eN:PO X none wQ:=by
 intro pins s σ H Q I h
 rw[evalPart_none]
 exact yu ⟨none,H,I,.none,h⟩
theorem cX (h:PE X e te):PO X (some e) (Pw te):=by
 intro pins s σ H Q I hw
 rw[evalPart_some]
 refine Ca (h pins s σ H _ I hw) fun u s1 j'=>?_
 obtain⟨x,H1,I1,r1,q1⟩:=j'
 obtain⟨i,rfl,q⟩:=q1
 obtain⟨t,rfl⟩:=r1
 exact⟨some i,H1,I1,.int i t,q⟩
noncomputable def Pe (X:Cx)(r:V->Option Int->Option Int->Hp->VK->Prop):Prop:=
 ∀ (pins:List (Addr×Obj))(s:Shared)(σ:St)(H:Hp)(x:V)(v vl vu:Value)(lo hi:Option Int)(sl:Addr)(Q:VK),Inv X pins σ H s->RelV x v->s.heap.IsSliceOf sl vl vu .none->IsPart vl lo->IsPart vu hi->r x lo hi H Q->
  ∃ T id,typeLookup (.type T) "__getitem__"=pure (some (.builtin id))/\s.TypeIs v T/\wpAny (model X.prog X.w) X.A (getItem v (.ref sl)) (EP X pins σ Q) X.xe s
noncomputable def ZC (r:V->Option Int->Option Int->Hp->VK->Prop)(te:TE)(tl th:TO):TE:=fun σ H Q=>te σ H fun x H1=>tl σ H1 fun l H2=>th σ H2 fun u H3=>r x l u H3 Q
theorem cK {r:V->Option Int->Option Int->Hp->VK->Prop}(hr:Pe X r)(he:PE X e te)(hl:PO X lo tl)(hu:PO X hi th):PE X (.Subscript e (.Slice lo hi none p2) pos) (ZC r te tl th):=by
 intro pins s σ H Q I h
 refine Subscript_ (Ca (he pins s σ H _ I h) fun v s1 j'=>?_)
 obtain⟨x,H1,I1,r1,q1⟩:=j'
 refine wpAny_Slice (Ca (hl pins s1 σ H1 _ I1 q1) fun vl s2 ⟨l,H2,I2,pl,q2⟩=>Ca (hu pins s2 σ H2 _ I2 q2) fun vu s3 j'=>?_)
 obtain⟨u,H3,I3,pu,q3⟩:=j'
 rw[evalPart_none]
 refine yu ?_
 have I4:Inv X pins σ H3 { s3 with heap:=s3.heap.push { cls:=.type "slice",data:=.fields #[vl,vu,.none] } }:=I3.kept (t':=s3.toks) fun b ob q=>yd _ q
 obtain⟨T,id,hT,ht,hg⟩:=hr pins { s3 with heap:=s3.heap.push { cls:=.type "slice",data:=.fields #[vl,vu,.none] } } σ H3 x v vl vu l u s3.heap.objs.size Q I4 r1 (Heap.IsSliceOf.new ..) pl pu q3
 show wpAny (model X.prog X.w) X.A (subscriptTail e (.Slice lo hi none p2) v (.ref s3.heap.objs.size)) (EP X pins σ Q) X.xe { s3 with heap:=s3.heap.push { cls:=.type "slice",data:=.fields #[vl,vu,.none] } }
 exact tail_any (ops:=[.ref s3.heap.objs.size,v]) ht hT hg (by with_unfolding_all rfl)
noncomputable def j6 (xs:List V)(lo hi:Option Int):List V:=(xs.drop (HT.Hq xs.length 0 lo)).take (HT.Hq xs.length xs.length hi - HT.Hq xs.length 0 lo)
theorem qJ (xs:List V)(lo hi:Option Int):(j6 xs lo hi).length<=xs.length:=by
 unfold j6
 rw[yM,AL]
 omega
end
noncomputable def Ko (n:Nat)(i:Int):Option Nat:=if 0<=i then (if i<n then some i.toNat else none) else if -(n:Int)<=i then some (i+n).toNat else none
noncomputable def GZ {α:Type}(xs:List α)(i:Int):Option α:=(Ko xs.length i).bind fun j=>xs[j]?
theorem tw {n:Nat}{i:Int}{j:Nat} (h:Ko n i=some j):seqIndex? i n=some j/\j<n/\-(n:Int)<=i/\i<n:=by
 unfold Ko at h
 by_cases h0:0<=i
 ·rw[if_pos h0]at h
  by_cases h1:i<n
  ·rw[if_pos h1]at h
   have e:i.toNat=j:=Option.some.inj h
   exact⟨by rw[seqIndex_of h0 h1,e],by omega,by omega,h1⟩
  ·rw[if_neg h1]at h;cases h
 ·rw[if_neg h0]at h
  by_cases h1:-(n:Int)<=i
  ·rw[if_pos h1]at h
   have e:(i+n).toNat=j:=Option.some.inj h
   exact⟨by rw[seqIndex_neg (by omega) h1,e],by omega,h1,by omega⟩
  ·rw[if_neg h1]at h;cases h
theorem tV {α:Type}{xs:List α}{i:Int}{v:α} (h:GZ xs i=some v):∃ j,seqIndex? i xs.length=some j/\xs[j]?=some v/\j<xs.length/\-(xs.length:Int)<=i/\i<xs.length:=by
 unfold GZ at h
 cases e:Ko xs.length i with
 | none=>rw[e]at h;cases h
 | some j=>
  rw[e]at h
  obtain⟨h1,h2,h3,h4⟩:=tw e
  exact⟨j,h1,h,h2,h3,h4⟩
theorem cz {α:Type}{xs:List α}{j:Nat}{v:α} (h:xs[j]?=some v):GZ xs (j:Int)=some v:=by
 have hj:j<xs.length:=(yb.mp h).1
 have e:Ko xs.length (j:Int)=some j:=by
  unfold Ko
  rw[if_pos (by omega),if_pos (by omega)];simp
 unfold GZ;rw[e];exact h
noncomputable def tW (b:Expr):Prop:=∀ o i,subscripted b false o i=operate [o,i] (getItem o i)
noncomputable def Pg (X:Cx)(r:R2):Prop:=
 ∀ (value slice:Expr)(pins:List (Addr×Obj))(s:Shared)(σ:St)(H:Hp)(x y:V)(v u:Value)(Q:VK),Inv X pins σ H s->RelV x v->RelV y u->r x y H Q->
  subscripted slice false v u=operate [v,u] (getItem v u)->wpAny (model X.prog X.w) X.A (subscriptTail value slice v u) (EP X pins σ Q) X.xe s
noncomputable def TZ (X:Cx)(id:String)(r:V->List V->Hp->VK->Prop):Prop:=
 ∀ (pins:List (Addr×Obj))(s:Shared)(σ:St)(H:Hp)(x:V)(xs:List V)(v:Value)(us:List Value)(Q:VK),Inv X pins σ H s->RelV x v->Vals xs us->r x xs H Q->
  wpAny (model X.prog X.w) X.A (call (.builtin id) (v::us)) (EP X pins σ Q) X.xe s
section
variable {X : Cx}{a b : Expr}{ta tb : TE}{pos : Pos}
theorem Q7 {r:R2}(hr:Pg X r)(ha:PE X a ta)(hb:PE X b tb)(hs:tW b):PE X (.Subscript a b pos) (Me r ta tb):=by
 intro pins s σ H Q I h
 exact Subscript_ (Of ha hb I h fun v u s2 x y H2 I2 rx ry q=>hr a b pins s2 σ H2 x y v u Q I2 rx ry q (hs _ _))
noncomputable def Q1 (K:PySem.W.Frag):R2:=fun x y H Q=>∃ p xs i v,x=.ref p/\y=.int i/\B' K H p xs/\GZ xs i=some v/\Q v H
noncomputable def Q0 (K:PySem.W.Frag):R2:=fun x y H Q=>∃ p xs i v,x=.ref p/\y=.int i/\CT K H p xs/\GZ xs i=some v/\Q v H
theorem xL:Pg X (Q1 X.K):=by
 intro value slice pins s σ H x y v u Q I rx ry h hs
 obtain⟨p,xs,i,z,rfl,rfl,hq,he,q⟩:=h
 cases rx
 obtain⟨t,rfl⟩:=ry
 obtain⟨its,r,pl,hz⟩:=I.list hq
 obtain⟨j,h1,h2,h3,h4,h5⟩:=tV he
 obtain⟨w,ew,JF⟩:=r.get h2
 have hl:=r.length
 have hn:=lw
 have fin:EP X pins σ Q w s:=⟨z,H,I,JF,q⟩
 by_cases h0:0<=i
 ·have hj:i.toNat=j:=by
   rw[seqIndex_of h0 h5]at h1
   exact Option.some.inj h1
  exact item_listR pl.isList h0 (by omega) (by rw[hj];simpa using ew) fin hs
 ·have hj:(i+(its.toArray.size:Int)).toNat=j:=by
   rw[seqIndex_neg (by omega) h4]at h1
   rw[yL,<- hl]
   exact Option.some.inj h1
  exact subscriptTail_builtinR (x:=w) pl.isList.typeIs slot_list_getitem.lookup
   (wpAny_getItem_list_neg (Q:=fun r s'=>r=w/\EP X pins σ Q r s') pl.isList (by omega) (by rw[yL] <;> omega) (by omega) (by rw[hj];simpa using ew) ⟨rfl,fin⟩) hs
theorem Nl:Pg X (Q0 X.K):=by
 intro value slice pins s σ H x y v u Q I rx ry h hs
 obtain⟨p,xs,i,z,rfl,rfl,hq,he,q⟩:=h
 cases rx
 obtain⟨t,rfl⟩:=ry
 obtain⟨its,r,pl,hz⟩:=I.tuple hq
 obtain⟨j,h1,h2,h3,h4,h5⟩:=tV he
 obtain⟨w,ew,JF⟩:=r.get h2
 have hl:=r.length
 have hn:=lw
 have fin:EP X pins σ Q w s:=⟨z,H,I,JF,q⟩
 exact subscriptTail_builtinR (x:=w) pl.typeIs slot_tuple_getitem.lookup
  (getItem_tuple (j:=j) (Q:=fun r s'=>r=w/\EP X pins σ Q r s') pl (by omega) (by omega) (by rw[yL,<- hl];exact h1) (by simpa using ew) ⟨rfl,fin⟩) hs
theorem se (its:List Value)(n j:Nat)(u:Value):Obj.mapSeq (·.setIfInBounds j u) { cls:=.type "list",data:=.seq its.toArray n }={ cls:=.type "list",data:=.seq (its.set j u).toArray n }:=by
 simp[Obj.mapSeq]
theorem Inv.lst {pins:List (Addr×Obj)}{σ:St}{H:Hp}{s:Shared}{p:Addr}{xs:List V} (I:Inv X pins σ H s) (h:H p=some (.lst xs)):
  ∃ (its:List Value)(n:Nat),Vals xs its/\s.heap.get? p=some { cls:=.type "list",data:=.seq its.toArray n }/\xs.length<=sizeLine:=by
 obtain⟨z,its,n,r,e⟩:=I.BR p _ h
 exact⟨its,n,r,e,z⟩
theorem Inv.N5 {pins:List (Addr×Obj)}{σ:St}{H:Hp}{s:Shared}{p:Addr}{xs ys:List V}{its its':List Value}{n n':Nat}{f:Obj->Obj} (I:Inv X pins σ H s) (h:H p=some (.lst xs))
  (ho:s.heap.get? p=some { cls:=.type "list",data:=.seq its.toArray n }) (hf:f { cls:=.type "list",data:=.seq its.toArray n }={ cls:=.type "list",data:=.seq its'.toArray n' }) (r:Vals ys its') (hz:ys.length<=sizeLine) (t:Nat):
  Inv X pins σ (upd H p (.lst ys)) { s with heap:=s.heap.update p f,toks:=t }:=by
 have e:(s.heap.update p f).get? p=some { cls:=.type "list",data:=.seq its'.toArray n' }:=by
  rw[Heap.get?_update_self f ho (by rw[hf] <;> rfl),hf]
 refine I.write (x:=p) (e:=p) (by rw[h];trivial) (.inl rfl) (fun b u hb q=>(Heap.get?_update_other _ _ (Ne.symm hb)).trans q) ⟨_,e⟩ ?_
 exact⟨hz,its',n',r,e⟩
noncomputable def PZ:V->V->V->Hp->(Hp->Prop)->Prop:=fun o i v H Q=>∃ p xs k j,o=.ref p/\i=.int k/\H p=some (.lst xs)/\Ko xs.length k=some j/\Q (upd H p (.lst (xs.set j v)))
theorem vf:S5 X PZ:=by
 intro pins s σ H o i v ov iv u Q I ro ri rv h
 obtain⟨p,xs,k,j,rfl,rfl,hp,hj,q⟩:=h
 cases ro
 obtain⟨t,rfl⟩:=ri
 obtain⟨its,n,r,ho,hz⟩:=I.lst hp
 obtain⟨h1,h2,h3,h4⟩:=tw hj
 have hl:=r.length
 have hn:=lw
 have I':Inv X pins σ (upd H p (.lst (xs.set j v))) { s with heap:=s.heap.update p (Obj.mapSeq (·.setIfInBounds j u)) }:=
  I.N5 hp ho (se its n j u) (r.set rv j) (by rw[List.length_set];exact hz) s.toks
 by_cases h0:0<=k
 ·have hk:k.toNat=j:=by
   rw[seqIndex_of h0 h4]at h1
   exact Option.some.inj h1
  exact PySem.W.ki_setAt ho h0 (by omega) (by rw[yL,<- hl];exact h4) (by rw[hk];exact⟨_,I',q⟩)
 ·have hk:(k+(its.toArray.size:Int)).toNat=j:=by
   rw[seqIndex_neg (by omega) h3]at h1
   rw[yL,<- hl]
   exact Option.some.inj h1
  exact PySem.W.ki_setBack ho (by omega) (by rw[yL,<- hl];exact h3) (by omega) (by rw[hk];exact⟨_,I',q⟩)
theorem nJ (lo hi:Option Int)(n:Nat):(sliceBounds lo hi none n).1=((HT.Hq n 0 lo:Nat):Int)/\(sliceBounds lo hi none n).2.1=((HT.Hq n n hi:Nat):Int)/\(sliceBounds lo hi none n).2.2=1:=by
 refine⟨?_,?_,rfl⟩
 ·cases lo with
  | none=>simp[sliceBounds,HT.Hq]
  | some i=>
   simp only[sliceBounds,HT.Hq,Option.getD_none,show (1:Int) > 0 by decide,B0]
   by_cases h:i<0
   ·simp only[h,B0] <;> omega
   ·simp only[h,Aq] <;> omega
 ·cases hi with
  | none=>simp[sliceBounds,HT.Hq]
  | some i=>
   simp only[sliceBounds,HT.Hq,Option.getD_none,show (1:Int) > 0 by decide,B0]
   by_cases h:i<0
   ·simp only[h,B0] <;> omega
   ·simp only[h,Aq] <;> omega
theorem lY (its:List Value)(lo hi:Option Int):slicePick its.toArray lo hi none=((its.drop (HT.Hq its.length 0 lo)).take (HT.Hq its.length its.length hi - HT.Hq its.length 0 lo)).toArray:=by
 obtain⟨h1,h2,h3⟩:=nJ lo hi its.toArray.size
 unfold slicePick
 rw[h1,h2,h3]
 simp only[sliceRange_one,pick_run,yL] <;> rfl
noncomputable def Uv (K:PySem.W.Frag):V->Option Int->Option Int->Hp->VK->Prop:=fun x lo hi H Q=>∃ a xs,x=.ref a/\B' K H a xs/\∀ p,H p=none->Q (.ref p) (upd H p (.lst (j6 xs lo hi)))
theorem KC:Pe X (Uv X.K):=by
 intro pins s σ H x v vl vu lo hi sl Q I rx hs pl pu h
 obtain⟨a,xs,rfl,hx,q⟩:=h
 cases rx
 obtain⟨its,r,ht,hz⟩:=I.list hx
 have hlen:=r.length
 refine⟨"list",_,slot_list_getitem.lookup,ht.isList.typeIs,?_⟩
 refine wpAny_getItem_list_slice ht.isList hs pl pu .none (by simp) ?_ (by rw[yL] <;> omega)
 rw[lY,<- hlen]
 refine⟨.ref s.heap.objs.size,_,I.laid (t':=s.toks) (o:=.lst (j6 xs lo hi)) (fun b ob q=>yd _ q) (yh _) ?_,rfl,q _ (I.BR.fresh (yh _))⟩
 exact⟨yV (qJ xs lo hi) hz,_,0,(r.drop (HT.Hq xs.length 0 lo)).take (HT.Hq xs.length xs.length hi - HT.Hq xs.length 0 lo),yC _ rfl⟩
noncomputable def ff:V->Bool
 | .non=>true
 | .bl _=>true
 | .int _=>true
 | .str _=>true
 | _=>false
noncomputable def IX:V->V->Bool
 | .non,.non=>true
 | .bl a,.bl b=>a==b
 | .bl a,.int b=>(if a then 1 else 0)==b
 | .int a,.bl b=>a==(if b then 1 else 0)
 | .int a,.int b=>a==b
 | .str a,.str b=>a==b
 | _,_=>false
theorem wt {A:Around}{s:Shared}{y x:V}{u v:Value} (ry:RelV y u) (rx:RelV x v) (fy:ff y=true) (fx:ff x=true):SeqAt.EqAt A s u v (IX y x):=by
 cases y with
 | non=>
  cases ry
  cases x with
  | non=>cases rx;exact SeqAt.EqAt.same _
  | bl b=>cases rx;exact SeqAt.EqAt.none_bool b
  | int b=>obtain⟨t,rfl⟩:=rx;exact SeqAt.EqAt.none_int b t
  | str b=>obtain⟨t,rfl⟩:=rx;exact SeqAt.EqAt.none_str b t
  | _=>exact absurd (show false=true from fx) yQ
 | bl a=>
  cases ry
  cases x with
  | non=>cases rx;exact SeqAt.EqAt.bool_none a
  | bl b=>cases rx;exact SeqAt.EqAt.bool_bool a b
  | int b=>obtain⟨t,rfl⟩:=rx;exact SeqAt.EqAt.bool_int a b t
  | str b=>obtain⟨t,rfl⟩:=rx;exact SeqAt.EqAt.bool_str a b t
  | _=>exact absurd (show false=true from fx) yQ
 | int a=>
  obtain⟨t',rfl⟩:=ry
  cases x with
  | non=>cases rx;exact SeqAt.EqAt.int_none a t'
  | bl b=>cases rx;exact SeqAt.EqAt.int_bool a t' b
  | int b=>obtain⟨t,rfl⟩:=rx;exact SeqAt.EqAt.int_int a t' b t
  | str b=>obtain⟨t,rfl⟩:=rx;exact SeqAt.EqAt.int_str a t' b t
  | _=>exact absurd (show false=true from fx) yQ
 | str a=>
  obtain⟨t',rfl⟩:=ry
  cases x with
  | non=>cases rx;exact SeqAt.EqAt.str_none a t'
  | bl b=>cases rx;exact SeqAt.EqAt.str_bool a t' b
  | int b=>obtain⟨t,rfl⟩:=rx;exact SeqAt.EqAt.str_int a t' b t
  | str b=>obtain⟨t,rfl⟩:=rx;exact SeqAt.EqAt.str_str a t' b t
  | _=>exact absurd (show false=true from fx) yQ
 | _=>exact absurd (show false=true from fy) yQ
noncomputable def Ie (x:V)(u:Value):Bool:=match u with
 | .none=>IX .non x
 | .bool b=>IX (.bl b) x
 | .int i _=>IX (.int i) x
 | .str z _=>IX (.str z) x
 | _=>false
theorem wo {x y:V}{u:Value} (r:RelV y u) (f:ff y=true):Ie x u=IX y x:=by
 cases y with
 | non=>cases r;rfl
 | bl b=>cases r;rfl
 | int i=>obtain⟨t,rfl⟩:=r;rfl
 | str z=>obtain⟨t,rfl⟩:=r;rfl
 | _=>exact absurd (show false=true from f) yQ
theorem iw {x:V}:∀ {xs:List V}{us:List Value},Vals xs us->xs.all ff=true->us.any (Ie x)=xs.any fun y=>IX y x
 | _,_,.nil,_=>rfl
 | y::xs,u::us,.cons r t,f=>by
  rw[List.all_cons,zg]at f
  rw[AE,AE,wo r f.1,iw t f.2]
theorem fP {A:Around}{s:Shared}{x:V}{v:Value} (rx:RelV x v) (fx:ff x=true):∀ {xs:List V}{us:List Value},Vals xs us->xs.all ff=true->∀ u∈us,SeqAt.EqAt A s u v (Ie x u)
 | _,_,.nil,_=>fun u hu=>by cases hu
 | y::xs,u::us,.cons r t,f=>fun u' hu=>by
  rw[List.all_cons,zg]at f
  rcases yx.mp hu with rfl|hu
  ·rw[wo r f.1];exact wt r rx f.1 fx
  ·exact fP rx fx t f.2 u' hu
noncomputable def Jl (x:V)(xs:List V):Bool:=xs.any fun y=>IX y x
noncomputable def SA (K:PySem.W.Frag)(neg:Bool):R2:=fun x y H Q=>∃ p xs,y=.ref p/\(B' K H p xs\/CT K H p xs)/\ff x=true/\xs.all ff=true/\Q (.bl (if neg then !Jl x xs else Jl x xs)) H
theorem uw:Dq X (compareOp .In) (SA X.K false):=by
 intro pins s σ H x y v u Q I rx ry h
 obtain⟨p,xs,rfl,hq,fx,fs,q⟩:=h
 cases ry
 rcases hq with hq|hq
 ·obtain⟨its,r,pl,hz⟩:=I.list hq
  refine SeqAt.in_listAt (Ie x) pl.isList (fun w hw=>fP rx fx r fs w (by simpa using hw)) ⟨.bl _,H,I,rfl,?_⟩
  rw[show its.toArray.any (Ie x)=its.any (Ie x) by simp,iw r fs]
  exact q
 ·obtain⟨its,r,pl,hz⟩:=I.tuple hq
  refine SeqAt.in_tupleAt (Ie x) pl (fun w hw=>fP rx fx r fs w (by simpa using hw)) ⟨.bl _,H,I,rfl,?_⟩
  rw[show its.toArray.any (Ie x)=its.any (Ie x) by simp,iw r fs]
  exact q
theorem nZ:Dq X (compareOp .NotIn) (SA X.K true):=by
 intro pins s σ H x y v u Q I rx ry h
 obtain⟨p,xs,rfl,hq,fx,fs,q⟩:=h
 cases ry
 rcases hq with hq|hq
 ·obtain⟨its,r,pl,hz⟩:=I.list hq
  refine SeqAt.notIn_listAt (Ie x) pl.isList (fun w hw=>fP rx fx r fs w (by simpa using hw)) ⟨.bl _,H,I,rfl,?_⟩
  rw[show its.toArray.any (Ie x)=its.any (Ie x) by simp,iw r fs]
  exact q
 ·obtain⟨its,r,pl,hz⟩:=I.tuple hq
  refine SeqAt.notIn_tupleAt (Ie x) pl (fun w hw=>fP rx fx r fs w (by simpa using hw)) ⟨.bl _,H,I,rfl,?_⟩
  rw[show its.toArray.any (Ie x)=its.any (Ie x) by simp,iw r fs]
  exact q
theorem oM:CM X (.builtin "len") (fun xs H Q=>∃ p ys,xs=[.ref p]/\(B' X.K H p ys\/CT X.K H p ys)/\Q (.int ys.length) H):=by
 intro pins s σ H xs us Q I r h
 obtain⟨p,ys,rfl,hq,q⟩:=h
 obtain⟨u,rfl,rx⟩:=dP r
 cases rx
 have hn:=lw
 rcases hq with hq|hq
 ·obtain⟨its,r',pl,hz⟩:=I.list hq
  have hlen:=r'.length
  exact Calls.call_len_list pl.isList (by simp only[yL] <;> omega) ⟨.int ys.length,H,I.tok _,⟨s.toks+1,by rw[yL,hlen]⟩,q⟩
 ·obtain⟨its,r',pl,hz⟩:=I.tuple hq
  have hlen:=r'.length
  exact len_tuple pl (by simp only[yL] <;> omega) ⟨.int ys.length,H,I.tok _,⟨s.toks+1,by rw[yL,hlen]⟩,q⟩
theorem oK:CM X (.builtin "len") (fun xs H Q=>∃ z,xs=[.str z]/\z.length<=sizeLine/\Q (.int z.length) H):=by
 intro pins s σ H xs us Q I r h
 obtain⟨z,rfl,hz,q⟩:=h
 obtain⟨u,rfl,t,rfl⟩:=dP r
 have hn:=lw
 exact len_str (by omega) ⟨.int z.length,H,I.tok _,⟨_,rfl⟩,q⟩
theorem oI:CM X (.type "list") (fun xs H Q=>∃ p ys,xs=[.ref p]/\(B' X.K H p ys\/CT X.K H p ys)/\∀ l,H l=none->Q (.ref l) (upd H l (.lst ys))):=by
 intro pins s σ H xs us Q I r h
 obtain⟨p,ys,rfl,hq,q⟩:=h
 obtain⟨u,rfl,rx⟩:=dP r
 cases rx
 have fin:∀ (its:List Value),Vals ys its->ys.length<=sizeLine->∀ (h':Heap)(c':Nat),(∀ b o',s.heap.get? b=some o'->h'.get? b=some o')->
   h'.get? s.heap.objs.size=some { cls:=.type "list",dict:=none,data:=.seq its.toArray c',slots:=#[] }->EP X pins σ Q (.ref s.heap.objs.size) { s with heap:=h' }:=fun its r' hz h' c' kp e=>
  ⟨.ref s.heap.objs.size,_,I.laid (t':=s.toks) kp (yh _) (show BN X.prog X.w _ h' _ (.lst ys) from ⟨hz,its,c',r',e⟩),rfl,q _ (I.BR.fresh (yh _))⟩
 rcases hq with hq|hq
 ·obtain⟨its,r',pl,hz⟩:=I.list hq
  have hlen:=r'.length
  obtain⟨o,ho,hc,n,hd⟩:=pl.isList
  exact call_list_seq p (.inl rfl) ho hc hd (fun h' c' kp e=>fin its r' hz h' c' kp e) (by simp only[yL] <;> omega)
 ·obtain⟨its,r',pl,hz⟩:=I.tuple hq
  have hlen:=r'.length
  obtain⟨o,ho,hc,n,hd⟩:=pl
  exact call_list_seq p (.inr rfl) ho hc hd (fun h' c' kp e=>fin its r' hz h' c' kp e) (by simp only[yL] <;> omega)
noncomputable def U5 (K:PySem.W.Frag)(T:String)(x:V)(H:Hp):Prop:=match x with
 | .str _=>T="str"
 | .int _=>T="int"
 | .ref p=>(T="list"/\∃ xs,B' K H p xs)\/(T="tuple"/\∃ o,K.lookup p=some o/\o.cls=.type "tuple"/\o.dict=none) \/
   (T="dict"/\((∃ kvs,H p=some (.dK kvs))\/∃ kvs,H p=some (.dT kvs)))\/(T="set"/\∃ S n,H p=some (.set S n))
 | _=>False
theorem v6 {pins:List (Addr×Obj)}{σ:St}{H:Hp}{s:Shared}{T:String}{x:V}{v:Value} (I:Inv X pins σ H s) (r:RelV x v) (ty:U5 X.K T x H):
  s.TypeIs v T/\∀ a,v=.ref a->∃ ob,s.heap.get? a=some ob/\ob.dict=none:=by
 cases x with
 | str z=>
  obtain⟨t,rfl⟩:=r
  cases (show T="str" from ty)
  exact⟨typeIs_str s z t,fun _ e=>nomatch e⟩
 | int i=>
  obtain⟨t,rfl⟩:=r
  cases (show T="int" from ty)
  exact⟨typeIs_int s i t,fun _ e=>nomatch e⟩
 | ref p=>
  cases r
  rcases ty with⟨rfl,xs,hq⟩|⟨rfl,o,hk,hc,hd⟩|⟨rfl,hk⟩|⟨rfl,S,n,hk⟩
  ·obtain⟨its,_,pl,_⟩:=I.list hq
   refine⟨pl.isList.typeIs,fun a e=>?_⟩
   cases e
   obtain⟨o,n,e,c,hd,_⟩:=pl
   exact⟨o,e,hd⟩
  ·refine⟨⟨o,I.ET p o hk,hc⟩,fun a e=>?_⟩
   cases e
   exact⟨o,I.ET _ o hk,hd⟩
  ·have z:∃ o,s.heap.get? p=some o/\o.ExactDict:=by
    rcases hk with⟨kvs,hk⟩|⟨kvs,hk⟩
    ·obtain⟨_,_,_,_,o,_,_,e,ex,_⟩:=I.BR p _ hk
     exact⟨o,e,ex⟩
    ·obtain⟨_,_,_,_,o,_,_,e,ex,_⟩:=I.BR p _ hk
     exact⟨o,e,ex⟩
   obtain⟨o,e,ex⟩:=z
   refine⟨⟨o,e,ex.1⟩,fun a e2=>?_⟩
   cases e2
   exact⟨o,e,ex.2.1⟩
  ·obtain⟨o,_,_,_,e,ex,_⟩:=I.BR p _ hk
   refine⟨⟨o,e,ex.1⟩,fun a e2=>?_⟩
   cases e2
   exact⟨o,e,ex.2.1⟩
 | _=>exact False.elim ty
noncomputable def PL (K:PySem.W.Frag)(T:String)(r:V->List V->Hp->VK->Prop)(to:TE):TE:=fun σ H Q=>to σ H fun x H1=>U5 K T x H1/\r x [] H1 Q
noncomputable def Uk (K:PySem.W.Frag)(T:String)(r:V->List V->Hp->VK->Prop)(to:TE)(t:TA):TE:=fun σ H Q=>to σ H fun x H1=>U5 K T x H1/\t σ H1 fun xs H2=>r x xs H2 Q
variable {o e : Expr}{es : List Expr}{to : TE}{t : TA}{name : Str}{apos D8 : Pos}{T id : String}{r : V -> List V -> Hp -> VK -> Prop}
theorem MI (pa:PlainAttrs T)(slot:Slot T name id)(KL:typeOf (.builtin id)=pure (.type "method_descriptor"))(hm:TZ X id r)(ho:PE X o to)
  (E6:attributeBase o name X.env (eval o X.env)=eval o X.env:=by rfl) (E4:(apos.endLine==D8.line)=true:=by rfl):PE X (.Call (.Attribute o name apos) [] [] D8) (PL X.K T r to):=by
 intro pins s σ H Q I h
 refine wpAny_Call_method0_late E6 E4 (Ca (ho pins s σ H _ I h) fun v s1 j'=>?_)
 obtain⟨x,H1,I1,r1,ty,q1⟩:=j'
 obtain⟨h1,h2⟩:=v6 I1 r1 ty
 exact⟨T,id,pa,slot,KL,h1,h2,Bc rfl (PySem.evalArgs_none (hm pins s1 σ H1 x [] v [] Q I1 r1 .nil q1))⟩
theorem Q8 (pa:PlainAttrs T)(slot:Slot T name id)(KL:typeOf (.builtin id)=pure (.type "method_descriptor"))(hm:TZ X id r)(ho:PE X o to)(ha:PA X (e::es) t)
  (E6:attributeBase o name X.env (eval o X.env)=eval o X.env:=by rfl)
  (NI:((backTo D8 (starEach (e::es) X.env)).all (fun x=>!x.1)&&(backToKw D8 (keywordEach [] X.env)).all (fun x=>x.1.isSome)
   && decide ((e::es).length+([]:List Keyword).length+(if ([]:List Keyword).isEmpty then 0 else 1)<30))=true:=by rfl)
  (E4:(apos.endLine==D8.line)=true:=by rfl) (hs:starEach (e::es) X.env=(false,eval e X.env)::starEach es X.env:=by rfl) (FD:(backTo D8 (starEach es X.env)).any (·.1)=false:=by rfl):
  PE X (.Call (.Attribute o name apos) (e::es) [] D8) (Uk X.K T r to t):=by
 intro pins s σ H Q I h
 refine wpAny_Call_method_late E6 NI E4 rfl (Ca (ho pins s σ H _ I h) fun v s1 j'=>?_)
 obtain⟨x,H1,I1,r1,ty,q1⟩:=j'
 obtain⟨h1,h2⟩:=v6 I1 r1 ty
 refine⟨T,id,pa,slot,KL,h1,h2,?_⟩
 have hA:=ha D8 pins s1 σ H1 _ I1 q1
 rw[hs]at hA ⊢
 refine Bc (by show (false || (backTo D8 (starEach es X.env)).any (·.1))=false;rw[FD] <;> rfl) (Calls.evalArgs_plain ?_)
 exact Ca hA fun us s2 j'=>by obtain⟨vs,H2,I2,r2,q2⟩:=j';exact hm pins s2 σ H2 x vs v us Q I2 r1 r2 q2
end
noncomputable def WS (X:Cx)(id:String)(r:V->List V->Hp->VK->Prop):Prop:=
 ∀ (pins:List (Addr×Obj))(s:Shared)(σ:St)(H:Hp)(x:V)(xs:List V)(v:Value)(us:List Value)(Q:VK),Inv X pins σ H s->RelV x v->Vals xs us->r x xs H Q->
  wpAny (model X.prog X.w) X.A (call (.builtin id) (v::us)) (EP X pins σ Q) X.xe s
theorem Vals.one:∀ {x:V}{us:List Value},Vals [x] us->∃ u,us=[u]/\RelV x u
 | _,_,.cons r .nil=>⟨_,rfl,r⟩
theorem Vals.zero:∀ {us:List Value},Vals [] us->us=[]
 | _,.nil=>rfl
theorem Vals.dropLast {xs:List V}{us:List Value} (h:Vals xs us):Vals xs.dropLast us.dropLast:=by
 induction h with
 | nil=>exact .nil
 | cons r t ih=>
  cases t with
  | nil=>exact .nil
  | cons q t'=>exact .cons r ih
theorem Vals.rep {xs:List V}{us:List Value} (h:Vals xs us):∀ k:Nat,Vals (List.replicate k xs).flatten (List.replicate k us).flatten
 | 0=>.nil
 | k+1=>by
  rw[zX,zX,Ba,Ba]
  exact Vals.append h (Vals.rep h k)
theorem sy {α:Type}(l:List α):l.eraseIdx (l.length - 1)=l.dropLast:=by
 induction l with
 | nil=>rfl
 | cons a r ih=>
  cases r with
  | nil=>rfl
  | cons b r=>
   have e:(a::b::r).length - 1=((b::r).length - 1)+1:=by
    have h1:(a::b::r).length=r.length+2:=rfl
    have h2:(b::r).length=r.length+1:=rfl
    omega
   rw[e,List.eraseIdx_cons_succ,ih]
   all_goals rfl
theorem n5 (its:List Value):∀ (k:Nat)(acc:List Value),
  List.foldl (fun x1 x2=>x1++x2) acc.toArray (List.replicate k its.toArray)=(acc++(List.replicate k its).flatten).toArray
 | 0,acc=>by simp
 | k+1,acc=>by
  have e:acc.toArray++its.toArray=(acc++its).toArray:=by simp
  have e2:(acc++its)++(List.replicate k its).flatten=acc++(List.replicate (k+1) its).flatten:=by
   rw[zX,Ba,An]
  rw[<- e2,<- n5 its k (acc++its),<- e,zX,List.foldl_cons]
section
variable {X : Cx}{pins : List (Addr×Obj)}{σ : St}{H : Hp}{s : Shared}{l b : Addr}{xs ys zs : List V}
theorem Inv.N7 {its its':List Value}{n:Nat}{f:Array Value->Array Value}{t':Nat} (I:Inv X pins σ H s) (hH:H l=some (.lst xs))
  (e:s.heap.get? l=some { cls:=.type "list",data:=.seq its.toArray n }) (hf:f its.toArray=its'.toArray) (hv:Vals ys its') (hz:ys.length<=sizeLine):
  Inv X pins σ (upd H l (.lst ys)) { s with heap:=s.heap.update l (Obj.mapSeq f),toks:=t' }:=by
 have q:=PySem.IsL.update e f
 rw[hf]at q
 refine I.write (x:=l) (e:=l) (by rw[hH];exact trivial) (.inl rfl) (fun b' u hb hu=>(Heap.get?_update_other s.heap (Obj.mapSeq f) (Ne.symm hb)).trans hu) ⟨_,q⟩ ?_
 exact⟨hz,its',_,hv,q⟩
theorem Inv.N8 {its:List Value}{t':Nat} (I:Inv X pins σ H s) (hv:Vals ys its) (hz:ys.length<=sizeLine):
  Inv X pins σ (upd H s.heap.objs.size (.lst ys)) { s with heap:=s.heap.push { cls:=.type "list",data:=.seq its.toArray },toks:=t' }:=
 I.laid (fun _ _ q=>yd _ q) (yh _) ⟨hz,its,0,hv,yC _ rfl⟩
theorem Inv.fresh (I:Inv X pins σ H s):H s.heap.objs.size=none:=I.BR.fresh (yh _)
theorem Inv.J9 (I:Inv X pins σ H s)(hH:H l=some (.lst xs)):xs.length<=sizeLine/\∃ (its:List Value)(n:Nat),Vals xs its/\xs.length=its.length/\s.heap.get? l=some { cls:=.type "list",data:=.seq its.toArray n }:=by
 obtain⟨z,its,n,r,e⟩:=I.BR l _ hH
 exact⟨z,its,n,r,r.length,e⟩
theorem vM {n:Nat}(h:n<=sizeLine):Builtin.List.listTooLong n=false:=by
 unfold Builtin.List.listTooLong
 exact yq (by omega)
end
section
variable {X : Cx}
noncomputable def sV:V->List V->Hp->VK->Prop:=fun x vs H Q=>∃ l xs y,x=.ref l/\vs=[y]/\H l=some (.lst xs)/\xs.length<sizeLine/\Q .non (upd H l (.lst (xs++[y])))
theorem cg:WS X "list.append" sV:=by
 intro pins s σ H x vs v us Q I rx rv h
 obtain⟨l,xs,y,rfl,rfl,hH,hz,q⟩:=h
 cases rx
 obtain⟨u,rfl,ru⟩:=rv.one
 obtain⟨z,its,n,r,hl,e⟩:=I.J9 hH
 refine call_meets F.slot_list_append ⟨_,e,rfl⟩ F.entry_list_append (F.args_list_append_2 _ _) (PySem.list_append l its.toArray n u (by rw[yL];omega)) ⟨e,?_⟩
 refine⟨.non,_,I.N7 (its':=its++[u]) hH e (by simp) (r.append (.cons ru .nil)) ?_,rfl,q⟩
 rw[yI,zL]
 omega
noncomputable def Ux:V->List V->Hp->VK->Prop:=fun x vs H Q=>∃ l xs y,x=.ref l/\vs=[]/\H l=some (.lst xs)/\xs[xs.length - 1]?=some y/\Q y (upd H l (.lst xs.dropLast))
theorem MY:WS X "list.pop" Ux:=by
 intro pins s σ H x vs v us Q I rx rv h
 obtain⟨l,xs,y,rfl,rfl,hH,hy,q⟩:=h
 cases rx
 have Vl:=rv.zero
 subst Vl
 obtain⟨z,its,n,r,hl,e⟩:=I.J9 hH
 obtain⟨u,hu,ru⟩:=r.get hy
 have QG:its.toArray[its.toArray.size - 1]?=some u:=by
  show its.toArray[its.length - 1]?=some u
  rw[<- Ai,<- hl]
  exact hu
 refine call_meets F.slot_list_pop ⟨_,e,rfl⟩ F.entry_list_pop (F.args_list_pop_1 _) (MeetsSeq.list_pop_last l its.toArray n u QG (by rw[yL];omega)) ⟨e,?_⟩
 refine⟨y,_,I.N7 (its':=its.dropLast) hH e ?_ r.dropLast ?_,ru,q⟩
 ·show its.toArray.eraseIdxIfInBounds (its.toArray.size - 1)=its.dropLast.toArray
  rw[yL,List.eraseIdxIfInBounds_toArray,sy]
 ·rw[List.length_dropLast]
  omega
noncomputable def Mr:V->List V->Hp->VK->Prop:=fun x vs H Q=>∃ l xs,x=.ref l/\vs=[]/\H l=some (.lst xs)/\Q .non (upd H l (.lst []))
theorem vR:WS X "list.clear" Mr:=by
 intro pins s σ H x vs v us Q I rx rv h
 obtain⟨l,xs,rfl,rfl,hH,q⟩:=h
 cases rx
 have Vl:=rv.zero
 subst Vl
 obtain⟨z,its,n,r,hl,e⟩:=I.J9 hH
 refine call_meets F.slot_list_clear ⟨_,e,rfl⟩ F.entry_list_clear (F.args_list_clear_1 _) (AutoSeq1.list_clear_list_0 l its.toArray n (by rw[yL];omega)) ⟨e,?_⟩
 exact⟨.non,_,I.N7 (its':=[]) (ys:=[]) hH e rfl .nil (yR _),rfl,q⟩
noncomputable def Uy:R2:=fun x y H Q=>∃ l b xs zs,x=.ref l/\y=.ref b/\H l=some (.lst xs)/\H b=some (.lst zs)/\xs.length+zs.length<=sizeLine/\∀ p,H p=none->Q (.ref p) (upd H p (.lst (xs++zs)))
theorem MN:Dq X (binaryOp .Add) Uy:=by
 intro pins s σ H x y v u Q I rx ry h
 obtain⟨l,b,xs,zs,rfl,rfl,hH,hB,hz,q⟩:=h
 cases rx
 cases ry
 obtain⟨z,its,n,r,hl,e⟩:=I.J9 hH
 obtain⟨z2,CC,n2,r2,DP,e2⟩:=I.J9 hB
 refine PySem.P.add_list e e2 ?_ (by rw[yL,yL];omega)
 have ea:its.toArray++CC.toArray=(its++CC).toArray:=by simp
 rw[ea]
 exact⟨.ref _,_,I.N8 (t':=s.toks) (r.append r2) (by rw[yI];omega),rfl,q _ I.fresh⟩
noncomputable def Uw:R2:=fun x y H Q=>∃ l k xs,x=.ref l/\y=.int k/\H l=some (.lst xs)/\-(2 ^ 63)<=k/\k<2 ^ 63/\xs.length * k.toNat<=sizeLine/\
 ∀ p,H p=none->Q (.ref p) (upd H p (.lst (List.replicate k.toNat xs).flatten))
theorem xG {α:Type}(xs:List α)(k:Nat):(List.replicate k xs).flatten.length=k * xs.length:=by
 induction k with
 | zero=>simp
 | succ k ih=>rw[zX,Ba,yI,ih,Nat.succ_mul,Nat.add_comm]
theorem rL:Dq X (binaryOp .Mult) Uw:=by
 intro pins s σ H x y v u Q I rx ry h
 obtain⟨l,k,xs,rfl,rfl,hH,h1,h2,hz,q⟩:=h
 cases rx
 obtain⟨t,rfl⟩:=ry
 obtain⟨z,its,n,r,hl,e⟩:=I.J9 hH
 have hlen:its.toArray.size * k.toNat<=sizeLine:=by rw[yL,<- hl];exact hz
 have W5:¬ its.toArray.size * k.toNat > (2 ^ 63 - 1) / 8:=by
  have:(sizeLine:Nat)<=(2 ^ 63 - 1) / 8:=by decide
  omega
 have JX:¬ (!Builtin.List.listFitsIndex k)=true:=by
  rw[fitsIndex_both h1 h2]
  exact yQ
 have Rb:¬ Builtin.List.listTooLong (its.toArray.size * k.toNat)=true:=by
  rw[vM hlen]
  exact yQ
 have GH:List.foldl (fun x1 x2=>x1++x2) #[] (List.replicate (if its.toArray.isEmpty=true then 0 else k.toNat) its.toArray)=(List.replicate k.toNat its).flatten.toArray:=by
  have f0:∀ m:Nat,List.foldl (fun x1 x2=>x1++x2) #[] (List.replicate m its.toArray)=(List.replicate m its).flatten.toArray:=fun m=>by
   have:=n5 its m []
   rw[zc]at this
   exact this
  rw[f0]
  cases its with
  | nil=>simp
  | cons a r'=>rw[if_neg (by simp)]
 refine wpAny_binaryOp_repeat_ref (T:="list") (U:="int") (by decide) ⟨_,e,rfl⟩ (fun s'=>typeIs_int s' k t) noFill_list_mul F.fills_int_mul F.slot_int_rmul repeat_list F.slot_int_index.lookup
  (call_meets F.slot_int_rmul (typeIs_int s k t) F.entry_int_rmul (F.args_int_rmul_2 _ _) (int___rmul___int_list k t l its.toArray n)
   ⟨e,rfl,⟨_,e,rfl⟩,call_meets F.slot_list_mul ⟨_,e,rfl⟩ F.entry_list_mul (F.args_list_mul_2 _ _) (AutoListH.list___mul___list_int_3 l its.toArray n k t JX W5 Rb) ⟨e,?_⟩⟩)
 rw[GH]
 exact⟨.ref _,_,I.N8 (t':=s.toks) (r.rep k.toNat) (by rw[xG,Nat.mul_comm];exact hz),rfl,q _ I.fresh⟩
end
end L2
namespace Att
open PySem PySem.W PySem.Calls PyProof.Rows
theorem jL {P:Params}{h:Heap}:∀ (ns:List Int)(vs:List Value),WellAll P h vs (ns.map WData.int)->IntsAre vs ns:=by
 intro ns
 induction ns with
 | nil=>
  intro vs w
  rw[zZ]at w
  cases w
  exact .nil
 | cons n ns ih=>
  intro vs w
  rw[yJ]at w
  cases w with
  | cons a b=>
   cases a
   exact .cons _ _ (ih _ b)
theorem u9 {l:OpenLaw}{n:Nat} (hn:l.most=some n) {P:Params}{h:Heap}{args:List WData}{vals:List Value}
  (KN:l.row.toRowW.claim.pre args=true) (LG:WellAll P h vals args):
  ∃ a vs ns,vals=[Value.ref a]/\args=[WData.list (ns.map WData.int)]/\h.get? a=some { cls:=.type "list",data:=.seq vs.toArray }/\IntsAre vs ns/\ns.length<=n:=by
 have hsh:WShape.hasAll [] args [.list .int]=true:=(pre_splitW KN).1
 have hc:l.pre.holds [] { args:=args }=true:=(pre_splitW KN).2
 obtain⟨d,r,rfl,h1,h2⟩:=hasAllW_cons hsh
 obtain rfl:=hasAllW_nil h2
 obtain⟨xs,rfl,h3⟩:=hasW_list h1
 obtain⟨ns,rfl⟩:=items_int h3
 have hlen:ns.length<=n:=by
  unfold OpenLaw.pre at hc
  have h4:(WTm.not (.lt (.lit (.int (n:Int))) (.len (.arg 0)))).holds [] { args:=[.list (ns.map .int)] }=true:=by
   have h4:=(holds_andW hc).1
   rw[hn]at h4
   exact h4
  have h5:=condW_of h4 (w_not (w_lt w_lit (w_len_list (w_arg rfl))))
  rw[y6]at h5
  refine Nat.le_of_not_lt fun q=>?_
  have q':(n:Int)<((ns.length:Nat):Int):=by omega
  first
   | (rw[yo q']at h5;exact absurd h5 (by decide))
   | (simp at h5;omega)
 cases LG with
 | cons w1 w2=>
  cases w2
  cases w1 with
  | list ho HH=>exact⟨_,_,ns,rfl,rfl,ho,jL ns _ HH,hlen⟩
theorem um (l:OpenLaw)(args:List WData):l.row.toRowW.claim.post args (.bool true) args=true:=
 postW_of (r:=l.row.toRowW) (X:=(true==true))
  (show WShape.has [] (.bool true) .bool=true by first|rfl|decide|simp[WShape.has,WShape.arms,WShape.armsAll])
  (show (WTm.eq .res (.lit (.bool true))).value [] { args:=args,res:=some (.bool true),after:=args }=some (.bool (true==true)) from w_eq_bool (w_res rfl) w_lit) rfl
theorem HK {l:OpenLaw}{n:Nat}{q:Program}{loose:List Str}{XP:(Str->Option Value)->Heap->Prop}{YP:World->Heap->Prop}{d:DefRec}
  (hn:l.most=some n) (Rp:d.params.defaults=[])
  (call:∀ (w:World)(s₀ s₁:Shared)(mg mb:Str->Option Value)(fa:Addr)(o:Obj)(pm cd doc:Value)(a:Addr)(vs:List Value)(ns:List Int),
   Ground q loose [] XP w s₀ mg mb s₁.heap->YP w s₁.heap->
   s₁.heap.get? fa=some o->o.data=.func (docDef d.name d.params d.body d.scope pm cd doc)->s₁.heap.CodeRec cd d.name->mg d.name=some (.ref fa)->
   s₁.heap.get? a=some { cls:=.type "list",data:=.seq vs.toArray }->IntsAre vs ns->ns.length<=n->s₁.gens=#[]->
   codeAny (model l.prog w) callerA (.call (.ref fa) ⟨[.ref a],[]⟩) (fun r s'=>r=.ok (.ret (.bool true))/\OldK s₁.heap s'.heap/\s'.os=s₁.os/\AllBare s'.gens) s₁):
  WalkO q loose XP YP l.row.toRowW d [] (fun f vs=>PySem.call f vs):=by
 intro w s₀ s₁ mg mb G Y fa o pm cd doc dV kV ho hd G8 hD hmg hg args vals as KN a1f hrd LG Kq
 obtain rfl:dV=.none:=Dflts.none hD Rp
 obtain rfl:kV=.none:=Dflts.noKw hD
 obtain⟨a,vs,ns,rfl,rfl,Nv,hints,hlen⟩:=u9 hn KN LG
 refine enter_call (codeAny_mono (call w s₀ s₁ mg mb fa o pm cd doc a vs ns G Y ho (fd_plain hd) G8 hmg Nv hints hlen hg) fun r s' hq=>?_)
 obtain⟨rfl,h2,h3,h4⟩:=hq
 exact⟨.inl ⟨.bool true,.bool true,[],rfl,fun _=>rfl,.bool true,um l _,fun _=>⟨List.Pairwise.nil,fun _ hm=>(nomatch hm)⟩⟩,h2,h3,h4⟩
end Att
namespace L2
open PySem PySem.Spec PyProof.Rows
theorem iB:∀ {vs:List Value}{ns:List Int},IntsAre vs ns->Vals (ns.map V.int) vs
 | _,_,.nil=>.nil
 | _,_,.cons n t h=>.cons ⟨t,rfl⟩ (iB h)
noncomputable def aQ (s:Stmt)(j:Nat):Stmt:=match s with
 | .ClassDef _ _ _ body _ _ _ _ _ _ _=>body.getD j (.Pass ⟨0,0,0,0⟩)
 | _=>.Pass ⟨0,0,0,0⟩
noncomputable def bf (s:Stmt):Arguments:=match s with
 | .FunctionDef _ a _ _ _ _ _ _ _ _=>a
 | _=>{ posonlyargs:=[],args:=[],vararg:=none,kwonlyargs:=[],kw_defaults:=[],kwarg:=none,defaults:=[] }
noncomputable def aR (s:Stmt):List Stmt:=match s with
 | .FunctionDef _ _ b _ _ _ _ _ _ _=>b
 | _=>[]
noncomputable def af (s:Stmt):Scope:=match s with
 | .FunctionDef _ _ _ _ _ _ sc _ _ _=>sc
 | _=>{ kind:=.function,names:=[],isGenerator:=false,isCoroutine:=false }
noncomputable abbrev Co:Kk:=fun _ _ _ _ _ _=>False
noncomputable abbrev E0:XK:=fun _ _ _=>False
theorem jk {X:Cx}:fY Co X E0:=fun _ _ _ _ _ _ _ h=>h.elim
structure Cu (K : PySem.W.Frag) (x qual : Str) (st : Stmt) (f : Addr) (fd : FuncData) : Prop where
  ex : ∃ (oc : Value) (od : Option Addr) (kV doc pm : Value) (an : Option Addr) (BJ ct : Value) (DS : Array (Option Value)),
    fd = PySem.W.fnOf x qual (bf st) (aR st) (af st) .none kV doc pm an BJ ct /\ K.lookup f = some ⟨oc, od, .func fd, DS⟩ /\ PySem.W.codeIn K BJ qual = true
  kp : PySem.W.keepIn K (.ref f) = true
section
variable {P : Program}{w : World}{K : PySem.W.Frag}{mg : Str -> Option Value}{base : Heap}
theorem Cu.ok {x qual:Str}{st:Stmt}{f:Addr}{fd:FuncData}{N ps:List Str}{k:Nat}{sp:Sp} (F:Cu K x qual st f fd) (S:ai N ps (af st)) (len:∀ vs H Q E,sp vs H Q E->vs.length=ps.length)
  (E5:∀ (BJ:Value)(A:Around)(outer:List Env)(s:Shared)(H:Hp)(vs:List V)(Q:VK)(E:XK),Ck k (A.deeper (envOfC qual (af st) s.heap.objs.size f BJ))->sp vs H Q E->
   ∃ t,GA (lK Co P w K mg base N qual (af st) f BJ A outer s H E).JJ (aR st) t/\t { nx:=fun _ H'=>Q .non H',rt:=Q } (start N vs) H):BF P w K mg base Co (k+1) f fd ps sp:=by
 obtain⟨oc,od,kV,doc,pm,an,BJ,ct,DS,rfl,lk,G8⟩:=F.ex
 refine wj lk G8 S len fun A outer s H vs Q E hr Jm=>?_
 obtain⟨t,h,q⟩:=E5 BJ A outer s H vs Q E hr Jm
 exact⟨t,h.JJ,q⟩
theorem Cu.binds {x qual:Str}{st:Stmt}{f:Addr}{fd:FuncData}{ps:List Str} (F:Cu K x qual st f fd)
  (h:∀ (kV doc pm:Value)(an:Option Addr)(BJ ct:Value)(us:List Value),us.length=ps.length->bindArgs (PySem.W.fnOf x qual (bf st) (aR st) (af st) .none kV doc pm an BJ ct) ⟨us,[]⟩=pure (ps.zip us)):Binds K fd ps []:=by
 obtain⟨oc,od,kV,doc,pm,an,BJ,ct,DS,rfl,lk,G8⟩:=F.ex
 exact .all (h kV doc pm an BJ ct)
theorem oz {x qual:Str}{st:Stmt}{f:Addr}{oc:Value}{od an:Option Addr}{DS:Array (Option Value)}{kV doc pm BJ ct:Value} (l:K.lookup f=some ⟨oc,od,.func (PySem.W.fnOf x qual (bf st) (aR st) (af st) .none kV doc pm an BJ ct),DS⟩)
  (c:PySem.W.codeIn K BJ qual=true) (k:PySem.W.keepIn K (.ref f)=true):Cu K x qual st f (PySem.W.fnOf x qual (bf st) (aR st) (af st) .none kV doc pm an BJ ct):=⟨⟨oc,od,kV,doc,pm,an,BJ,ct,DS,rfl,l,c⟩,k⟩
end
theorem bc {A:Around}{k:Nat} (hr:Ck k A):A.units+1<cLine:=yP (Nat.add_le_add_left (by decide:1<=64) _) hr.units
theorem d7 {n:Nat}(h:n<=1000):n<sizeLine:=yP h (by decide)
section
variable {X : Cx}
theorem pv (i:Nat){x:Str}{pos:Pos} (hN:X.N[i]?=some x:=by rfl) (hv:Pd X.env.scope x:=by first|exact Or.inl rfl|exact Or.inr (Or.inl rfl)|exact Or.inr (Or.inr rfl)) (hd:(x==("__debug__":Str))=false:=by decide)
  (G8:(x==("__classdict__":Str))=false:=by decide):PE X (.Name x pos) (gq i):=MD hN hv hd G8
end
theorem ba {A B:Prop}(h:B):if false=true then A else B:=by
 rw[if_neg yQ]
 exact h
theorem cw {A B:Prop}(h:A):if true=true then A else B:=by
 rw[if_pos rfl]
 exact h
theorem bH {c A B:Prop}[Decidable c](h1:c->A)(h2:¬ c->B):if c then A else B:=by
 by_cases h:c
 ·rw[if_pos h]
  exact h1 h
 ·rw[if_neg h]
  exact h2 h
theorem jt {c A B:Prop}[Decidable c](hc:c)(h:B):if (!decide c)=true then A else B:=by
 rw[yo hc]
 exact ba h
noncomputable def f' (H H':Hp):Prop:=∀ b o,H b=some o->H' b=some o
theorem f'.refl (H:Hp):f' H H:=fun _ _ h=>h
theorem f'.trans {H H1 H2:Hp}(a:f' H H1)(b:f' H1 H2):f' H H2:=fun c o h=>b c o (a c o h)
theorem f'.free {H H':Hp}(e:f' H H'){l:Addr}(h:H' l=Option.none):H l=Option.none:=by
 cases q:H l with
 | none=>rfl
 | some o=>
  rw[e l o q]at h
  cases h
theorem f'.seq {K:PySem.W.Frag}{H H':Hp}{a:Addr}{xs:List V} (e:f' H H') (h:B' K H a xs):B' K H' a xs:=by
 rcases h with (h|⟨o,h⟩)|h
 ·exact .inl (.inl (e _ _ h))
 ·exact .inl (.inr ⟨o,e _ _ h⟩)
 ·exact .inr h
noncomputable def Oz (K:PySem.W.Frag)(a b:Addr):It:=
 ⟨fun i H=>∃ xs ys x y,B' K H a xs/\B' K H b ys/\xs[i]?=some x/\ys[i]?=some y,
  fun i H v H'=>∃ T,H T=none/\v=.ref T/\∃ x y,(∀ xs,B' K H a xs->xs[i]?=some x)/\(∀ ys,B' K H b ys->ys[i]?=some y)/\H'=upd H T (.tup [x,y]),
  fun i H=>∃ xs ys,B' K H a xs/\B' K H b ys/\(xs.length<=i\/ys.length<=i)⟩
theorem Inv.DE {X:Cx}{pins:List (Addr×Obj)}{σ:St}{H:Hp}{s:Shared}{h':Heap}{t':Nat}{ch:List Addr} (I:Inv X pins σ H s) (hf:∀ b∈ch,ja X pins H b)
  (k:∀ b o,b∉ch->s.heap.get? b=some o->h'.get? b=some o):Inv X pins σ H { s with heap:=h',toks:=t' }:=by
 refine I.step (g':=s.gens) (d':=s.drawn) (ch:=ch) (fun b hb=>⟨(hf b hb).2.2.2.1,(hf b hb).2.1,(hf b hb).2.2.2.2.1,(hf b hb).2.2.2.2.2⟩) (fun b o _ _ hc e _=>k b o hc e) (fun b o _ _ hc e _=>⟨o.slots,k b o hc e⟩) (fun _ _ _ _ n=>n)
  (fun b o hc e=>⟨o,k b o hc e⟩) (fun _ _ e=>e) (fun _ _ _ e=>e) (fun b ps e=>⟨#[],by rw[e];simp⟩) (fun m hm=>?_) (fun b u e=>?_) I.bare
 ·obtain⟨o,es,ep,ho,r⟩:=hm
  exact⟨o,es,ep,k _ o (fun z=>(hf _ z).2.1 rfl) ho,r⟩
 ·refine (I.BR b u e).Fg (fun c v hc q=>k c v (fun z=>?_) q) (fun _ q=>q) fun _ _ q=>q
  have n:=(hf c z).1
  rcases hc with w|w
  ·rw[w,e]at n;cases n
  ·rw[w]at n;cases n
theorem Inv.Hc {X:Cx}{pins:List (Addr×Obj)}{σ:St}{H:Hp}{s:Shared}{T:Addr}{o:HO} (I:Inv X pins σ H s) (hf:ja X pins H T) (hs:X.s₀.heap.objs.size<=T) (new:BN X.prog X.w (upd H T o) s.heap T o):Inv X pins σ (upd H T o) s:=by
 have hn:=hf.1
 have:=I.step (h':=s.heap) (H':=upd H T o) (g':=s.gens) (d':=s.drawn) (t':=s.toks) (ch:=[T]) (fun b hb=>by
   have e:b=T:=by simpa using hb
   subst e
   exact⟨.inr hs,hf.2.1,hf.2.2.2.2.1,hf.2.2.2.2.2⟩) (fun b o _ _ _ e _=>e) (fun b o _ _ _ e _=>⟨o.slots,e⟩) (fun b o hb _ n=>by rw[ae (by simpa using hb)];exact n)
  (fun b o _ e=>⟨o,e⟩) (fun b xs e=>by rw[ae (ah e hn)];exact e) (fun b ob xs e=>by rw[ae (ah e hn)];exact e) (fun b ps e=>⟨#[],by rw[ae (ah e hn),e];simp⟩) (fun m hm=>hm)
  (fun b u e=>by
   by_cases hb:b=T
   ·subst hb;rw[a9]at e;cases e;exact new
   ·rw[ae hb]at e
    exact (I.BR b u e).Fg (fun c v _ q=>q) (fun c q=>by rw[ae (ah q hn)];exact q) fun c xs q=>by rw[ae (ah q hn)];exact q) I.bare
 exact this
theorem cA {X:Cx}{pins:List (Addr×Obj)}{σ:St}{H:Hp}{s:Shared}{a b:Addr}{xs:List V} (I:Inv X pins σ H s) (h:B' X.K H a xs) (hf:ja X pins H b):a≠b:=by
 rintro rfl
 rcases h with (h|⟨o,h⟩)|⟨o,its,n,hk,_⟩
 ·rw[hf.1]at h;cases h
 ·rw[hf.1]at h;cases h
 ·have e:=I.ok.mod.LC a o hk
  rcases hf.2.2.2.1 with z|z
  ·exact I.ok.J8 a o e z
  ·exact absurd (yG (yH e) (yV I.ok.Ke z)) (zu _)
noncomputable def Pq (z TI TO i1 i2 a b:Addr)(i:Nat)(h:Heap):Prop:=IsZip h z TI TO .none/\IsPair h TI (.ref i1) (.ref i2)/\(∃ u v,IsPair h TO u v)/\h.IsListIter i1 a i/\h.IsListIter i2 b i
structure RU (z TI TO i1 i2 : Addr) : Prop where
  TIz : TI ≠ z
  TOz : TO ≠ z
  i1z : i1 ≠ z
  i2z : i2 ≠ z
  TITO : TI ≠ TO
  TIi1 : TI ≠ i1
  TIi2 : TI ≠ i2
  TOi1 : TO ≠ i1
  TOi2 : TO ≠ i2
  i12 : i1 ≠ i2
theorem v7 {P:Program}{w:World}{K:PySem.W.Frag}{elts:List Expr}{x1:Nat}{DF:Pos} (a b z TI TO i1 i2:Addr) (D:RU z TI TO i1 i2):
  oO P w K (.Tuple elts x1 DF) (Oz K a b) [z,TI,TO,i1,i2] z (Pq z TI TO i1 i2 a b) where
 mem:=by simp
 obj:=fun i h st c hc=>by
  obtain⟨h1,h2,⟨u,v,h3⟩,⟨o4,e4,c4,d4⟩,⟨o5,e5,c5,d5⟩⟩:=st
  simp only[yx,yB,zS]at hc
  rcases hc with rfl|rfl|rfl|rfl|rfl
  ·exact⟨_,h1,fun v z=>by cases z⟩
  ·exact⟨_,h2,fun v z=>by cases z⟩
  ·exact⟨_,h3,fun v z=>by cases z⟩
  ·exact⟨_,e4,fun v z=>by rw[d4]at z;cases z⟩
  ·exact⟨_,e5,fun v z=>by rw[d5]at z;cases z⟩
 keep:=fun i h h' st k=>by
  obtain⟨h1,h2,⟨u,v,h3⟩,h4,h5⟩:=st
  exact⟨k z (by simp) _ h1,k TI (by simp) _ h2,⟨u,v,k TO (by simp) _ h3⟩,h4.at fun o e=>k i1 (by simp) o e,h5.at fun o e=>k i2 (by simp) o e⟩
 item:=by
  intro X hP hw hK hc i pins s σ H E I hf st hg
  subst hP hw hK
  obtain⟨xs,ys,x,y,hx,hy,ex,ey⟩:=hg
  obtain⟨h1,h2,⟨u,v,h3⟩,h4,h5⟩:=st
  obtain⟨its,rv,p,hz⟩:=I.list hx
  obtain⟨CC,KD,p2,EW⟩:=I.list hy
  obtain⟨w1,RG,r1⟩:=rv.get ex
  obtain⟨w2,Ws,r2⟩:=KD.get ey
  have ap:ZipApart z TI TO i1 i2 a b:=⟨D.TIz,D.TOz,D.i1z,D.i2z,D.TITO,D.TIi1,D.TIi2,D.TOi1,D.TOi2,D.i12,
   cA I hx (hf z (by simp)),cA I hx (hf TO (by simp)),cA I hx (hf i1 (by simp)),cA I hx (hf i2 (by simp)),cA I hy (hf z (by simp)),cA I hy (hf TO (by simp)),cA I hy (hf i1 (by simp)),cA I hy (hf i2 (by simp))⟩
  refine wpAny_pyNext_zip_item ap h1 h2 h3 h4 h5 p.isList p2.isList (x:=w1) (y:=w2) (by simpa using RG) (by simpa using Ws) fun h' a1 a2 a3 a4 a5 a6 a7=>?_
  refine⟨_,rfl,wpAny_letOwnedTupleGo_zip a1 fun Ic b1 sb=>?_⟩
  have hT:H s.heap.objs.size=none:=I.BR.fresh (yh _)
  have JB:∀ c∈[z,TI,TO,i1,i2],c≠s.heap.objs.size:=fun c hc e=>by
   have:∃ o,s.heap.get? c=some o:=by
    simp only[yx,yB,zS]at hc
    obtain⟨o4,e4,_⟩:=h4
    obtain⟨o5,e5,_⟩:=h5
    rcases hc with rfl|rfl|rfl|rfl|rfl
    ·exact⟨_,h1⟩
    ·exact⟨_,h2⟩
    ·exact⟨_,h3⟩
    ·exact⟨_,e4⟩
    ·exact⟨_,e5⟩
   obtain⟨o,q⟩:=this
   exact absurd (yH q) (by rw[e];exact zu _)
  have kk:∀ c o,c∉[z,TI,TO,i1,i2]->s.heap.get? c=some o->Ic.get? c=some o:=fun c o hc e=>by
   simp only[yx,yB,zS,not_or]at hc
   exact sb.extBut _ _ hc.1 (a7 c o hc.1 hc.2.2.1 hc.2.2.2.1 hc.2.2.2.2 e)
  have I1:Inv X pins σ H { s with heap:=Ic }:=I.DE (t':=s.toks) (ch:=[z,TI,TO,i1,i2]) hf kk
  have I2:Inv X pins σ (upd H s.heap.objs.size (.tup [x,y])) { s with heap:=Ic }:=by
   refine I1.Hc (I.EZ (yh _) hT) I.sz ⟨by show 2<=sizeLine;decide,[w1,w2],.cons r1 (.cons r2 .nil),?_⟩
   exact⟨_,sb.extBut _ _ (Ne.symm (JB z (by simp))) a5,rfl,_,rfl⟩
  refine⟨.ref s.heap.objs.size,_,I2,rfl,⟨_,hT,rfl,x,y,fun X3 DT=>by rw[I.Dn DT hx];exact ex,fun Zo QG=>by rw[I.Dn QG hy];exact ey,rfl⟩,?_,fun c hc=>?_⟩
  ·exact⟨b1,sb.extBut _ _ D.TIz (a7 TI _ D.TIz D.TITO D.TIi1 D.TIi2 h2),⟨_,_,sb.extBut _ _ D.TOz a2⟩,a3.extBut sb.extBut D.i1z,a4.extBut sb.extBut D.i2z⟩
  ·rw[ae (JB c hc)]
   exact (hf c hc).1
 done:=by
  intro X hP hw hK hc i pins s σ H E I hf st hg
  subst hP hw hK
  obtain⟨xs,ys,hx,hy,hl⟩:=hg
  obtain⟨h1,h2,⟨u,v,h3⟩,h4,h5⟩:=st
  obtain⟨its,rv,p,hz⟩:=I.list hx
  obtain⟨CC,KD,p2,EW⟩:=I.list hy
  have l1:=rv.length
  have l2:=KD.length
  have ap:ZipApart z TI TO i1 i2 a b:=⟨D.TIz,D.TOz,D.i1z,D.i2z,D.TITO,D.TIi1,D.TIi2,D.TOi1,D.TOi2,D.i12,
   cA I hx (hf z (by simp)),cA I hx (hf TO (by simp)),cA I hx (hf i1 (by simp)),cA I hx (hf i2 (by simp)),cA I hy (hf z (by simp)),cA I hy (hf TO (by simp)),cA I hy (hf i1 (by simp)),cA I hy (hf i2 (by simp))⟩
  refine wpAny_pyNext_zip_end (I.ok.hd hc) ap h1 h2 h3 h4 h5 p.isList p2.isList ?_ fun h' kk=>⟨rfl,I.DE (t':=s.toks) (ch:=[z,TI,TO,i1,i2]) hf fun c o hc e=>?_⟩
  ·rcases hl with q|q
   ·exact .inl (by simp;omega)
   ·exact .inr (by simp;omega)
  ·simp only[yx,yB,zS,not_or]at hc
   exact kk c o hc.1 hc.2.2.1 hc.2.2.2.1 hc.2.2.2.2 e
 self:=fun _ _ _ _ _ st h=>wpAny_pyIter_zip st.1 h
theorem qS:bootBuiltins "zip"=some (.type "zip"):=by decide +kernel
noncomputable def Qy (K:PySem.W.Frag)(ta:TA):TI:=fun σ H R=>ta σ H fun vs H1=>∃ a b,vs=[.ref a,.ref b]/\(∃ xs,B' K H1 a xs)/\(∃ ys,B' K H1 b ys)/\R (Oz K a b) H1
theorem Mz {X:Cx}{elts:List Expr}{x1:Nat}{DF:Pos}{e1 e2:Expr}{ta:TA}{p pos:Pos} (hg:Gl X "zip") (hm:X.mg "zip"=none) (ha:PA X [e1,e2] ta)
  (hs:starEach [e1,e2] X.env=[(false,eval e1 X.env),(false,eval e2 X.env)]:=by rfl) (Jn:starEach [e2] X.env=[(false,eval e2 X.env)]:=by rfl):
  PI X (.Tuple elts x1 DF) (.Call (.Name "zip" p) [e1,e2] [] pos) (Qy X.K ta):=by
 intro pins s σ H R I h
 refine Call_ (dL I hg hm qS (zC (Ca (ha pos pins s σ H _ I h) fun us s1 j'=>?_) (by rw[hs,Jn]) (by rw[Jn];rfl)))
 obtain⟨vs,H1,I1,r1,q1⟩:=j'
 obtain⟨a,b,e,⟨xs,hx⟩,⟨ys,hy⟩,q⟩:=q1
 subst e
 cases r1 with
 | cons r rr=>
  cases rr with
  | cons r' rr=>
   cases rr
   cases r
   cases r'
   obtain⟨its,rv,p1,hz⟩:=I1.list hx
   obtain⟨CC,KD,p2,EW⟩:=I1.list hy
   refine call_zip_2 p1.isList p2.isList fun h' a1 a2 a3 a4 a5 a6 a7=>?_
   refine wpAny_pyIter_zip a1 ?_
   have I2:Inv X pins σ H1 { s1 with heap:=h' }:=I1.kept (t':=s1.toks) a7
   refine⟨_,[s1.heap.objs.size+4,s1.heap.objs.size+2,s1.heap.objs.size+3,s1.heap.objs.size,s1.heap.objs.size+1],_,_,H1,rfl,I2,v7 a b _ _ _ _ _ ⟨?_,?_,?_,?_,?_,?_,?_,?_,?_,?_⟩,⟨a1,a2,⟨_,_,a3⟩,a4,a5⟩,fun c hc=>?_,q⟩
   all_goals try (intro z;have z':@Eq Nat _ _:=z;omega)
   have le:@LE.le Nat _ s1.heap.objs.size c:=by
    simp only[yx,yB,zS]at hc
    rcases hc with rfl|rfl|rfl|rfl|rfl <;> omega
   have:=I1.EZ (H':=H1) (b:=c) le (I1.BR.fresh le)
   exact this
theorem oA {K:PySem.W.Frag}{a b:Addr}{xs ys:List V}{g:TG}{tb:TS}{D:gW}{σ:St}{H:Hp} (Pv:Nat->St->Hp->Prop) (h0:Pv 0 σ H) (hl:∀ i σ H,i<=min xs.length ys.length->Pv i σ H->B' K H a xs/\B' K H b ys)
  (hs:∀ i x y T σ H,xs[i]?=some x->ys[i]?=some y->Pv i σ H->H T=none->g (.ref T) σ (upd H T (.tup [x,y])) fun σ2 H2=>tb { D with nx:=Pv (i+1),ct:=Pv (i+1),bk:=D.nx } σ2 H2) (hd:∀ σ H,Pv (min xs.length ys.length) σ H->D.nx σ H):
  ∃ W:Nat->Nat->St->Hp->Prop,(∃ m,W 0 m σ H)/\∀ i m σ H,W i m σ H->
   ((Oz K a b).stop i H/\D.nx σ H)\/((Oz K a b).go i H/\∃ N:St->Hp->Prop,(∀ σ' H',N σ' H'->∃ m',m'<m/\W (i+1) m' σ' H')/\∀ x H',(Oz K a b).Ky i H x H'->g x σ H' fun σ2 H2=>tb { D with nx:=N,ct:=N,bk:=D.nx } σ2 H2):=by
 refine⟨fun i m σ H=>m=min xs.length ys.length - i/\i<=min xs.length ys.length/\Pv i σ H,⟨_,rfl,yR _,h0⟩,?_⟩
 rintro i m σ H ⟨rfl,hi,p⟩
 obtain⟨q1,q2⟩:=hl i σ H hi p
 by_cases BU:i<min xs.length ys.length
 ·have l1:i<xs.length:=by omega
  have l2:i<ys.length:=by omega
  refine .inr ⟨⟨xs,ys,xs[i],ys[i],q1,q2,by simp[l1],by simp[l2]⟩,Pv (i+1),fun σ' H' p'=>⟨_,?_,rfl,BU,p'⟩,fun x H' yl=>?_⟩
  ·omega
  ·obtain⟨T,hT,rfl,x,y,ex,ey,rfl⟩:=yl
   exact hs i x y T σ H (ex xs q1) (ey ys q2) p hT
 ·have e:i=min xs.length ys.length:=by omega
  subst e
  exact .inl ⟨⟨xs,ys,q1,q2,by omega⟩,hd σ H p⟩
noncomputable abbrev LA:Value->Shared->Prop:=fun _ _=>False
section
variable {prog : Program}{w : World}{A : Around}{R : Result -> Shared -> Prop}{s : Shared}
theorem oG {elt target iter:Expr}{ifs:List Expr}{scope:Scope}{pos:Pos}{it acc:Value}{env:Env} (I:Nat->Shared->Prop)
  (turn:∀ n s,I n s->wpAny (model prog w) A (pyNext it) (fun r s₁=>match r with
   | none=>R (.ok .next) s₁
   | some v=>wpAny (model prog w) A (letOwnedTupleGo target it v) (fun _ s₂=>wpAny (model prog w) A (assign target env v) (fun _ s₃=>
     wpAny (model prog w) A (forIn ifs true fun c r=>if r=true then do let ok <- isTrue c env (eval c env);pure (ForInStep.yield ok) else pure (ForInStep.yield r)) (fun ok s₄=>
      if ok=true then wpAny (model prog w) A (eval elt env) (fun x s₅=>wpAny (model prog w) A (call (.builtin "list.append") [acc,x]) (fun _ s₆=>∃ m,m<n/\I m s₆) LA s₅) LA s₄
      else ∃ m,m<n/\I m s₄) LA s₃) LA s₂) LA s₁) LA s)
  (n:Nat) (h:I n s):codeAny (model prog w) A (.compLoop (.ListComp elt [⟨target,iter,ifs,0⟩] scope pos) 0 it acc env) R s:=by
 refine codeAny_loop rfl I (fun n s hI=>?_) n h
 show wpAny _ A ((compTurn (.ListComp elt [⟨target,iter,ifs,0⟩] scope pos) 0 it acc env).onRaise (fun x=>do noteFrame x env;theTreesLotGoes x)) _ _ s
 refine wpAny_noted ?_
 rw[compTurn_list]
 refine y9 (BC (y9 (zR (turn n s hI) (fun r s₁ h₁=>?_) fun _ _ h'=>h'.elim)))
 cases r with
 | none=>exact yu h₁
 | some v=>
  refine y9 (zR h₁ (fun _ s₂ h₂=>?_) fun _ _ h'=>h'.elim)
  refine y9 (zR h₂ (fun _ s₃ h₃=>y9 (zR h₃ (fun ok s₄ h₄=>?_) fun _ _ h'=>h'.elim)) fun _ _ h'=>h'.elim)
  cases ok with
  | false=>exact yu ⟨rfl,h₄⟩
  | true=>
   exact y9 (y9 (zR h₄ (fun x s₅ h₅=>y9 (zR h₅ (fun _ s₆ h₆=>yu (yu ⟨rfl,h₆⟩)) fun _ _ h'=>h'.elim)) fun _ _ h'=>h'.elim))
end
theorem qk {M:Model}{A:Around}{E:Value->Shared->Prop}{s:Shared}{scope:Scope}{globals:Addr}{cl:List (Str×Addr)}{qual:Str}{env:Env}{Q:Env->Shared->Prop}
  (h:Q (newEnv scope s.heap.objs.size globals (cellsFrom (s.heap.objs.size+1) scope.names cl) qual none .none (some env) builtinsNs) { s with heap:=pushCells (s.heap.push { cls:=.type "dict",data:=.dict #[] }) scope.names }):
  wpAny M A (newFunctionEnv scope globals cl [] qual none .none (some env)) Q E s:=by
 simp only[newFunctionEnv,Option.isSome_some,B0]
 refine y9 (wpAny_alloc ?_)
 refine y9 (wpAny_layCells _ (fun name kind cells=>by cases hkc:kind==NameKind.cell <;> simp[hkc]) _ _ _ _ ?_)
 rw[show ({ s with heap:=s.heap.push { cls:=.type "dict",data:=.dict #[] } }:Shared).heap.objs.size=s.heap.objs.size+1 from zD ..]
 refine y9 ?_
 rw[B9]
 exact yu (yu h)
theorem gU {env:Env}(f:Str×NameKind->List (Str×Addr)->Sem (ForInStep (List (Str×Addr))))
  (hf:∀ name kind cs,f (name,kind) cs=if kind==.free then (do let a <- cellOf env name;pure (.yield ((name,a)::cs))) else pure (.yield cs)):
  ∀ (names:List (Str×NameKind))(cs:List (Str×Addr)),(∀ x∈names,x.2=.free->∃ c,env.cells.lookup x.1=some c)->
   ∃ cl,forIn names cs f=pure cl/\(∀ p∈cl,p∈cs\/env.cells.lookup p.1=some p.2)/\(∀ p∈cs,p∈cl)/\∀ x∈names,x.2=.free->∃ c,(x.1,c)∈cl
 | [],cs,_=>⟨cs,by rw[B9],fun _ h=>.inl h,fun _ h=>h,fun _ h=>nomatch h⟩
 | (name,kind)::r,cs,hc=>by
  have hr:∀ x∈r,x.2=.free->∃ c,env.cells.lookup x.1=some c:=fun x hx=>hc x (yE _ hx)
  by_cases hk:kind=.free
  ·subst hk
   obtain⟨c,e⟩:=hc (name,.free) yw rfl
   obtain⟨cl,h1,h2,h3,h4⟩:=gU f hf r ((name,c)::cs) hr
   refine⟨cl,?_,fun p hp=>?_,fun p hp=>h3 p (yE _ hp),fun x hx Ks=>?_⟩
   ·rw[Bt,hf]
    show ((if (NameKind.free==NameKind.free)=true then _ else _) >>= _)=_
    rw[if_pos (by decide)]
    unfold cellOf
    rw[e]
    exact h1
   ·rcases h2 p hp with z|z
    ·rcases yx.mp z with z|z
     ·subst z;exact .inr e
     ·exact .inl z
    ·exact .inr z
   ·rcases yx.mp hx with z|z
    ·subst z;exact⟨c,h3 _ yw⟩
    ·exact h4 x z Ks
  ·obtain⟨cl,h1,h2,h3,h4⟩:=gU f hf r cs hr
   refine⟨cl,?_,h2,h3,fun x hx Ks=>?_⟩
   ·rw[Bt,hf,if_neg (by simpa using hk)]
    exact h1
   ·rcases yx.mp hx with z|z
    ·subst z;exact absurd Ks hk
    ·exact h4 x z Ks
theorem lO {env:Env}{scope:Scope} (hc:∀ x∈scope.names,x.2=.free->∃ c,env.cells.lookup x.1=some c):
  ∃ cl,closureFor scope env=pure cl/\(∀ p∈cl,env.cells.lookup p.1=some p.2)/\∀ x∈scope.names,x.2=.free->∃ c,(x.1,c)∈cl:=by
 obtain⟨cl,h1,h2,_,h4⟩:=gU (env:=env) (fun x cs=>if x.2==.free then (do let a <- cellOf env x.1;pure (.yield ((x.1,a)::cs))) else pure (.yield cs)) (fun _ _ _=>rfl) scope.names [] hc
 refine⟨cl,?_,fun p hp=>(h2 p hp).elim (fun z=>nomatch z) id,h4⟩
 unfold closureFor
 rw[<- h1]
 show (forIn scope.names [] _ >>= fun cs=>pure cs)=_
 have e:∀ (m:Sem (List (Str×Addr))),(m >>= fun cs=>pure cs)=m:=fun m=>bind_pure m
 first
  | exact e _
  | (rw[e];congr 1;funext x cs;obtain⟨n,k⟩:=x;cases hk:k==NameKind.free <;> simp[hk])
theorem c8 {α:Type}:∀ {l:List (Str×α)}{x:Str}{c:α},(x,c)∈l->∃ d,l.lookup x=some d
 | (k,v)::r,x,c,h=>by
  rw[Bi]
  cases hb:x==k with
  | true=>exact⟨v,rfl⟩
  | false=>
   rcases yx.mp h with e|h
   ·cases e;simp at hb
   ·exact c8 h
theorem dN:∀ (names:List (Str×NameKind))(n:Nat)(acc:List (Str×Addr))(p:Str×Addr),p∈cellsFrom n names acc->p∈acc\/(n<=p.2/\(p.1,NameKind.cell)∈names)
 | [],_,_,_,h=>.inl h
 | (y,k)::r,n,acc,p,h=>by
  unfold cellsFrom at h
  split at h
  ·rename_i hk
   have ek:k=.cell:=by simpa using hk
   rcases dN r (n+1) _ p h with z|⟨z1,z2⟩
   ·rcases yx.mp z with z|z
    ·subst z;subst ek;exact .inr ⟨yh _,yw⟩
    ·exact .inl z
   ·exact .inr ⟨by omega,yE _ z2⟩
  ·rcases dN r n acc p h with z|⟨z1,z2⟩
   ·exact .inl z
   ·exact .inr ⟨z1,yE _ z2⟩
theorem dO:∀ (names:List (Str×NameKind))(n:Nat)(acc:List (Str×Addr)),(∀ p∈acc,p.2<n)->(∀ x y c,(x,c)∈acc->(y,c)∈acc->x=y)->
  ∀ x y c,(x,c)∈cellsFrom n names acc->(y,c)∈cellsFrom n names acc->x=y
 | [],_,_,_,h=>h
 | (z,k)::r,n,acc,BU,h=>by
  unfold cellsFrom
  split
  ·refine dO r (n+1) _ (fun p hp=>?_) (fun x y c h1 h2=>?_)
   ·rcases yx.mp hp with e|hp
    ·subst e;exact Bg _
    ·exact B7 (BU p hp)
   ·rcases yx.mp h1 with e1|h1 <;> rcases yx.mp h2 with e2|h2
    ·cases e1;cases e2;rfl
    ·cases e1;exact absurd (BU _ h2) (zu _)
    ·cases e2;exact absurd (BU _ h1) (zu _)
    ·exact h x y c h1 h2
  ·exact dO r n acc BU h
theorem dM:∀ (names:List (Str×NameKind))(n:Nat)(acc:List (Str×Addr)){x:Str},(∀ y∈names,y.2=.cell->y.1≠x)->(cellsFrom n names acc).lookup x=acc.lookup x
 | [],_,_,_,_=>rfl
 | (z,k)::r,n,acc,x,h=>by
  unfold cellsFrom
  have hr:∀ y∈r,y.2=.cell->y.1≠x:=fun y hy=>h y (yE _ hy)
  split
  ·rename_i hk
   rw[dM r (n+1) _ hr,Bi]
   have:(x==z)=false:=by
    have:=h (z,k) yw (by simpa using hk)
    simpa using Ne.symm this
   rw[this]
  ·exact dM r n acc hr
theorem cN:∀ (names:List (Str×NameKind))(h:Heap)(acc:List (Str×Addr)),(∀ p∈acc,∃ v,h.IsCell p.2 v)->∀ p∈cellsFrom h.objs.size names acc,∃ v,(pushCells h names).IsCell p.2 v
 | [],_,_,hc=>hc
 | (z,k)::r,h,acc,hc=>by
  unfold cellsFrom pushCells
  split
  ·have:=cN r (h.push { cls:=.type "cell",data:=.cell none }) ((z,h.objs.size)::acc) (fun p hp=>by
    rcases yx.mp hp with e|hp
    ·subst e;exact⟨none,_,yC _ rfl,rfl⟩
    ·obtain⟨v,q⟩:=hc p hp
     exact⟨v,q.keeps fun b o e=>yd _ e⟩)
   rwa [zD]at this
  ·exact cN r h acc hc
noncomputable def aH (X:Cx)(scope:Scope)(N':List Str)(cells:List (Str×Addr))(C:Addr)(s:Shared)(H:Hp)(fp:List Addr):Cx where
 prog:=X.prog
 w:=X.w
 K:=X.K
 mg:=X.mg
 base:=X.base
 A:=X.A
 N:=N'
 s₀:=s
 H₀:=H
 env:=compEnvC scope cells C X.env
 outer:=X.stack
 stack:=X.stack
 ex:=fp
 fn:=fun x=>decide (scope.names.lookup x=some .cell)
 calm:=X.calm
 pn:=[]
 xe:=fun _ _=>False
noncomputable def qx (scope:Scope)(x:Str):Bool:=scope.names.any fun y=>y.1==x&&y.2==.free
noncomputable def qy (scope:Scope)(x:Str):Bool:=scope.names.any fun y=>y.1==x&&y.2==.cell
noncomputable def gg (sc:Scope)(N:List Str)(scope:Scope)(nT:Nat)(js:List Nat)(N':List Str):Bool:=
 scope.kind==.function&&decide (N'.length=nT+js.length) &&
 scope.names.all (fun x=>(x.2 != .local || scope.names.lookup x.1==some .local)&&(x.2 != .free || ((sc.names.lookup x.1==some .cell || sc.names.lookup x.1==some .free)&&scope.names.lookup x.1==some .free))) &&
 (js.zipIdx.all fun (j,i)=>match N'[nT+i]?,N[j]? with
  | some x,some y=>x==y&&qx scope x&&!(qy scope x)
  | _,_=>false)
structure bO (X : Cx) (scope : Scope) (nT : Nat) (js : List Nat) (N' : List Str) : Prop where
  kind : scope.kind = .function
  len : N'.length = nT + js.length
  loc : ∀ x ∈ scope.names, x.2 = .local -> scope.names.lookup x.1 = some .local
  free : ∀ x ∈ scope.names, x.2 = .free -> (X.env.kindOf x.1 = some .cell \/ X.env.kindOf x.1 = some .free)
  YM : ∀ x ∈ scope.names, x.2 = .free -> scope.names.lookup x.1 = some .free
  Z' : ∀ (i j : Nat), js[i]? = some j -> ∃ x, N'[nT + i]? = some x /\ X.N[j]? = some x /\ (x, NameKind.free) ∈ scope.names /\ ∀ y ∈ scope.names, y.2 = .cell -> y.1 ≠ x
theorem iu {X:Cx}{sc:Scope}{N:List Str}{scope:Scope}{nT:Nat}{js:List Nat}{N':List Str} (QS:X.env.scope=sc) (hN:X.N=N) (h:gg sc N scope nT js N'=true):bO X scope nT js N':=by
 unfold gg at h
 simp only[zg,B5,zF,Ad]at h
 obtain⟨⟨⟨h1,h2⟩,h3⟩,h4⟩:=h
 refine⟨h1,h2,fun x hx hl=>?_,fun x hx hf=>?_,fun x hx hf=>?_,fun i j e=>?_⟩
 ·have:=(h3 x hx).1
  simp only[hl,Bz,Bool.false_or,Ad]at this
  exact this
 ·have:=(h3 x hx).2
  simp only[hf,Bz,Bool.false_or,Bool.or_eq_true,zg,Ad]at this
  show X.env.scope.names.lookup x.1=_\/X.env.scope.names.lookup x.1=_
  rw[QS]
  exact this.1
 ·have:=(h3 x hx).2
  simp only[hf,Bz,Bool.false_or,Bool.or_eq_true,zg,Ad]at this
  exact this.2
 ·have m:(j,i)∈js.zipIdx:=by
   rw[List.mem_zipIdx_iff_getElem?]
   exact e
  have q:=h4 (j,i) m
  rw[hN]
  revert q
  dsimp only
  cases e1:N'[nT+i]? with
  | none=>intro q;cases q
  | some x=>
   cases e2:N[j]? with
   | none=>intro q;cases q
   | some y=>
    intro q
    simp only[zg,Ad,Bool.not_eq_true']at q
    obtain⟨⟨q1,q2⟩,q3⟩:=q
    subst q1
    refine⟨x,rfl,rfl,?_,fun y hy hc hxy=>?_⟩
    ·unfold qx at q2
     obtain⟨z,hz,EW⟩:=List.any_eq_true.mp q2
     simp only[zg,Ad]at EW
     obtain⟨a,b⟩:=z
     obtain⟨rfl,rfl⟩:=EW
     exact hz
    ·have:qy scope x=true:=List.any_eq_true.mpr ⟨y,hy,by simp[hxy,hc]⟩
     rw[q3]at this;cases this
noncomputable def tR (nT:Nat)(js:List Nat)(σ:St):St:=List.replicate nT none++js.map fun j=>(σ[j]?).join
noncomputable def oQ (X:Cx)(ifs:List Expr)(t:TT):Prop:=
 ∀ (pins:List (Addr×Obj))(s:Shared)(σ:St)(H:Hp)(Q:Bool->Hp->Prop),Inv X pins σ H s->t σ H Q->
  wpAny (model X.prog X.w) X.A (forIn ifs true fun c r=>if r=true then do let ok <- isTrue c X.env (eval c X.env);pure (ForInStep.yield ok) else pure (ForInStep.yield r)) (TP X pins σ Q) X.xe s
noncomputable def fh:TT:=fun _ H Q=>Q true H
theorem aG {X:Cx}:oQ X [] fh:=fun pins s σ H Q I h=>by rw[B9];exact yu ⟨H,I,h⟩
theorem cJ {X:Cx}{c:Expr}{t:TT} (hc:PT X c t):oQ X [c] t:=fun pins s σ H Q I h=>by
 rw[Bt]
 rw[if_pos rfl]
 refine y9 (y9 (Ca (hc pins s σ H Q I h) fun b s1 q=>yu ?_))
 show wpAny _ _ (forIn [] b _) _ _ _
 rw[B9]
 exact yu q
noncomputable def bh (nT:Nat)(js:List Nat)(g:TG)(tt:TT)(te:TE)(σ:St)(F:Addr->Hp->Prop):It->Hp->Prop:=fun J H1=>∀ l,H1 l=none->
 ∃ W:Nat->Nat->St->Hp->Prop,(∃ m,W 0 m (tR nT js σ) (upd H1 l (.lst [])))/\∀ i m σ' H',W i m σ' H'->
  (J.stop i H'/\F l H')\/(J.go i H'/\∀ x H2,J.Ky i H' x H2->g x σ' H2 fun σ3 H3=>∃ (N:Hp->Prop)(NV:V->Hp->Prop),
   (∀ H4,N H4->∃ m',m'<m/\W (i+1) m' σ3 H4)/\(∀ v H5,NV v H5->∃ ys,H5 l=some (.lst ys)/\ys.length<sizeLine/\∃ m',m'<m/\W (i+1) m' σ3 (upd H5 l (.lst (ys++[v]))))/\
   tt σ3 H3 fun b H4=>if b=true then te σ3 H4 NV else N H4)
section
variable {X : Cx}{pins : List (Addr×Obj)}{σ : St}{H : Hp}{s : Shared}{elt tg iter : Expr}{ifs : List Expr}{scope : Scope}{pos : Pos}{wi : TI}{nT : Nat}{js : List Nat}{N' : List Str}{g : TG}{tt : TT}{te : TE}
noncomputable def WQ (X:Cx)(pins:List (Addr×Obj))(H:Hp)(C:Addr)(s:Shared):Prop:=ja X pins H C/\X.s₀.heap.objs.size<=C/\∃ m,s.heap.Ns C m
theorem qK {use:Option (Value->Sem Unit)}{Q:Value->Shared->Prop}{F:Addr->Hp->Prop}{D8:Pos}{Cc:Cx->Prop} (hc:∀ cells C s H fp,Cc (aH X scope N' cells C s H fp)) (S:bO X scope nT js N') (hi:TY Cc X tg iter wi)
  (hg:∀ cells C s H fp,PG (aH X scope N' cells C s H fp) tg g) (ht:∀ cells C s H fp,oQ (aH X scope N' cells C s H fp) ifs tt) (he:∀ cells C s H fp,PE (aH X scope N' cells C s H fp) elt te)
  (I:Inv X pins σ H s) (h:wi σ H (bh nT js g tt te σ F))
  (fin:∀ (l C:Addr)(s':Shared)(H':Hp),Inv X pins σ H' s'->WQ X pins H' C s'->F l H'->compPost (model X.prog X.w) X.A X.xe use Q (.ref l) C (.ok .next) s')
  (hs:∀ x,foldedSetIterable iter X.env x=pure x:=by intro _;rfl):
  wpAny (model X.prog X.w) X.A (comprehension (.ListComp elt [⟨tg,iter,ifs,0⟩] scope pos) scope X.env D8 (newList []) false (eval iter X.env) use) Q X.xe s:=by
 have NU:∀ x∈scope.names,x.2=.free->∃ c,X.env.cells.lookup x.1=some c:=fun x hx hf=>I.ok.has x.1 (S.free x hx hf)
 obtain⟨cl,GK,HF,GJ⟩:=lO (env:=X.env) NU
 refine wpAny_comprehension_free rfl hs GK S.kind S.loc (Ca (hi pins s σ H _ I h) fun v s1 h1=>Ca h1 fun Vb s2 h2=>?_)
 obtain⟨it,fp,tn,J,H2,e,I2,T,Sw,f2,rd⟩:=h2
 subst e
 have I3:Inv X pins σ (upd H2 s2.heap.objs.size (.lst [])) { s2 with heap:=s2.heap.push { cls:=.type "list",data:=.seq ([]:List Value).toArray } }:=I2.N8 (t':=s2.toks) (its:=[]) .nil (yR _)
 refine AG ?_ (by show 0<=sizeLine;exact yR _)
 obtain⟨W,⟨m0,w0⟩,turn⟩:=rd s2.heap.objs.size (I2.BR.fresh (yh _))
 have DP:H2 s2.heap.objs.size=none:=I2.BR.fresh (yh _)
 generalize hl:s2.heap.objs.size=l at I3 w0 turn DP ⊢
 generalize Y4:({ s2 with heap:=s2.heap.push { cls:=.type "list",data:=.seq ([]:List Value).toArray } }:Shared)=s3 at I3 ⊢
 have z3:s3.heap.objs.size=l+1:=by rw[<- Y4,<- hl];exact zD ..
 have k23:∀ b o,s2.heap.get? b=some o->s3.heap.get? b=some o:=fun b o e=>by rw[<- Y4];exact yd _ e
 refine qk ?_
 generalize hC:s3.heap.objs.size=C
 generalize EY:cellsFrom (C+1) scope.names cl=cells
 have hz4:(s3.heap.push { cls:=.type "dict",data:=.dict #[] }).objs.size=C+1:=by rw[zD,hC]
 have LD:∀ b o,s3.heap.get? b=some o->(pushCells (s3.heap.push { cls:=.type "dict",data:=.dict #[] }) scope.names).get? b=some o:=fun b o e=>pushCells_keeps _ _ b o (yd _ e)
 have Xm:(pushCells (s3.heap.push { cls:=.type "dict",data:=.dict #[] }) scope.names).Ns C (fun _=>none):=by
  have:=(Heap.Ns.new s3.heap (.type "dict")).keeps (pushCells_keeps scope.names _)
  rwa [hC]at this
 generalize hh4:pushCells (s3.heap.push { cls:=.type "dict",data:=.dict #[] }) scope.names=h4 at LD Xm
 have memC:∀ x c,cells.lookup x=some c->(X.env.cells.lookup x=some c/\@LT.lt Nat _ c C)\/(@LE.le Nat _ (C+1) c/\(x,NameKind.cell)∈scope.names):=fun x c e=>by
  have m:=mem_of_lookup e
  rw[<- EY]at m
  rcases dN _ _ _ _ m with z|z
  ·have q:=HF _ z
   obtain⟨v,iz⟩:=I3.cell x c q
   exact .inl ⟨q,by have:=iz.lt;rw[hC]at this;exact this⟩
  ·exact .inr z
 have Lc:∀ x c,cells.lookup x=some c->∃ v,h4.IsCell c v:=fun x c e=>by
  have m:=mem_of_lookup e
  have:=cN scope.names (s3.heap.push { cls:=.type "dict",data:=.dict #[] }) cl (fun p hp=>by
   obtain⟨v,iz⟩:=I3.cell p.1 p.2 (HF p hp)
   exact⟨v,iz.keeps fun b o e=>yd _ e⟩)
  rw[hz4,EY,hh4]at this
  exact this _ m
 show codeAny (model X.prog X.w) X.A (.compStart _ 0 (.ref it) (.ref l) (compEnvC scope cells C X.env)) (compPost (model X.prog X.w) X.A X.xe use Q (.ref l) C) { s3 with heap:=h4 }
 have Ka:∀ b∈fp,@LT.lt Nat _ b l:=fun b hb=>by
  obtain⟨o,e,_⟩:=T.obj _ _ Sw b hb
  rw[<- hl];exact yH e
 have LU:∀ b∈fp,b∉Je X.stack:=fun b hb z=>(yx.mp (I2.HU b z)).elim (f2 b hb).2.1 (f2 b hb).2.2.1
 have okC:(aH X scope N' cells C s3 (upd H2 l (.lst [])) fp).Ok:=by
  refine⟨I3.ok.mod,S.kind,I3.ok.glob,I3.ok.blt,Nat.le_of_eq hC,fun x y c e1 e2=>?_,fun x hx=>?_,fun x c hf e=>?_,I3.ok.hd,I3.ok.frames,.inl rfl,fun b hb=>⟨?_,fun x c e z=>?_⟩,I3.bs,yV I3.ok.Ke I3.sz,fun b o e hb=>?_,LU,I3.stack,I3.GD⟩
  ·have RM:=mem_of_lookup (show cells.lookup x=some c from e1)
   have GO:=mem_of_lookup (show cells.lookup y=some c from e2)
   rw[<- EY]at RM GO
   refine dO scope.names (C+1) cl (fun p hp=>?_) (fun x y c h1 h2=>I3.ok.inj x y c (HF _ h1) (HF _ h2)) x y c RM GO
   obtain⟨v,iz⟩:=I3.cell p.1 p.2 (HF p hp)
   have h1:@LT.lt Nat _ p.2 s3.heap.objs.size:=iz.lt
   rw[hC]at h1
   show @LT.lt Nat _ p.2 (C+1)
   omega
  ·have DT:(relabel scope X.env).names.lookup x=some .cell\/(relabel scope X.env).names.lookup x=some .free:=hx
   have:∃ k,(x,k)∈scope.names/\(k=.cell\/k=.free):=by
    have m:∃ k,(x,k)∈(relabel scope X.env).names/\(k=.cell\/k=.free):=by
     rcases DT with z|z
     ·exact⟨_,mem_of_lookup z,.inl rfl⟩
     ·exact⟨_,mem_of_lookup z,.inr rfl⟩
    obtain⟨k,m,hk⟩:=m
    unfold relabel at m
    obtain⟨⟨n,k'⟩,m',e⟩:=yD.mp m
    dsimp only at e
    split at e
    ·rename_i LQ
     cases e
     simp only[zg,Ad]at LQ
     exact⟨k',m',.inr LQ.1.1⟩
    ·cases e;exact⟨k,m',hk⟩
   obtain⟨k,m,hk⟩:=this
   show ∃ c,cells.lookup x=some c
   rw[<- EY]
   have key:∃ c,(x,c)∈cellsFrom (C+1) scope.names cl:=by
    rcases hk with rfl|rfl
    ·have gen:∀ (names:List (Str×NameKind))(n:Nat)(acc:List (Str×Addr)),((x,NameKind.cell)∈names\/∃ c,(x,c)∈acc)->∃ c,(x,c)∈cellsFrom n names acc:=by
      intro names
      induction names with
      | nil=>intro n acc h;exact h.elim (fun z=>nomatch z) id
      | cons y r ih=>
       intro n acc h
       obtain⟨y,k⟩:=y
       unfold cellsFrom
       split
       ·rename_i hk
        refine ih _ _ ?_
        rcases h with h|⟨c,h⟩
        ·rcases yx.mp h with e|h
         ·cases e;exact .inr ⟨n,yw⟩
         ·exact .inl h
        ·exact .inr ⟨c,yE _ h⟩
       ·rename_i hk
        refine ih _ _ ?_
        rcases h with h|h
        ·rcases yx.mp h with e|h
         ·cases e;exact absurd (show (NameKind.cell==NameKind.cell)=true by decide) hk
         ·exact .inl h
        ·exact .inr h
     exact gen _ _ _ (.inl m)
    ·obtain⟨c,KU⟩:=GJ _ m rfl
     have gen:∀ (names:List (Str×NameKind))(n:Nat)(acc:List (Str×Addr)),(x,c)∈acc->(x,c)∈cellsFrom n names acc:=by
      intro names
      induction names with
      | nil=>intro n acc h;exact h
      | cons y r ih=>
       intro n acc h
       obtain⟨y,k⟩:=y
       unfold cellsFrom
       split
       ·exact ih _ _ (yE _ h)
       ·exact ih _ _ h
     exact⟨c,gen _ _ _ KU⟩
   obtain⟨c,m⟩:=key
   exact c8 m
  ·have Ks:decide (scope.names.lookup x=some NameKind.cell)=true:=hf
   have VX:=yA Ks
   rcases memC x c e with⟨_,_⟩|⟨z,_⟩
   ·
    have gen:∀ (names:List (Str×NameKind))(n:Nat)(acc:List (Str×Addr)),names.lookup x=some .cell->C+1<=n->∀ c,(cellsFrom n names acc).lookup x=some c->C+1<=c:=by
     intro names
     induction names with
     | nil=>intro n acc h;cases h
     | cons y r ih=>
      intro n acc h hn c Js
      obtain⟨y,k⟩:=y
      rw[Bi]at h
      unfold cellsFrom at Js
      have last:∀ (names:List (Str×NameKind))(n:Nat)(acc:List (Str×Addr)),C+1<=n->(∀ d,acc.lookup x=some d->C+1<=d)->∀ c,(cellsFrom n names acc).lookup x=some c->C+1<=c:=by
       intro names
       induction names with
       | nil=>intro n acc _ h c hc;exact h c hc
       | cons y r ih=>
        intro n acc hn h c hc
        obtain⟨y,k⟩:=y
        unfold cellsFrom at hc
        split at hc
        ·refine ih (n+1) _ (by omega) (fun d hd=>?_) c hc
         rw[Bi]at hd
         split at hd
         ·cases hd;exact hn
         ·exact h d hd
        ·exact ih n acc hn h c hc
      cases hb:x==y with
      | true=>
       rw[hb]at h
       cases h
       rw[if_pos (by decide)]at Js
       refine last r (n+1) _ (by omega) (fun d hd=>?_) c Js
       rw[Bi,hb]at hd
       cases hd;exact hn
      | false=>
       rw[hb]at h
       split at Js
       ·exact ih (n+1) _ h (by omega) c Js
       ·exact ih n acc h hn c Js
    have e':cells.lookup x=some c:=e
    rw[<- EY]at e'
    have h1:@LE.le Nat _ (C+1) c:=gen scope.names (C+1) cl VX (yh _) c e'
    show @LE.le Nat _ s3.heap.objs.size c
    omega
   ·show @LE.le Nat _ s3.heap.objs.size c
    omega
  ·have:=Ka b hb
   show @Ne Nat b C
   omega
  ·subst z
   rcases memC x c e with⟨q,_⟩|⟨q,_⟩
   ·exact (f2 c hb).2.2.2.2.1 x c q rfl
   ·have:=Ka c hb
    omega
  ·rcases (f2 b hb).2.2.2.1 with z|z
   ·exact I3.ok.J8 b o e z
   ·exact absurd (yG (yH e) (yV I3.ok.Ke z)) (zu _)
 have HC:∀ c:Addr,@LE.le Nat _ C c->upd H2 l (.lst []) c=none:=fun c Js=>I3.BR.fresh (show @LE.le Nat _ s3.heap.objs.size c by omega)
 have I4:Inv (aH X scope N' cells C s3 (upd H2 l (.lst [])) fp) [] (tR nT js σ) (upd H2 l (.lst [])) { s3 with heap:=h4 }:=by
  refine⟨okC,rfl,I3.bare,Un.kept LD,⟨_,Xm,fun i x v e1 e2 e3=>?_⟩,Lc,HC C (yh _),fun x c e=>?_,(fun p hp=>nomatch hp),I3.BR.kept LD,?_⟩
  ·
   unfold tR at e2
   by_cases FW:i<nT
   ·rw[yU (by simpa using FW),List.getElem?_replicate]at e2
    split at e2 <;> cases e2
   ·rw[yT (by simpa using FW),Bf,ye]at e2
    cases ej:js[i - nT]? with
    | none=>rw[ej]at e2;cases e2
    | some j=>
     rw[ej]at e2
     have GO:(σ[j]?).join=some v:=by simpa using e2
     have WH:σ[j]?=some (some v):=by
      cases eσ:σ[j]? with
      | none=>rw[eσ]at GO;cases GO
      | some o=>rw[eσ]at GO;exact congrArg some GO
     obtain⟨y,n1,n2,n3,n4⟩:=S.Z' _ _ ej
     have:nT+(i - nT)=i:=by omega
     rw[this]at n1
     have exy:x=y:=by
      have RM:N'[i]?=some x:=e1
      rw[n1]at RM;exact (Option.some.inj RM).symm
     subst exy
     obtain⟨m,hn,Kr⟩:=I3.loc
     have kinds:=S.free _ n3 rfl
     have U3:Pd X.env.scope x:=by
      rcases kinds with k|k
      ·exact .inr (.inl k)
      ·exact .inr (.inr k)
     obtain⟨u,r,lk⟩:=Kr j x v n2 WH U3
     refine⟨u,r,?_⟩
     rcases lk with⟨k,_⟩|⟨k,c,ec,iz⟩
     ·rcases kinds with k'|k'
      ·rw[k]at k';cases k'
      ·rw[k]at k';cases k'
     ·refine .inr ⟨?_,c,?_,iz.keeps LD⟩
      ·show (relabel scope X.env).names.lookup x=some .cell\/(relabel scope X.env).names.lookup x=some .free
       have GN:Pd (relabel scope X.env) x:=e3
       rcases GN with z|z|z
       ·
        exfalso
        have m:=mem_of_lookup z
        unfold relabel at m
        obtain⟨⟨n,k'⟩,m',e⟩:=yD.mp m
        dsimp only at e
        split at e
        ·cases e
        ·cases e
         have q:=S.loc _ m' rfl
         rw[S.YM _ n3 rfl]at q
         cases q
       ·exact .inl z
       ·exact .inr z
      ·show cells.lookup x=some c
       rw[<- EY,dM _ _ _ n4]
       obtain⟨d,hd⟩:=GJ _ n3 rfl
       obtain⟨d',EL⟩:=c8 hd
       have:=HF _ (mem_of_lookup EL)
       rw[ec]at this
       rw[EL,Option.some.inj this]
  ·rcases memC x c e with⟨q,_⟩|⟨q,_⟩
   ·exact I3.Dv x c q
   ·exact HC c (by omega)
  ·unfold tR
   show _=N'.length
   rw[S.len,yI,Bf,y6]
 have stat:∀ {H':Hp},(∀ b∈fp,H' b=none)->∀ b∈fp,ja (aH X scope N' cells C s3 (upd H2 l (.lst [])) fp) [] H' b:=fun hn b hb=>by
  refine⟨hn b hb,?_,LU b hb,.inl hb,fun x c e z=>?_,(fun p hp=>nomatch hp)⟩
  ·have:=Ka b hb
   show @Ne Nat b C
   omega
  ·subst z
   rcases memC x c e with⟨q,_⟩|⟨q,_⟩
   ·exact (f2 c hb).2.2.2.2.1 x c q rfl
   ·have:=Ka c hb
    omega
 have fr0:∀ b∈fp,upd H2 l (.lst []) b=none:=fun b hb=>by
  rw[ae (z9 (Ka b hb))]
  exact (f2 b hb).1
 have X6:tn 0 h4:=T.keep _ _ _ Sw fun b _ o e=>LD b o (k23 b o e)
 have loop:codeAny (model X.prog X.w) X.A (.compLoop (.ListComp elt [⟨tg,iter,ifs,0⟩] scope pos) 0 (.ref it) (.ref l) (compEnvC scope cells C X.env)) (compPost (model X.prog X.w) X.A X.xe use Q (.ref l) C) { s3 with heap:=h4 }:=by
  refine oG (fun n s'=>∃ i σ' H',Inv (aH X scope N' cells C s3 (upd H2 l (.lst [])) fp) [] σ' H' s'/\tn i s'.heap/\(∀ b∈fp,H' b=none)/\W i n σ' H') ?_ m0 ⟨0,_,_,I4,X6,fr0,w0⟩
  rintro n s5 ⟨i,σ5,H5,I5,OE,Tr,w5⟩
  rcases turn i n σ5 H5 w5 with⟨stop,qn⟩|⟨go,step⟩
  ·refine Ca (T.done (aH X scope N' cells C s3 (upd H2 l (.lst [])) fp) rfl rfl rfl (hc _ _ _ _ _) i [] s5 σ5 H5 LA I5 (stat Tr) OE stop) fun r s6 j'=>?_
   obtain⟨hr,I6⟩:=j'
   subst hr
   have un:Un (Je X.stack) fp (upd H2 l (.lst [])) H5 s3.heap s6.heap:=I6.base
   have J6:Inv X pins σ H5 s6:=I3.RP (ch:=fp) I6.os un I6.BR I6.bare fun b hb=>⟨(f2 b hb).2.2.2.1,(f2 b hb).2.1,(f2 b hb).2.2.2.2.1,(f2 b hb).2.2.2.2.2⟩
   obtain⟨m6,n6,_⟩:=I6.loc
   have RC:@Ne Nat C X.env.locals:=by
    have h1:@LT.lt Nat _ X.env.locals s3.heap.objs.size:=I3.lt
    omega
   have YG:@LE.le Nat _ X.s₀.heap.objs.size C:=by have:=I3.sz;omega
   refine fin l C s6 H5 J6 ⟨⟨I6.free,RC,fun z=>?_,.inr YG,fun x c e z=>?_,fun p hp z=>?_⟩,YG,m6,n6⟩ qn
   ·have:=I3.JK (a:=C) (Nat.le_of_eq hC)
    exact this z
   ·obtain⟨v,iz⟩:=I3.cell x c e
    have h1:@LT.lt Nat _ c s3.heap.objs.size:=iz.lt
    have h2:@Eq Nat c C:=z
    omega
   ·have h1:@LT.lt Nat _ p.1 s3.heap.objs.size:=yH (I3.pin p hp).1
    have h2:@Eq Nat p.1 C:=z
    omega
  ·refine Ca (T.item (aH X scope N' cells C s3 (upd H2 l (.lst [])) fp) rfl rfl rfl (hc _ _ _ _ _) i [] s5 σ5 H5 LA I5 (stat Tr) OE go) fun r s6 j'=>?_
   obtain⟨u,hr,h6⟩:=j'
   subst hr
   refine Ca h6 fun _ s7 j'=>?_
   obtain⟨x,H7,I7,r7,y7,Uo,fr7⟩:=j'
   have I7':=I7.pinned (stat fr7) (T.obj _ _ Uo)
   refine Ca (hg cells C s3 (upd H2 l (.lst [])) fp _ s7 σ5 H7 x u _ I7' r7 (step x H7 y7)) fun _ s8 j'=>?_
   obtain⟨σ8,H8,I8,q8⟩:=j'
   have again:∀ {H9:Hp}{s9:Shared},Inv (aH X scope N' cells C s3 (upd H2 l (.lst [])) fp) ([]++kL fp s7.heap) σ8 H9 s9->tn (i+1) s9.heap/\∀ b∈fp,H9 b=none:=fun {H9 s9} I9=>by
    refine⟨T.keep _ _ _ Uo fun b hb o e=>(I9.pin (b,o) (yv _ (yv _ (eQ hb e)))).1,fun b hb=>?_⟩
    obtain⟨o,e,d⟩:=T.obj _ _ Uo b hb
    exact (I9.pin (b,o) (yv _ (yv _ (eQ hb e)))).2.1
   obtain⟨N,NV,hN,hNV,q8⟩:=q8
   refine Ca (ht cells C s3 (upd H2 l (.lst [])) fp _ s8 σ8 H8 _ I8 q8) fun b s9 j'=>?_
   obtain⟨H9,I9,q9⟩:=j'
   cases b with
   | false=>
    rw[if_neg yQ]at q9 ⊢
    obtain⟨m',hm,w9⟩:=hN _ q9
    exact⟨m',hm,i+1,σ8,H9,I9.DW,(again I9).1,(again I9).2,w9⟩
   | true=>
    rw[if_pos rfl]at q9 ⊢
    refine Ca (he cells C s3 (upd H2 l (.lst [])) fp _ s9 σ8 H9 _ I9 q9) fun y ZM j'=>?_
    obtain⟨v,JA,I10,ZQ,ZS⟩:=j'
    obtain⟨ys,el,hz,m',hm,Zt⟩:=hNV _ _ ZS
    refine Ca (cg (X:=aH X scope N' cells C s3 (upd H2 l (.lst [])) fp) _ ZM σ8 JA (.ref l) [v] (.ref l) [y] (fun z Zm=>z=.non/\Zm=upd JA l (.lst (ys++[v]))) I10 rfl (.cons ZQ .nil) ⟨l,ys,v,rfl,rfl,el,hz,rfl,rfl⟩) fun _ s11 j'=>?_
    obtain⟨_,Zm,I11,_,_,Pb⟩:=j'
    subst Pb
    exact⟨m',hm,i+1,σ8,_,I11.DW,(again I11).1,(again I11).2,Zt⟩
 refine codeAny_compStart_list loop (T.self _ 0 _ _ _ X6 loop)
end
section
variable {X : Cx}{elt tg iter : Expr}{ifs : List Expr}{scope : Scope}{pos : Pos}{wi : TI}{nT : Nat}{js : List Nat}{N' : List Str}{g : TG}{tt : TT}{te : TE}
noncomputable def sN (wi:TI)(nT:Nat)(js:List Nat)(g:TG)(tt:TT)(te:TE):TE:=fun σ H Q=>wi σ H (bh nT js g tt te σ fun l H'=>Q (.ref l) H')
theorem vC {Cc:Cx->Prop}(hc:∀ cells C s H fp,Cc (aH X scope N' cells C s H fp))(S:bO X scope nT js N')(hi:TY Cc X tg iter wi)
  (hg:∀ cells C s H fp,PG (aH X scope N' cells C s H fp) tg g) (ht:∀ cells C s H fp,oQ (aH X scope N' cells C s H fp) ifs tt) (he:∀ cells C s H fp,PE (aH X scope N' cells C s H fp) elt te)
  (hs:∀ x,foldedSetIterable iter X.env x=pure x:=by intro _;rfl):PE X (.ListComp elt [⟨tg,iter,ifs,0⟩] scope pos) (sN wi nT js g tt te):=by
 intro pins s σ H Q I h
 rw[eval_ListComp]
 refine qK (use:=none) hc S hi hg ht he I h (fun l C s' H' I' j' q=>?_) hs
 obtain⟨f,_,m,n⟩:=j'
 refine⟨m,n,fun h' sb=>⟨.ref l,H',?_,rfl,q⟩⟩
 exact I'.turned (t':=s'.toks) (fun b o hb e=>(sb.2 b hb).trans e) f.1 f.2.1 f.2.2.2.1 f.2.2.2.2.1 f.2.2.2.2.2
theorem aV (hc:X.calm=true)(S:bO X scope nT js N')(hi:PI X tg iter wi)
  (hg:∀ cells C s H fp,PG (aH X scope N' cells C s H fp) tg g) (ht:∀ cells C s H fp,oQ (aH X scope N' cells C s H fp) ifs tt) (he:∀ cells C s H fp,PE (aH X scope N' cells C s H fp) elt te)
  (hs:∀ x,foldedSetIterable iter X.env x=pure x:=by intro _;rfl):PE X (.ListComp elt [⟨tg,iter,ifs,0⟩] scope pos) (sN wi nT js g tt te):=vC (fun _ _ _ _ _=>hc) S hi hg ht he hs
theorem pL {Cc:Cx->Prop}{i:Nat}{x:Str}{pos' Hh:Pos} (hN:X.N.Nodup) (FW:X.N[i]?=some x) (hx:X.env.scope.names.lookup x=some .local) (hc:∀ cells C s H fp,Cc (aH X scope N' cells C s H fp)) (S:bO X scope nT js N') (hi:TY Cc X tg iter wi)
  (hg:∀ cells C s H fp,PG (aH X scope N' cells C s H fp) tg g) (ht:∀ cells C s H fp,oQ (aH X scope N' cells C s H fp) ifs tt) (he:∀ cells C s H fp,PE (aH X scope N' cells C s H fp) elt te)
  (QQ:swapsWith (.ListComp elt [⟨tg,iter,ifs,0⟩] scope pos) (some (.Name x pos')) Hh.line X.env=pure true:=by rfl)
  (hs:∀ x,foldedSetIterable iter X.env x=pure x:=by intro _;rfl):PS X (.Assign [.Name x pos'] (.ListComp elt [⟨tg,iter,ifs,0⟩] scope pos) Hh) (u7 (sN wi nT js g tt te) (aO i)):=by
 intro pins s σ H D I h
 rw[exec_Assign_Name_used _ _ _ _ QQ]
 refine y9 (BC (y9 ?_))
 show wpAny _ X.A (do let _ <- comprehension (.ListComp elt [⟨tg,iter,ifs,0⟩] scope pos) scope X.env _ (newList []) false (eval iter X.env) (some (assign (.Name x pos') X.env))) _ _ s
 refine y9 (zR (qK (use:=some (assign (.Name x pos') X.env)) (Q:=fun _ s'=>SP X pins D .next s') hc S hi hg ht he I h (fun l C s' H' I' j' q=>?_) hs) (fun _ s' hq=>yu (yu hq)) fun _ _ e=>e)
 obtain⟨f,sz,m,n⟩:=j'
 show wpAny _ _ (assign (.Name x pos') X.env (.ref l)) _ _ s'
 refine wpAny_assign_Name (mC I' hN FW (.inl hx) (v:=.ref l) rfl (fun Lu U0 j'=>?_) (.inr hx))
 obtain⟨a,sb,ha⟩:=j'
 have hCa:C≠a:=by
  rcases ha with rfl|ha
  ·exact f.2.1
  ·exact fun z=>f.2.2.2.2.1 x a ha z.symm
 refine⟨m,n.sameBut sb hCa,fun h' Sy=>⟨_,H',?_,q⟩⟩
 exact U0.turned (t':=Lu.toks) (fun b o hb e=>(Sy.2 b hb).trans e) f.1 f.2.1 f.2.2.2.1 f.2.2.2.2.1 f.2.2.2.2.2
theorem br {i:Nat}{x:Str}{pos' Hh:Pos} (hN:X.N.Nodup) (FW:X.N[i]?=some x) (hx:X.env.scope.names.lookup x=some .local) (hc:X.calm=true) (S:bO X scope nT js N') (hi:PI X tg iter wi)
  (hg:∀ cells C s H fp,PG (aH X scope N' cells C s H fp) tg g) (ht:∀ cells C s H fp,oQ (aH X scope N' cells C s H fp) ifs tt) (he:∀ cells C s H fp,PE (aH X scope N' cells C s H fp) elt te)
  (QQ:swapsWith (.ListComp elt [⟨tg,iter,ifs,0⟩] scope pos) (some (.Name x pos')) Hh.line X.env=pure true:=by rfl)
  (hs:∀ x,foldedSetIterable iter X.env x=pure x:=by intro _;rfl):PS X (.Assign [.Name x pos'] (.ListComp elt [⟨tg,iter,ifs,0⟩] scope pos) Hh) (u7 (sN wi nT js g tt te) (aO i)):=pL hN FW hx (fun _ _ _ _ _=>hc) S hi hg ht he QQ hs
end
section
variable {js : List Nat}{tt : TT}{te : TE}{σ : St}{F : Addr -> Hp -> Prop}
theorem uV {K:PySem.W.Frag}{a:Addr}{xs:List V}{H1:Hp} (Pv:Addr->Nat->Hp->Prop)
  (h0:∀ l,H1 l=none->Pv l 0 (upd H1 l (.lst []))) (hl:∀ l i H,i<=xs.length->Pv l i H->B' K H a xs)
  (hs:∀ l i x H,xs[i]?=some x->Pv l i H->tt (some x::js.map fun j=>(σ[j]?).join) H fun b H4=>
   if b=true then te (some x::js.map fun j=>(σ[j]?).join) H4 fun v H5=>∃ ys,H5 l=some (.lst ys)/\ys.length<sizeLine/\Pv l (i+1) (upd H5 l (.lst (ys++[v]))) else Pv l (i+1) H4)
  (hd:∀ l H,Pv l xs.length H->F l H):bh 1 js (aO 0) tt te σ F (Il K a) H1:=by
 intro l BX
 refine⟨fun i m σ' H=>m=xs.length - i/\i<=xs.length/\(∃ o,σ'=o::js.map fun j=>(σ[j]?).join)/\Pv l i H,⟨xs.length,by simp,yR _,⟨none,rfl⟩,h0 l BX⟩,?_⟩
 rintro i m σ' H ⟨rfl,hi,⟨o,rfl⟩,p⟩
 have q:=hl l i H hi p
 by_cases BU:i<xs.length
 ·refine .inr ⟨⟨xs,xs[i],q,by simp[BU]⟩,fun x H2 y=>?_⟩
  obtain⟨e,y⟩:=y
  subst e
  refine⟨Pv l (i+1),fun v H5=>∃ ys,H5 l=some (.lst ys)/\ys.length<sizeLine/\Pv l (i+1) (upd H5 l (.lst (ys++[v]))),fun H4 p4=>⟨xs.length - (i+1),by omega,rfl,BU,⟨some x,rfl⟩,p4⟩,
   fun v H5 j'=>(by obtain⟨ys,e1,e2,p5⟩:=j';exact⟨ys,e1,e2,xs.length - (i+1),by omega,rfl,BU,⟨some x,rfl⟩,p5⟩),hs l i x _ (y xs q) p⟩
 ·have e:i=xs.length:=by omega
  subst e
  exact .inl ⟨⟨xs,q,yh _⟩,hd l H p⟩
theorem sB {lo:Int}{n:Nat}{H1:Hp} (Pv:Addr->Nat->Hp->Prop)
  (h0:∀ l,H1 l=none->Pv l 0 (upd H1 l (.lst [])))
  (hs:∀ l i H,i<n->Pv l i H->tt (some (.int (lo+i))::js.map fun j=>(σ[j]?).join) H fun b H4=>
   if b=true then te (some (.int (lo+i))::js.map fun j=>(σ[j]?).join) H4 fun v H5=>∃ ys,H5 l=some (.lst ys)/\ys.length<sizeLine/\Pv l (i+1) (upd H5 l (.lst (ys++[v]))) else Pv l (i+1) H4)
  (hd:∀ l H,Pv l n H->F l H):bh 1 js (aO 0) tt te σ F (Kx lo n) H1:=by
 intro l BX
 refine⟨fun i m σ' H=>m=n - i/\i<=n/\(∃ o,σ'=o::js.map fun j=>(σ[j]?).join)/\Pv l i H,⟨n,by simp,yR _,⟨none,rfl⟩,h0 l BX⟩,?_⟩
 rintro i m σ' H ⟨rfl,hi,⟨o,rfl⟩,p⟩
 by_cases BU:i<n
 ·refine .inr ⟨BU,fun x H2 y=>?_⟩
  obtain⟨e,y⟩:=y
  subst e y
  refine⟨Pv l (i+1),fun v H5=>∃ ys,H5 l=some (.lst ys)/\ys.length<sizeLine/\Pv l (i+1) (upd H5 l (.lst (ys++[v]))),fun H4 p4=>⟨n - (i+1),by omega,rfl,BU,⟨_,rfl⟩,p4⟩,
   fun v H5 j'=>(by obtain⟨ys,e1,e2,p5⟩:=j';exact⟨ys,e1,e2,n - (i+1),by omega,rfl,BU,⟨_,rfl⟩,p5⟩),hs l i _ BU p⟩
 ·have e:i=n:=by omega
  subst e
  exact .inl ⟨yh _,hd l H p⟩
end
section
variable {X : Cx}
theorem wE:CM X (.builtin "isinstance") (fun xs H Q=>∃ x t T b,xs=[x,.ty T]/\iy X.K H x t/\PySem.W.kitOne X.K t (.type T)=some b/\Q (.bl b) H):=by
 intro pins s σ H xs us Q I r h
 obtain⟨x,t,T,b,rfl,ty,e,q⟩:=h
 obtain⟨u,w',rfl,r1,r2⟩:=vals2 r
 cases r2
 exact uO I r1 ty e fun tk=>⟨.bl b,H,I.tok tk,rfl,q⟩
theorem aS:bootBuiltins "isinstance"=some (.builtin "isinstance"):=by decide +kernel
theorem qT:bootBuiltins "sum"=some (.builtin "sum"):=by decide +kernel
theorem uZ (hc:X.calm=true):CM X (.builtin "sum") (fun xs H Q=>∃ (p:Addr)(ns:List Int),xs=[.ref p]/\B' X.K H p (ns.map V.int)/\Q (.int ns.sum) H):=by
 intro pins s σ H xs us Q I r h
 obtain⟨p,ns,rfl,hq,q⟩:=h
 obtain⟨u,rfl,r1⟩:=dP r
 cases r1
 obtain⟨its,rv,pl,hz⟩:=I.list hq
 have hi:IntsAre its ns:=sv rv
 obtain⟨xs,hx⟩:=hi.allInts.items
 have EK:s.heap.IsList p (intItems xs):=hx▸pl.isList
 refine sum_intListG (I.ok.hd hc) EK fun h' tk t' hk=>?_
 have e1:ns=xs.toList.map (·.1):=by
  rw[<- nums_intItems,<- hx]
  exact (show numsOf its.toArray.toList=ns from hi.numsOf).symm
 have e2:preSum (numAt xs) xs.size=ns.sum:=by
  rw[preSum_eq,zy (by simp),e1]
 rw[e2]
 exact⟨.int ns.sum,H,I.kept hk,⟨_,rfl⟩,q⟩
structure OC (K : PySem.W.Frag) {α : Type} [DecidableEq α] (R : Hp -> V -> α -> Prop) (k : Nat) : Prop where
  eq : ∀ (X : Cx) (A : Around) (pins : List (Addr × Obj)) (s : Shared) (σ : St) (H : Hp) (x y : V) (v u : Value) (a b : α), X.K = K -> Inv X pins σ H s -> RelV x v -> RelV y u -> R H x a -> R H y b -> A.units + k < cLine -> SeqAt.EqAt A s v u (decide (a = b))
  fn : ∀ (X : Cx) (pins : List (Addr × Obj)) (s : Shared) (σ : St) (H : Hp) (x : V) (a b : α), X.K = K -> Inv X pins σ H s -> R H x a -> R H x b -> a = b
noncomputable def XF:Hp->V->Int->Prop:=fun _ x n=>x=.int n
theorem GL {K:PySem.W.Frag}:OC K XF 0 where
 eq:=by
  intro X A pins s σ H x y v u a b _ I rx ry ha hb _
  cases ha
  cases hb
  obtain⟨t,rfl⟩:=rx
  obtain⟨t',rfl⟩:=ry
  obtain⟨e,h1,h2⟩:=HT.Kb A s a t b t'
  have:e=decide (a=b):=by
   rw[zr,h2,Aw]
  rw[<- this];exact h1
 fn:=by
  intro X pins s σ H x a b _ I ha hb
  cases ha
  cases hb
  rfl
noncomputable def qw (K:PySem.W.Frag){α:Type}(R:Hp->V->α->Prop):Hp->V->List α->Prop:=fun H x as=>∃ p vs,x=.ref p/\B' K H p vs/\Paired (R H) vs as
theorem Paired.at {α β:Type}{F:α->β->Prop}:∀ {l₁:List α}{l₂:List β}{i:Nat}{a:α},Paired F l₁ l₂->l₁[i]?=some a->∃ b,l₂[i]?=some b/\F a b
 | _,_,_,_,.nil,e=>by simp at e
 | _,_,0,_,.cons r _,e=>by simp at e;subst e;exact⟨_,rfl,r⟩
 | _,_,i+1,a,.cons _ t,e=>by
  obtain⟨u,h1,h2⟩:=Paired.at (i:=i) (a:=a) t (by simpa using e)
  exact⟨u,by simpa using h1,h2⟩
theorem Vals.at' {xs:List V}{us:List Value}{i:Nat}{u:Value} (r:Vals xs us) (h:us[i]?=some u):∃ x,xs[i]?=some x/\RelV x u:=by
 have hl:=r.length
 have hi:i<us.length:=(yb.mp h).1
 have e:xs[i]?=some xs[i]:=by simp
 obtain⟨u',h1,h2⟩:=r.get e
 rw[h]at h1;cases h1
 exact⟨_,e,h2⟩
section
variable {K : PySem.W.Frag}{α : Type} [DecidableEq α] {R : Hp -> V -> α -> Prop}{k : Nat}
theorem lC (h:OC K R k){X:Cx}{A:Around}{pins:List (Addr×Obj)}{s:Shared}{σ:St}{H:Hp}{vs ws:List V}{its CC:List Value}{as bs:List α} (hK:X.K=K) (I:Inv X pins σ H s) (r1:Vals vs its) (r2:Vals ws CC) (p1:Paired (R H) vs as) (p2:Paired (R H) ws bs)
  (hl:its.length=CC.length) (hu:A.units+k<cLine):
  (∀ j (h1:j<its.toArray.size) (h2:j<CC.toArray.size),SeqAt.EqAt A s its.toArray[j] CC.toArray[j] (decide (as[j]?=bs[j]?)))/\(List.range its.toArray.size).all (fun j=>decide (as[j]?=bs[j]?))=decide (as=bs):=by
 have l1:=r1.length
 have l2:=r2.length
 have l3:=Paired.length p1
 have l4:=Paired.length p2
 refine⟨fun j h1 h2=>?_,?_⟩
 ·rw[yL]at h1 h2
  obtain⟨x,ex,rx⟩:=r1.at' (i:=j) (u:=its[j]) (by simp)
  obtain⟨y,ey,ry⟩:=r2.at' (i:=j) (u:=CC[j]) (by simp)
  obtain⟨a,ea,ra⟩:=Paired.at p1 ex
  obtain⟨b,eb,rb⟩:=Paired.at p2 ey
  have:=h.eq X A pins s σ H x y _ _ a b hK I rx ry ra rb hu
  rw[ea,eb]
  have e:decide (some a=some b)=decide (a=b):=by
   rw[zr,Aw,Aw]
   exact⟨Option.some.inj,congrArg some⟩
  rw[e]
  simpa using this
 ·rw[yL,zr,zF,Aw]
  constructor
  ·intro hh
   apply zq
   intro i
   by_cases hi:i<its.length
   ·exact yA (hh i (zz.mpr hi))
   ·rw[yp (by omega),yp (by omega)]
  ·rintro rfl i _
   exact yo rfl
end
theorem MM {α:Type}[DecidableEq α]{R:Hp->V->α->Prop}{k:Nat} (h:OC X.K R k) (hu:X.A.units+(k+1)<cLine):Dq X (compareOp .Eq) (fun x y H Q=>∃ as bs,qw X.K R H x as/\qw X.K R H y bs/\Q (.bl (decide (as=bs))) H):=by
 intro pins s σ H x y v u Q I rx ry hw
 obtain⟨as,bs,ha,hb,q⟩:=hw
 obtain⟨p,vs,rfl,h1,h2⟩:=ha
 obtain⟨p',ws,rfl,h3,h4⟩:=hb
 cases rx
 cases ry
 obtain⟨its,r1,pl,hz⟩:=I.list h1
 obtain⟨CC,r2,HV,EW⟩:=I.list h3
 have l1:=r1.length
 have l2:=r2.length
 have l3:=Paired.length h2
 have l4:=Paired.length h4
 by_cases hl:its.length=CC.length
 ·obtain⟨e1,e2⟩:=lC (A:=X.A.in1) h rfl I r1 r2 h2 h4 hl (by rw[AN];omega)
  refine SeqAt.eq_listAt pl.isList HV.isList (by simpa using hl) (by omega) e1 ?_
  rw[e2]
  exact⟨.bl _,H,I,rfl,q⟩
 ·have:decide (as=bs)=false:=by
   rw[decide_eq_false_iff_not]
   rintro rfl
   omega
  rw[this]at q
  exact SeqAt.eq_list_lengthsAt pl.isList HV.isList (by simpa using hl) (by omega) ⟨.bl _,H,I,rfl,q⟩
theorem ML {α:Type}[DecidableEq α]{R:Hp->V->α->Prop}{k:Nat} (h:OC X.K R k) (hu:X.A.units+(k+1)<cLine):Dq X (compareOp .NotEq) (fun x y H Q=>∃ as bs,qw X.K R H x as/\qw X.K R H y bs/\Q (.bl (!decide (as=bs))) H):=by
 intro pins s σ H x y v u Q I rx ry hw
 obtain⟨as,bs,ha,hb,q⟩:=hw
 obtain⟨p,vs,rfl,h1,h2⟩:=ha
 obtain⟨p',ws,rfl,h3,h4⟩:=hb
 cases rx
 cases ry
 obtain⟨its,r1,pl,hz⟩:=I.list h1
 obtain⟨CC,r2,HV,EW⟩:=I.list h3
 have l1:=r1.length
 have l2:=r2.length
 have l3:=Paired.length h2
 have l4:=Paired.length h4
 by_cases hl:its.length=CC.length
 ·obtain⟨e1,e2⟩:=lC (A:=X.A.in1) h rfl I r1 r2 h2 h4 hl (by rw[AN];omega)
  refine SeqAt.RcNeAt.lists pl.isList HV.isList (by simpa using hl) (by omega) e1 X.prog X.w X.xe _ ?_
  rw[e2]
  exact⟨.bl _,H,I,rfl,q⟩
 ·have:decide (as=bs)=false:=by
   rw[decide_eq_false_iff_not]
   rintro rfl
   omega
  rw[this]at q
  exact SeqAt.RcNeAt.lists_lengths pl.isList HV.isList (by simpa using hl) (by omega) X.prog X.w X.xe _ ⟨.bl _,H,I,rfl,q⟩
end
noncomputable def Df (P:Program)(w:World)(K:PySem.W.Frag)(mg:Str->Option Value)(base:Heap)(k:Nat)(x:Str)(ps:List Str)(sp:Sp):Prop:=
 ∃ f fd,mg x=some (.ref f)/\PySem.W.keepIn K (.ref f)=true/\Binds K fd ps []/\BF P w K mg base Co k f fd ps sp
noncomputable def Dm (P:Program)(w:World)(K:PySem.W.Frag)(mg:Str->Option Value)(base:Heap)(k:Nat)(C:Addr)(m:Str)(ps:List Str)(sp:Sp):Prop:=
 ∃ f fd,F8 K C/\sI K C m f/\Binds K fd ps []/\BF P w K mg base Co k f fd ps sp
noncomputable def Dk (P:Program)(w:World)(K:PySem.W.Frag)(mg:Str->Option Value)(base:Heap)(k:Nat)(x:Str)(C:Addr)(ps:List Str)(sp:Sp):Prop:=
 ∃ f fd,mg x=some (.ref C)/\Mk K C f/\Binds K fd ps []/\BF P w K mg base Co k f fd ps sp
section
variable {X : Cx}{k : Nat}{C : Addr}{ps : List Str}{sp : Sp}{x m : Str}{p pos apos : Pos}{e o : Expr}{es : List Expr}{ta : TE}{t : TA}
theorem ak (D:Df X.prog X.w X.K X.mg X.base k x ps sp)(hr:Ck k X.A)(hg:Gl X x)
  (ha:PA X (e::es) t) (Gw:(x==("__debug__":Str))=false:=by decide) (he:starEach (e::es) X.env=(false,eval e X.env)::starEach es X.env:=by rfl) (En:(backTo pos (starEach es X.env)).any (·.1)=false:=by rfl):
  PE X (.Call (.Name x p) (e::es) [] pos) (oX sp [] E0 t):=by
 obtain⟨f,fd,hm,kp,b,F⟩:=D
 exact sY F hr hg hm kp b .nil jk ha Gw he En
theorem aE {pl:Sem Bool}(he:PE X o ta)(D:Dm X.prog X.w X.K X.mg X.base k C m ps sp)(hr:Ck k X.A)(ha:PA X (e::es) t)
  (IS:starEach (e::es) X.env=(false,eval e X.env)::starEach es X.env:=by rfl) (En:(backTo pos (starEach es X.env)).any (·.1)=false:=by rfl)
  (ht:eval (.Call (.Attribute o m apos) (e::es) [] pos) X.env=(do
   let ov <- eval o X.env
   standAt apos.atName
   let (f,first) <- holding [ov] (getMethod ov m pl)
   callWith pos f first (backTo pos (starEach (e::es) X.env)) (backToKw pos (keywordEach [] X.env))):=by rfl):
  PE X (.Call (.Attribute o m apos) (e::es) [] pos) (mx C m sp [] E0 ta t):=by
 obtain⟨f,fd,cl,hm,b,F⟩:=D
 exact sX he cl hm F hr b .nil jk ha IS En ht
theorem dZ (D:Dk X.prog X.w X.K X.mg X.base k x C ps sp)(hr:Ck (k+1) X.A)(hg:Gl X x)
  (ha:PA X (e::es) t) (Gw:(x==("__debug__":Str))=false:=by decide) (he:starEach (e::es) X.env=(false,eval e X.env)::starEach es X.env:=by rfl) (En:(backTo pos (starEach es X.env)).any (·.1)=false:=by rfl):
  PE X (.Call (.Name x p) (e::es) [] pos) (sM C sp [] E0 t):=by
 obtain⟨f,fd,hm,M,b,F⟩:=D
 exact xi M F hr hg hm b .nil jk ha Gw he En
end
noncomputable def DG (K:PySem.W.Frag)(x qual:Str)(st:Stmt):Prop:=∃ f fd,PySem.W.nsIn K mainGlobals x=some (some (.ref f))/\Cu K x qual st f fd
theorem aF {K:PySem.W.Frag}{x qual:Str}{st:Stmt}{f:Addr}{oc:Value}{od an:Option Addr}{DS:Array (Option Value)}{kV doc pm BJ ct:Value} (a:PySem.W.nsIn K mainGlobals x=some (some (.ref f)))
  (l:K.lookup f=some ⟨oc,od,.func (PySem.W.fnOf x qual (bf st) (aR st) (af st) .none kV doc pm an BJ ct),DS⟩)
  (c:PySem.W.codeIn K BJ qual=true) (k:PySem.W.keepIn K (.ref f)=true):DG K x qual st:=⟨f,_,a,oz l c k⟩
noncomputable def Fm (K:PySem.W.Frag)(C:Addr)(m qual:Str)(st:Stmt):Prop:=∃ f fd,sI K C m f/\Cu K m qual st f fd
theorem bt {K:PySem.W.Frag}{C:Addr}{m qual:Str}{st:Stmt}{f:Addr}{oc:Value}{od an:Option Addr}{DS:Array (Option Value)}{kV doc pm BJ ct:Value} (a:PySem.W.findIn K (.ref C) m=some (some (.ref f))) (i:PySem.W.isFn K (.ref f)=true)
  (l:K.lookup f=some ⟨oc,od,.func (PySem.W.fnOf m qual (bf st) (aR st) (af st) .none kV doc pm an BJ ct),DS⟩)
  (c:PySem.W.codeIn K BJ qual=true) (k:PySem.W.keepIn K (.ref f)=true):Fm K C m qual st:=⟨f,_,⟨a,i,k⟩,oz l c k⟩
theorem aq {H H2:Hp}{T:Addr}{o:HO} (e:f' H H2) (h:H2 T=Option.none):f' H (upd H2 T o):=fun b u hb=>by
 rw[ae (ah (e b u hb) h)]
 exact e b u hb
theorem ar {H H2:Hp}{T:Addr}{o:HO} (e:f' H H2) (h:H T=Option.none):f' H (upd H2 T o):=fun b u hb=>by
 rw[ae (ah hb h)]
 exact e b u hb
noncomputable def Rw (H:Hp)(x:V)(r:List Int):Prop:=∃ a,x=.ref a/\H a=some (.lst (r.map V.int))
noncomputable def Tb (H:Hp)(x:V)(t:List (List Int)):Prop:=∃ a xs,x=.ref a/\H a=some (.lst xs)/\Paired (Rw H) xs t
theorem Rw.mono {H H':Hp}{x:V}{r:List Int} (e:f' H H') (h:Rw H x r):Rw H' x r:=let ⟨a,q1,q2⟩:=h;⟨a,q1,e _ _ q2⟩
theorem Tb.mono {H H':Hp}{x:V}{t:List (List Int)} (e:f' H H') (h:Tb H x t):Tb H' x t:=let ⟨a,xs,q1,q2,q3⟩:=h;⟨a,xs,q1,e _ _ q2,Paired.Cp q3 fun _ _ z=>z.mono e⟩
noncomputable def HR (H H':Hp)(x:V)(r:List Int):Prop:=∃ a,x=.ref a/\H a=none/\H' a=some (.lst (r.map V.int))
noncomputable def Le (H H':Hp)(l:Addr)(t:List (List Int)):Prop:=H l=none/\∃ xs,H' l=some (.lst xs)/\Paired (HR H H') xs t
theorem HR.rw {H H':Hp}{x:V}{r:List Int} (h:HR H H' x r):Rw H' x r:=let ⟨a,q1,_,q2⟩:=h;⟨a,q1,q2⟩
theorem Le.tb {H H':Hp}{l:Addr}{t:List (List Int)} (h:Le H H' l t):Tb H' (.ref l) t:=let ⟨_,xs,q1,q2⟩:=h;⟨l,xs,rfl,q1,Paired.Cp q2 fun _ _ z=>z.rw⟩
theorem Paired.El {α β:Type}{F:α->β->Prop}{a:α}{b:β}{l₁:List α}{l₂:List β} (r:Paired F l₁ l₂) (h:F a b):Paired F (l₁++[a]) (l₂++[b]):=Paired.snoc r h
theorem bJ {xs:List Int}{i:Nat}{x:V} (h:(xs.map V.int)[i]?=some x):∃ a,xs[i]?=some a/\x=.int a:=by
 rw[ye]at h
 cases e:xs[i]? with
 | none=>rw[e]at h;cases h
 | some z=>rw[e]at h;exact⟨z,rfl,(Option.some.inj h).symm⟩
theorem bF {α:Type}(f:Nat->α)(i:Nat):(List.range (i+1)).map f=(List.range i).map f++[f i]:=by
 rw[Ak,yN];rfl
section
variable {js : List Nat}{te : TE}{σ : St}{F : Addr -> Hp -> Prop}{H : Hp}
noncomputable abbrev bD (σ:St)(js:List Nat):St:=js.map fun j=>(σ[j]?).join
theorem eY {K:PySem.W.Frag}{a:Addr}{xs:List V} (g:Nat->Int) (ha:H a=some (.lst xs)) (hz:xs.length<=1000)
  (hs:∀ i x H2,xs[i]?=some x->f' H H2->te (some x::bD σ js) H2 fun v H5=>v=.int (g i)/\f' H2 H5)
  (hd:∀ l H',H l=none->f' H H'->H' l=some (.lst (((List.range xs.length).map g).map V.int))->F l H'):bh 1 js (aO 0) fh te σ F (Il K a) H:=by
 intro l BX
 refine⟨fun i m σ' H2=>m=xs.length - i/\i<=xs.length/\(∃ o,σ'=o::bD σ js)/\f' H H2/\H2 l=some (.lst (((List.range i).map g).map V.int)),⟨xs.length,by simp,yR _,⟨none,rfl⟩,aq (f'.refl _) BX,a9⟩,?_⟩
 rintro i m σ' H2 ⟨rfl,hi,⟨o,rfl⟩,e,hl⟩
 have q:B' K H2 a xs:=B'.of (e _ _ ha)
 by_cases BU:i<xs.length
 ·refine .inr ⟨⟨xs,xs[i],q,by simp[BU]⟩,fun x H3 y=>?_⟩
  obtain⟨eH,y⟩:=y
  subst eH
  have ex:=y xs q
  refine⟨fun _=>False,fun v H5=>v=.int (g i)/\f' _ H5,fun H4 p4=>p4.elim,fun v H5 j'=>?_,hs i x _ ex e⟩
  obtain⟨ev,e5⟩:=j'
  subst ev
  refine⟨_,e5 _ _ hl,by simp only[y6,zi];exact yP hi (yP hz (by decide)),_,?_,rfl,BU,⟨some x,rfl⟩,ar (e.trans e5) BX,?_⟩
  ·omega
  ·rw[a9,bF];simp
 ·have ei:i=xs.length:=by omega
  subst ei
  exact .inl ⟨⟨xs,q,yh _⟩,hd l H2 BX e hl⟩
theorem jC {lo:Int}{n:Nat} (g:Nat->Int) (hz:n<=1000)
  (hs:∀ i H2,i<n->f' H H2->te (some (.int (lo+i))::bD σ js) H2 fun v H5=>v=.int (g i)/\f' H2 H5)
  (hd:∀ l H',H l=none->f' H H'->H' l=some (.lst (((List.range n).map g).map V.int))->F l H'):bh 1 js (aO 0) fh te σ F (Kx lo n) H:=by
 intro l BX
 refine⟨fun i m σ' H2=>m=n - i/\i<=n/\(∃ o,σ'=o::bD σ js)/\f' H H2/\H2 l=some (.lst (((List.range i).map g).map V.int)),⟨n,by simp,yR _,⟨none,rfl⟩,aq (f'.refl _) BX,a9⟩,?_⟩
 rintro i m σ' H2 ⟨rfl,hi,⟨o,rfl⟩,e,hl⟩
 by_cases BU:i<n
 ·refine .inr ⟨BU,fun x H3 y=>?_⟩
  obtain⟨eH,y⟩:=y
  subst eH
  subst y
  refine⟨fun _=>False,fun v H5=>v=.int (g i)/\f' _ H5,fun H4 p4=>p4.elim,fun v H5 j'=>?_,hs i _ BU e⟩
  obtain⟨ev,e5⟩:=j'
  subst ev
  refine⟨_,e5 _ _ hl,by simp only[y6,zi];exact yP hi (yP hz (by decide)),_,?_,rfl,BU,⟨_,rfl⟩,ar (e.trans e5) BX,?_⟩
  ·omega
  ·rw[a9,bF];simp
 ·have ei:i=n:=by omega
  subst ei
  exact .inl ⟨yh _,hd l H2 BX e hl⟩
theorem gf {K:PySem.W.Frag}{a b:Addr}{xs ys:List V} (g:Nat->Int) (ha:H a=some (.lst xs)) (hb:H b=some (.lst ys)) (hz:xs.length<=1000)
  (hs:∀ i x y T H2,xs[i]?=some x->ys[i]?=some y->f' H H2->H2 T=none->te (some x::some y::bD σ js) (upd H2 T (.tup [x,y])) fun v H5=>v=.int (g i)/\f' H2 H5)
  (hd:∀ l H',H l=none->f' H H'->H' l=some (.lst (((List.range (min xs.length ys.length)).map g).map V.int))->F l H'):bh 2 js (mr K 2 (cm (aO 0) (cm (aO 1) ox))) fh te σ F (Oz K a b) H:=by
 intro l BX
 refine⟨fun i m σ' H2=>m=min xs.length ys.length - i/\i<=min xs.length ys.length/\(∃ o1 o2,σ'=o1::o2::bD σ js)/\f' H H2/\H2 l=some (.lst (((List.range i).map g).map V.int)),⟨_,rfl,yR _,⟨none,none,rfl⟩,aq (f'.refl _) BX,a9⟩,?_⟩
 rintro i m σ' H2 ⟨rfl,hi,⟨o1,o2,rfl⟩,e,hl⟩
 have q1:B' K H2 a xs:=B'.of (e _ _ ha)
 have q2:B' K H2 b ys:=B'.of (e _ _ hb)
 by_cases BU:i<min xs.length ys.length
 ·have l1:i<xs.length:=by omega
  have l2:i<ys.length:=by omega
  refine .inr ⟨⟨xs,ys,xs[i],ys[i],q1,q2,by simp[l1],by simp[l2]⟩,fun v H3 yl=>?_⟩
  obtain⟨T,hT,rfl,x,y,ex,ey,rfl⟩:=yl
  refine⟨T,[x,y],rfl,CT.of a9,rfl,x,[y],rfl,y,[],rfl,rfl,?_⟩
  refine⟨fun _=>False,fun v H5=>v=.int (g i)/\f' H2 H5,fun H4 p4=>p4.elim,fun v H5 j'=>?_,hs i x y T H2 (ex xs q1) (ey ys q2) e hT⟩
  obtain⟨ev,e5⟩:=j'
  subst ev
  refine⟨_,e5 _ _ hl,by simp only[y6,zi];exact yG l1 (yV hz (by decide)),_,?_,rfl,BU,⟨_,_,rfl⟩,ar (e.trans e5) BX,?_⟩
  ·omega
  ·rw[a9,bF];simp
 ·have ei:i=min xs.length ys.length:=by omega
  subst ei
  exact .inl ⟨⟨xs,ys,q1,q2,by omega⟩,hd l H2 BX e hl⟩
theorem lM {K:PySem.W.Frag}{a:Addr}{xs:List V} (g:Nat->List Int) (ha:H a=some (.lst xs)) (hz:xs.length<=1000)
  (hs:∀ i x H2,xs[i]?=some x->f' H H2->te (some x::bD σ js) H2 fun v H5=>HR H2 H5 v (g i)/\f' H2 H5)
  (hd:∀ l H',Le H H' l ((List.range xs.length).map g)->f' H H'->F l H'):bh 1 js (aO 0) fh te σ F (Il K a) H:=by
 intro l BX
 refine⟨fun i m σ' H2=>m=xs.length - i/\i<=xs.length/\(∃ o,σ'=o::bD σ js)/\f' H H2/\∃ vs,H2 l=some (.lst vs)/\Paired (fun x r=>HR H H2 x r/\x≠.ref l) vs ((List.range i).map g),⟨xs.length,by simp,yR _,⟨none,rfl⟩,aq (f'.refl _) BX,[],a9,.nil⟩,?_⟩
 rintro i m σ' H2 ⟨rfl,hi,⟨o,rfl⟩,e,vs,hl,hp⟩
 have q:B' K H2 a xs:=B'.of (e _ _ ha)
 by_cases BU:i<xs.length
 ·refine .inr ⟨⟨xs,xs[i],q,by simp[BU]⟩,fun x H3 y=>?_⟩
  obtain⟨eH,y⟩:=y
  subst eH
  have ex:=y xs q
  refine⟨fun _=>False,fun v H5=>HR _ H5 v (g i)/\f' _ H5,fun H4 p4=>p4.elim,fun v H5 j'=>?_,hs i x _ ex e⟩
  obtain⟨⟨c,ec,Ku,hc⟩,e5⟩:=j'
  subst ec
  have hlen:vs.length=i:=by have:=Paired.length hp;simpa using this
  have GK:c≠l:=(ah hl Ku).symm
  refine⟨_,e5 _ _ hl,by rw[hlen];exact yP hi (yP hz (by decide)),_,?_,rfl,BU,⟨some x,rfl⟩,ar (e.trans e5) BX,_,a9,?_⟩
  ·omega
  ·rw[bF]
   refine Paired.El (Paired.Cp hp fun z r ⟨⟨d,h1,h2,h3⟩,h4⟩=>⟨⟨d,h1,h2,?_⟩,h4⟩) ⟨⟨c,rfl,e.free Ku,?_⟩,fun z=>GK (by cases z;rfl)⟩
   ·subst h1
    rw[ae (fun z=>h4 (by rw[z]))]
    exact e5 _ _ h3
   ·rw[ae GK];exact hc
 ·have ei:i=xs.length:=by omega
  subst ei
  exact .inl ⟨⟨xs,q,yh _⟩,hd l H2 ⟨BX,vs,hl,Paired.Cp hp fun _ _ z=>z.1⟩ e⟩
theorem qM {lo:Int}{n:Nat} (g:Nat->List Int) (hz:n<=1000)
  (hs:∀ i H2,i<n->f' H H2->te (some (.int (lo+i))::bD σ js) H2 fun v H5=>HR H2 H5 v (g i)/\f' H2 H5)
  (hd:∀ l H',Le H H' l ((List.range n).map g)->f' H H'->F l H'):bh 1 js (aO 0) fh te σ F (Kx lo n) H:=by
 intro l BX
 refine⟨fun i m σ' H2=>m=n - i/\i<=n/\(∃ o,σ'=o::bD σ js)/\f' H H2/\∃ vs,H2 l=some (.lst vs)/\Paired (fun x r=>HR H H2 x r/\x≠.ref l) vs ((List.range i).map g),⟨n,by simp,yR _,⟨none,rfl⟩,aq (f'.refl _) BX,[],a9,.nil⟩,?_⟩
 rintro i m σ' H2 ⟨rfl,hi,⟨o,rfl⟩,e,vs,hl,hp⟩
 by_cases BU:i<n
 ·refine .inr ⟨BU,fun x H3 y=>?_⟩
  obtain⟨eH,y⟩:=y
  subst eH
  subst y
  refine⟨fun _=>False,fun v H5=>HR _ H5 v (g i)/\f' _ H5,fun H4 p4=>p4.elim,fun v H5 j'=>?_,hs i _ BU e⟩
  obtain⟨⟨c,ec,Ku,hc⟩,e5⟩:=j'
  subst ec
  have hlen:vs.length=i:=by have:=Paired.length hp;simpa using this
  have GK:c≠l:=(ah hl Ku).symm
  refine⟨_,e5 _ _ hl,by rw[hlen];exact yP hi (yP hz (by decide)),_,?_,rfl,BU,⟨_,rfl⟩,ar (e.trans e5) BX,_,a9,?_⟩
  ·omega
  ·rw[bF]
   refine Paired.El (Paired.Cp hp fun z r ⟨⟨d,h1,h2,h3⟩,h4⟩=>⟨⟨d,h1,h2,?_⟩,h4⟩) ⟨⟨c,rfl,e.free Ku,?_⟩,fun z=>GK (by cases z;rfl)⟩
   ·subst h1
    rw[ae (fun z=>h4 (by rw[z]))]
    exact e5 _ _ h3
   ·rw[ae GK];exact hc
 ·have ei:i=n:=by omega
  subst ei
  exact .inl ⟨yh _,hd l H2 ⟨BX,vs,hl,Paired.Cp hp fun _ _ z=>z.1⟩ e⟩
end
section
variable (K : PySem.W.Frag){X : Cx}{pos : Pos}
theorem d0 (h:X.K=K:=by rfl):Pg X (Q1 K):=h▸xL
theorem cO (h:X.K=K:=by rfl):Pg X (Q0 K):=h▸Nl
theorem bQ {tg l:Expr}{tl:TE} (hl:PE X l tl) (h:X.K=K:=by rfl):PI X tg l (w8 K tl):=h▸xf hl
theorem pQ {elts:List Expr}{x1:Nat}{DF:Pos}{e1 e2:Expr}{ta:TA}{p:Pos} (hg:Gl X "zip") (hm:X.mg "zip"=none) (ha:PA X [e1,e2] ta) (h:X.K=K:=by rfl)
  (hs:starEach [e1,e2] X.env=[(false,eval e1 X.env),(false,eval e2 X.env)]:=by rfl) (Jn:starEach [e2] X.env=[(false,eval e2 X.env)]:=by rfl):
  PI X (.Tuple elts x1 DF) (.Call (.Name "zip" p) [e1,e2] [] pos) (Qy K ta):=h▸Mz hg hm ha hs Jn
theorem dl {es:List Expr}{k:Nat}{t:M5}{n:Nat} (hc:X.calm=true) (hh:S7 X es t) (h:X.K=K:=by rfl)
  (hn:(assignEach es X.env).length=n:=by rfl) (IS:(assignEach es X.env).findIdx? (·.1)=none:=by rfl):PG X (.Tuple es k pos) (mr K n t):=h▸MB hc hh hn IS
theorem dJ (h:X.K=K:=by rfl):CM X (.builtin "len") (fun xs H Q=>∃ p ys,xs=[.ref p]/\(B' K H p ys\/CT K H p ys)/\Q (.int ys.length) H):=h▸oM
theorem ow (h:X.K=K:=by rfl):CM X (.builtin "isinstance") (fun xs H Q=>∃ x t T b,xs=[x,.ty T]/\iy K H x t/\PySem.W.kitOne K t (.type T)=some b/\Q (.bl b) H):=h▸wE
theorem eW {e:Expr}{f:Str}{ta:TE} (he:PE X e ta) (hb:attributeBase e f X.env (eval e X.env)=eval e X.env) (h:X.K=K:=by rfl):PE X (.Attribute e f pos) (PJ K ta f):=h▸MH he hb
theorem Qq (h:X.K=K:=by rfl):CM X (.type "list") (fun xs H Q=>∃ p ys,xs=[.ref p]/\(B' K H p ys\/CT K H p ys)/\∀ l,H l=none->Q (.ref l) (upd H l (.lst ys))):=h▸oI
theorem sumK (hc:X.calm=true)(h:X.K=K:=by rfl):CM X (.builtin "sum") (fun xs H Q=>∃ (p:Addr)(ns:List Int),xs=[.ref p]/\B' K H p (ns.map V.int)/\Q (.int ns.sum) H):=h▸uZ hc
theorem XH (h:X.K=K:=by rfl):Dq X (compareOp .In) (SA K false):=h▸uw
theorem oo (h:X.K=K:=by rfl):Dq X (compareOp .NotIn) (SA K true):=h▸nZ
theorem RS {o:Expr}{to:TE}{name:Str}{apos D8:Pos}{T id:String}{r:V->List V->Hp->VK->Prop} (pa:PlainAttrs T) (slot:Slot T name id) (KL:typeOf (.builtin id)=pure (.type "method_descriptor")) (hm:TZ X id r) (ho:PE X o to) (h:X.K=K:=by rfl)
  (E6:attributeBase o name X.env (eval o X.env)=eval o X.env:=by rfl) (E4:(apos.endLine==D8.line)=true:=by rfl):PE X (.Call (.Attribute o name apos) [] [] D8) (PL K T r to):=h▸MI pa slot KL hm ho E6 E4
theorem Oe {o e:Expr}{es:List Expr}{to:TE}{t:TA}{name:Str}{apos D8:Pos}{T id:String}{r:V->List V->Hp->VK->Prop} (pa:PlainAttrs T) (slot:Slot T name id) (KL:typeOf (.builtin id)=pure (.type "method_descriptor")) (hm:TZ X id r) (ho:PE X o to) (ha:PA X (e::es) t) (h:X.K=K:=by rfl)
  (E6:attributeBase o name X.env (eval o X.env)=eval o X.env:=by rfl)
  (NI:((backTo D8 (starEach (e::es) X.env)).all (fun x=>!x.1)&&(backToKw D8 (keywordEach [] X.env)).all (fun x=>x.1.isSome)
   && decide ((e::es).length+([]:List Keyword).length+(if ([]:List Keyword).isEmpty then 0 else 1)<30))=true:=by rfl)
  (E4:(apos.endLine==D8.line)=true:=by rfl) (hs:starEach (e::es) X.env=(false,eval e X.env)::starEach es X.env:=by rfl) (FD:(backTo D8 (starEach es X.env)).any (·.1)=false:=by rfl):
  PE X (.Call (.Attribute o name apos) (e::es) [] D8) (Uk K T r to t):=h▸Q8 pa slot KL hm ho ha E6 NI E4 hs FD
theorem Ww {α:Type}[DecidableEq α]{R:Hp->V->α->Prop}{k:Nat} (hK:OC K R k) (hu:X.A.units+(k+1)<cLine) (h:X.K=K:=by rfl):Dq X (compareOp .Eq) (fun x y H Q=>∃ as bs,qw K R H x as/\qw K R H y bs/\Q (.bl (decide (as=bs))) H):=by
 subst h;exact MM hK hu
theorem Qj {α:Type}[DecidableEq α]{R:Hp->V->α->Prop}{k:Nat} (hK:OC K R k) (hu:X.A.units+(k+1)<cLine) (h:X.K=K:=by rfl):Dq X (compareOp .NotEq) (fun x y H Q=>∃ as bs,qw K R H x as/\qw K R H y bs/\Q (.bl (!decide (as=bs))) H):=by
 subst h;exact ML hK hu
end
noncomputable def Ui (c:TT)(t u:TS):TS:=fun D σ H=>∃ J:St->Hp->Prop,(∀ σ' H',J σ' H'->D.nx σ' H')/\c σ H fun b H1=>if b=true then t { D with nx:=J } σ H1 else u { D with nx:=J } σ H1
theorem dk {X:Cx}{pos:Pos}{t u:TS}{c:Expr}{a b:List Stmt}{tc:TT} (hc:PT X c tc) (ha:GA X a t) (hb:GA X b u):PS X (.If c a b pos) (Ui tc t u):=by
 intro pins s σ H D I h
 obtain⟨J,hJ,h⟩:=h
 refine Ca (aK (pos:=pos) hc ha hb pins s σ H { D with nx:=J } I h) fun f s1 q=>?_
 cases f with
 | next=>obtain⟨σ',H',I',q⟩:=q;exact⟨σ',H',I',hJ _ _ q⟩
 | brk=>exact q
 | cont=>exact q
 | ret v=>exact q
section
variable {X : Cx}{es : List Expr}{pos : Pos}{t : TA}
noncomputable def Ge (H:Hp)(o:HO)(Q:VK):Prop:=∀ p H2,f' H H2->H p=none->H2 p=some o->Q (.ref p) H2
theorem Ge.at {H:Hp}{o:HO}{Q:VK} (h:Ge H o Q) {p:Addr} (hp:H p=none):Q (.ref p) (upd H p o):=h p _ (aq (f'.refl _) hp) hp a9
noncomputable def Lp (t:TA):TE:=fun σ H Q=>t σ H fun xs H1=>xs.length<=sizeLine/\Ge H1 (.tup xs) Q
noncomputable def PD (t:TA):TE:=fun σ H Q=>t σ H fun xs H1=>xs.length<=sizeLine/\Ge H1 (.lst xs) Q
theorem bv {x1}(h:PA X es t):PE X (.Tuple es x1 pos) (Lp t):=by
 intro pins s σ H Q I hq
 refine wpAny_Tuple_spliced (Ca (h pos pins s σ H _ I hq) fun us s1 ⟨xs,H1,I1,r,z,q⟩=>⟨by rw[<- r.length];exact z,?_⟩)
 have hf:H1 s1.heap.objs.size=none:=I1.BR.fresh (yh _)
 refine⟨.ref s1.heap.objs.size,upd H1 s1.heap.objs.size (.tup xs),I1.laid (t':=s1.toks) (fun b u e=>yd _ e) (yh _) ?_,rfl,q.at hf⟩
 exact⟨z,us,r,⟨_,yC _ rfl,rfl,_,rfl⟩⟩
theorem bE (h:PA X es t):PE X (.List es pos) (PD t):=by
 intro pins s σ H Q I hq
 refine wpAny_List_spliced (Ca (h pos pins s σ H _ I hq) fun us s1 ⟨xs,H1,I1,r,z,q⟩=>⟨by rw[<- r.length];exact z,?_⟩)
 have hf:H1 s1.heap.objs.size=none:=I1.BR.fresh (yh _)
 refine⟨.ref s1.heap.objs.size,upd H1 s1.heap.objs.size (.lst xs),I1.laid (t':=s1.toks) (fun b u e=>yd _ e) (yh _) ?_,rfl,q.at hf⟩
 exact⟨z,us,0,r,yC _ rfl⟩
theorem Dq.imp {f:Value->Value->Sem Value}{r r':R2} (h:Dq X f r) (k:∀ x y H Q,r' x y H Q->r x y H Q):Dq X f r':=fun pins s σ H x y v u Q I rx ry q=>h pins s σ H x y v u Q I rx ry (k _ _ _ _ q)
theorem Pe.imp {r r':V->Option Int->Option Int->Hp->VK->Prop}(h:Pe X r)(k:∀ x l u H Q,r' x l u H Q->r x l u H Q):Pe X r':=fun pins s σ H x v vl vu lo hi sl Q I rx hs pl pu q=>h pins s σ H x v vl vu lo hi sl Q I rx hs pl pu (k _ _ _ _ _ q)
theorem CM.imp {f:Value}{r r':List V->Hp->VK->Prop} (h:CM X f r) (k:∀ xs H Q,r' xs H Q->r xs H Q):CM X f r':=fun pins s σ H xs us Q I rx q=>h pins s σ H xs us Q I rx (k _ _ _ q)
noncomputable def Q2:R2:=fun x y H Q=>∃ l b xs zs,x=.ref l/\y=.ref b/\H l=some (.lst xs)/\H b=some (.lst zs)/\xs.length+zs.length<=sizeLine/\Ge H (.lst (xs++zs)) Q
theorem jQ:Dq X (binaryOp .Add) Q2:=MN.imp fun _ _ _ _ j'=>by obtain⟨l,b,xs,zs,h1,h2,h3,h4,h5,q⟩:=j';exact⟨l,b,xs,zs,h1,h2,h3,h4,h5,fun _ hp=>q.at hp⟩
noncomputable def PY (K:PySem.W.Frag):V->Option Int->Option Int->Hp->VK->Prop:=fun x lo hi H Q=>∃ a xs,x=.ref a/\B' K H a xs/\Ge H (.lst (j6 xs lo hi)) Q
theorem p7 (K:PySem.W.Frag)(h:X.K=K:=by rfl):Pe X (PY K):=by
 subst h
 exact KC.imp fun _ _ _ _ _ j'=>by obtain⟨a,xs,h1,h2,q⟩:=j';exact⟨a,xs,h1,h2,fun _ hp=>q.at hp⟩
theorem tq (K:PySem.W.Frag)(h:X.K=K:=by rfl):CM X (.type "list") (fun xs H Q=>∃ p ys,xs=[.ref p]/\(B' K H p ys\/CT K H p ys)/\Ge H (.lst ys) Q):=
 (Qq K h).imp fun _ _ _ j'=>by obtain⟨p,ys,h1,h2,q⟩:=j';exact⟨p,ys,h1,h2,fun _ hp=>q.at hp⟩
end
theorem Qv {c A B:Prop}[Decidable c](hc:¬ c)(h:B):if decide c=true then A else B:=by
 rw[if_neg (fun z=>hc (yA z))]
 exact h
noncomputable def hide (l:Addr)(H:Hp):Hp:=fun b=>if b=l then none else H b
theorem gb {l b:Addr}{H:Hp} (h:b≠l):hide l H b=H b:=if_neg h
theorem d9 {l:Addr}{H:Hp}:f' (hide l H) H:=fun b o h=>by
 by_cases e:b=l
 ·rw[hide,if_pos e]at h;cases h
 ·rwa [gb e]at h
theorem j4 {l:Addr}{H H':Hp} (e:f' H H'):f' (hide l H) (hide l H'):=fun b o h=>by
 by_cases q:b=l
 ·rw[hide,if_pos q]at h;cases h
 ·rw[gb q]at h ⊢;exact e _ _ h
theorem lG {l:Addr}{H:Hp}{o:HO}:hide l (upd H l o)=hide l H:=by
 funext b
 by_cases q:b=l
 ·rw[hide,hide,if_pos q,if_pos q]
 ·rw[gb q,gb q,ae q]
theorem uf {l:Addr}{H H':Hp} (e:f' H H') (h:H l=none):f' H (hide l H'):=fun b o hb=>by
 rw[gb (ah hb h)];exact e _ _ hb
theorem eh {l b:Addr}{H H2:Hp}{o:HO} (hl:H l≠none) (hb:H b=none) (h:H2 b=some o):hide l H2 b=some o:=by
 rw[gb (fun z=>hl (by rw[<- z];exact hb))];exact h
theorem HR.hide {l:Addr}{H H':Hp}{x:V}{r:List Int} (hl:H l≠none) (h:HR H H' x r):Rw (L2.hide l H') x r:=let ⟨a,q1,q2,q3⟩:=h;⟨a,q1,eh hl q2 q3⟩
section
variable {js : List Nat}{te : TE}{σ : St}{F : Addr -> Hp -> Prop}{H : Hp}
theorem gT {K:PySem.W.Frag}{a:Addr}{xs:List V} (R:Nat->Hp->V->Prop) (mono:∀ i H H' v,f' H H'->R i H v->R i H' v) (ha:B' K H a xs) (hz:xs.length<=1000)
  (hs:∀ i x H2,xs[i]?=some x->f' H H2->te (some x::bD σ js) H2 fun v H5=>(∀ l,H l=none->H2 l≠none->R i (hide l H5) v)/\f' H2 H5)
  (hd:∀ l H' vs,H l=none->f' H H'->H' l=some (.lst vs)->vs.length=xs.length->(∀ i v,vs[i]?=some v->R i (hide l H') v)->F l H'):bh 1 js (aO 0) fh te σ F (Il K a) H:=by
 intro l BX
 refine⟨fun i m σ' H2=>m=xs.length - i/\i<=xs.length/\(∃ o,σ'=o::bD σ js)/\f' H H2/\∃ vs:List V,vs.length=i/\H2 l=some (.lst vs)/\∀ i v,vs[i]?=some v->R i (hide l H2) v,⟨xs.length,by simp,yR _,⟨none,rfl⟩,aq (f'.refl _) BX,[],rfl,a9,fun i v h=>by simp at h⟩,?_⟩
 rintro i m σ' H2 ⟨rfl,hi,⟨o,rfl⟩,e,vs,hlen,hl,hp⟩
 have q:B' K H2 a xs:=e.seq ha
 by_cases BU:i<xs.length
 ·refine .inr ⟨⟨xs,xs[i],q,by simp[BU]⟩,fun x H3 y=>?_⟩
  obtain⟨eH,y⟩:=y
  subst eH
  have ex:=y xs q
  refine⟨fun _=>False,fun v H5=>(∀ l,H l=none->H3 l≠none->R i (hide l H5) v)/\f' H3 H5,fun H4 p4=>p4.elim,fun v H5 j'=>?_,hs i x _ ex e⟩
  obtain⟨pv,e5⟩:=j'
  refine⟨_,e5 _ _ hl,by rw[hlen];exact yP hi (yP hz (by decide)),_,?_,rfl,BU,⟨_,rfl⟩,ar (e.trans e5) BX,vs++[v],by rw[yI,hlen];rfl,a9,fun j w hj=>?_⟩
  ·omega
  ·rw[lG]
   by_cases c:j<vs.length
   ·rw[yU c]at hj
    exact mono _ _ _ _ (j4 e5) (hp j w hj)
   ·rw[yT (by omega)]at hj
    by_cases c2:j - vs.length=0
    ·rw[c2]at hj
     have:v=w:=by simpa using hj
     have ej:j=i:=by omega
     rw[ej,<- this]
     exact pv l BX (by rw[hl];exact fun z=>nomatch z)
    ·rw[yp (by simp;omega)]at hj;cases hj
 ·have ei:i=xs.length:=by omega
  subst ei
  exact .inl ⟨⟨xs,q,yh _⟩,hd l H2 vs BX e hl hlen hp⟩
end
theorem Paired.take' {α β:Type}{F:α->β->Prop}:∀ {l₁:List α}{l₂:List β} (n:Nat),Paired F l₁ l₂->Paired F (l₁.take n) (l₂.take n)
 | _,_,0,_=>by simpa using Paired.nil
 | _,_,n+1,.nil=>by simpa using Paired.nil
 | _,_,n+1,.cons h t=>by simpa using Paired.cons h (Paired.take' n t)
theorem Paired.drop' {α β:Type}{F:α->β->Prop}:∀ {l₁:List α}{l₂:List β} (n:Nat),Paired F l₁ l₂->Paired F (l₁.drop n) (l₂.drop n)
 | _,_,0,h=>by simpa using h
 | _,_,n+1,.nil=>by simpa using Paired.nil
 | _,_,n+1,.cons h t=>by simpa using Paired.drop' n t
theorem Paired.append' {α β:Type}{F:α->β->Prop}:∀ {l₁ m₁:List α}{l₂ m₂:List β},Paired F l₁ l₂->Paired F m₁ m₂->Paired F (l₁++m₁) (l₂++m₂)
 | _,_,_,_,.nil,q=>q
 | _,_,_,_,.cons h t,q=>.cons h (Paired.append' t q)
theorem Paired.Ly {α β:Type}{F:α->β->Prop}{d:β}:∀ {l₁:List α}{l₂:List β},l₁.length=l₂.length->(∀ (i:Nat)(a:α),l₁[i]?=some a->F a (l₂.getD i d))->Paired F l₁ l₂
 | [],[],_,_=>.nil
 | [],_::_,h,_=>by simp at h
 | _::_,[],h,_=>by simp at h
 | a::l₁,b::l₂,h,k=>.cons (by simpa using k 0 a rfl) (Paired.Ly (by simpa using h) fun i a' e=>by simpa using k (i+1) a' (by simpa using e))
theorem ir (xs:List V)(k:Nat):j6 xs none (some (k:Int))=xs.take k:=by
 unfold j6
 rw[HT.Ho,HT.Fp,Bw,Nat.sub_zero]
 rw[List.take_eq_take_iff]
 omega
theorem lL (xs:List V)(k:Nat):j6 xs (some (k:Int)) none=xs.drop k:=by
 unfold j6
 rw[HT.Ho,HT.Fp]
 rw[zy (by rw[AL];omega)]
 by_cases h:k<=xs.length
 ·rw[Nat.min_eq_left h]
 ·rw[Nat.min_eq_right (by omega),List.drop_eq_nil_of_le (yh _),List.drop_eq_nil_of_le (by omega)]
theorem LF {c A B:Prop}[Decidable c](hc:¬ c)(h:A):if (!decide c)=true then A else B:=by
 rw[yq hc]
 exact cw h
theorem rQ {H H2 H5:Hp}{v:V}{r:List Int} (e:f' H H5) (h:Rw H v r\/HR H2 H5 v r):∀ l,H l=none->H2 l≠none->Rw (hide l H5) v r:=fun l h0 h1=>by
 rcases h with h|h
 ·exact h.mono (uf e h0)
 ·exact h.hide h1
theorem x5 {H':Hp}{l:Addr}{vs:List V}{L:List (List Int)} (hl:vs.length=L.length) (h:∀ i v,vs[i]?=some v->Rw (hide l H') v (L.getD i [])):Paired (Rw H') vs L:=Paired.Ly (d:=[]) hl fun i v hi=>(h i v hi).mono d9
section
variable {js : List Nat}{te : TE}{σ : St}{F : Addr -> Hp -> Prop}{H : Hp}
theorem uX {K:PySem.W.Frag}{a b:Addr}{xs ys:List V} (g:Nat->List Int) (ha:H a=some (.lst xs)) (hb:H b=some (.lst ys)) (hz:xs.length<=1000)
  (hs:∀ i x y T H2,xs[i]?=some x->ys[i]?=some y->f' H H2->H2 T=none->te (some x::some y::bD σ js) (upd H2 T (.tup [x,y])) fun v H5=>HR H2 H5 v (g i)/\f' H2 H5)
  (hd:∀ l H',Le H H' l ((List.range (min xs.length ys.length)).map g)->f' H H'->F l H'):bh 2 js (mr K 2 (cm (aO 0) (cm (aO 1) ox))) fh te σ F (Oz K a b) H:=by
 intro l BX
 refine⟨fun i m σ' H2=>m=min xs.length ys.length - i/\i<=min xs.length ys.length/\(∃ o1 o2,σ'=o1::o2::bD σ js)/\f' H H2/\∃ vs,H2 l=some (.lst vs)/\Paired (fun x r=>HR H H2 x r/\x≠.ref l) vs ((List.range i).map g),⟨_,rfl,yR _,⟨none,none,rfl⟩,aq (f'.refl _) BX,[],a9,.nil⟩,?_⟩
 rintro i m σ' H2 ⟨rfl,hi,⟨o1,o2,rfl⟩,e,vs,hl,hp⟩
 have q1:B' K H2 a xs:=B'.of (e _ _ ha)
 have q2:B' K H2 b ys:=B'.of (e _ _ hb)
 by_cases BU:i<min xs.length ys.length
 ·have l1:i<xs.length:=by omega
  have l2:i<ys.length:=by omega
  refine .inr ⟨⟨xs,ys,xs[i],ys[i],q1,q2,by simp[l1],by simp[l2]⟩,fun v H3 yl=>?_⟩
  obtain⟨T,hT,rfl,x,y,ex,ey,rfl⟩:=yl
  refine⟨T,[x,y],rfl,CT.of a9,rfl,x,[y],rfl,y,[],rfl,rfl,?_⟩
  refine⟨fun _=>False,fun v H5=>HR H2 H5 v (g i)/\f' H2 H5,fun H4 p4=>p4.elim,fun v H5 j'=>?_,hs i x y T H2 (ex xs q1) (ey ys q2) e hT⟩
  obtain⟨⟨c,ec,Ku,hc⟩,e5⟩:=j'
  subst ec
  have hlen:vs.length=i:=by have:=Paired.length hp;simpa using this
  have GK:c≠l:=(ah hl Ku).symm
  refine⟨_,e5 _ _ hl,by rw[hlen];exact yG l1 (yV hz (by decide)),_,?_,rfl,BU,⟨_,_,rfl⟩,ar (e.trans e5) BX,_,a9,?_⟩
  ·omega
  ·rw[bF]
   refine Paired.El (Paired.Cp hp fun z r ⟨⟨d,h1,h2,h3⟩,h4⟩=>⟨⟨d,h1,h2,?_⟩,h4⟩) ⟨⟨c,rfl,e.free Ku,?_⟩,fun z=>GK (by cases z;rfl)⟩
   ·subst h1
    rw[ae (fun z=>h4 (by rw[z]))]
    exact e5 _ _ h3
   ·rw[ae GK];exact hc
 ·have ei:i=min xs.length ys.length:=by omega
  subst ei
  exact .inl ⟨⟨xs,ys,q1,q2,by omega⟩,hd l H2 ⟨BX,vs,hl,Paired.Cp hp fun _ _ z=>z.1⟩ e⟩
end
section
variable {κ : Type}[DecidableEq κ]
noncomputable def bd (kvs:List (κ×V))(k:κ):Option V:=(kvs.find? fun kv=>decide (kv.1=k)).map (·.2)
noncomputable def cM (kvs:List (κ×V))(k:κ)(v:V):List (κ×V):=
 if (kvs.any fun kv=>decide (kv.1=k))=true then kvs.map (fun kv=>if kv.1=k then (kv.1,v) else kv) else kvs++[(k,v)]
theorem c7 {p:κ×V}{r:List (κ×V)}{k:κ} (e:p.1=k):bd (p::r) k=some p.2:=by simp[bd,z5,e]
theorem bS {p:κ×V}{r:List (κ×V)}{k:κ} (e:¬ p.1=k):bd (p::r) k=bd r k:=by simp[bd,z5,e]
theorem jW (k:κ):∀ kvs:List (κ×V),(kvs.any fun kv=>decide (kv.1=k))=(bd kvs k).isSome
 | []=>rfl
 | p::r=>by
  rw[AE]
  by_cases e:p.1=k
  ·simp only[c7 e,yo e,Bool.true_or,Option.isSome_some]
  ·rw[bS e,yq e,Bool.false_or];exact jW k r
theorem fR (kvs:List (κ×V))(k:κ)(v:V):(cM kvs k v).length<=kvs.length+1:=by
 unfold cM
 split
 ·rw[y6];omega
 ·rw[yI,z4,Bs];omega
theorem dj {kvs:List (κ×V)}{k:κ} (v:V) (h:bd kvs k=none):cM kvs k v=kvs++[(k,v)]:=by
 unfold cM
 rw[jW,h]
 exact if_neg (by decide)
theorem Ej.DD {o:Option V}{u:Option Value} (r:Ej o u):o.isSome=u.isSome:=by
 cases o with
 | none=>cases u with
  | none=>rfl
  | some _=>exact (show False from r).elim
 | some _=>cases u with
  | none=>exact (show False from r).elim
  | some _=>rfl
theorem KV.val {kvs:List (κ×V)}{vs:List (κ×Value)} (r:KV kvs vs) (k:κ):Ej (bd kvs k) (valueAt vs k):=by
 unfold KV at r
 induction r with
 | nil=>exact Ah
 | @cons p q ps qs h t ih=>
  obtain⟨h1,h2⟩:=h
  by_cases e:p.1=k
  ·have e':q.1=k:=h1.symm.trans e
   have b:valueAt (q::qs) k=some q.2:=by simp[valueAt,z5,e']
   rw[c7 e,b];exact h2
  ·have e':¬ q.1=k:=fun z=>e (h1.trans z)
   have b:valueAt (q::qs) k=valueAt qs k:=by simp[valueAt,z5,e']
   rw[bS e,b];exact ih
theorem KV.any {kvs:List (κ×V)}{vs:List (κ×Value)} (r:KV kvs vs) (k:κ):(kvs.any fun kv=>decide (kv.1=k))=vs.any fun kv=>decide (kv.1=k):=by
 unfold KV at r
 induction r with
 | nil=>rfl
 | cons h t ih=>rw[AE,AE,ih,h.1]
theorem KV.Mp {kvs:List (κ×V)}{vs:List (κ×Value)} (r:KV kvs vs) (k:κ) {y:V}{u:Value} (ry:RelV y u):
  KV (kvs.map fun kv=>if kv.1=k then (kv.1,y) else kv) (vs.map fun kv=>if kv.1=k then (kv.1,u) else kv):=by
 unfold KV at r ⊢
 induction r with
 | nil=>exact .nil
 | @cons p q ps qs h t ih=>
  rw[yJ,yJ]
  refine .cons ?_ ih
  obtain⟨h1,h2⟩:=h
  by_cases e:p.1=k
  ·rw[if_pos e,if_pos (h1.symm.trans e)];exact⟨h1,ry⟩
  ·rw[if_neg e,if_neg (fun z=>e (h1.trans z))];exact⟨h1,h2⟩
theorem KV.put {kvs:List (κ×V)}{vs:List (κ×Value)} (r:KV kvs vs) (k:κ) {y:V}{u:Value} (ry:RelV y u):KV (cM kvs k y) (stored vs k u):=by
 unfold cM stored
 rw[r.any k]
 by_cases e:(vs.any fun kv=>decide (kv.1=k))=true
 ·rw[if_pos e,if_pos e];exact r.Mp k ry
 ·rw[if_neg e,if_neg e];exact Paired.snoc r ⟨rfl,ry⟩
theorem KV.length {kvs:List (κ×V)}{vs:List (κ×Value)} (r:KV kvs vs):kvs.length=vs.length:=Paired.length r
end
theorem lB {P:Program}{w:World}{k:Key}{u:Value} (r:RelV (kV k) u):(aW P w).is k u=true:=by
 cases k with
 | inl i=>obtain⟨t,e⟩:=(show ∃ t,u=Value.int i t from r);subst e;exact qm P w i t
 | inr x=>obtain⟨t,e⟩:=(show ∃ t,u=Value.str x t from r);subst e;exact ql P w x t
theorem Nk {a b:Key}(e:kV a=kV b):a=b:=by
 cases a with
 | inl i=>cases b with
  | inl j=>have e':V.int i=V.int j:=e;injection e' with e';rw[e']
  | inr y=>exact nomatch (show V.int i=V.str y from e)
 | inr x=>cases b with
  | inl j=>exact nomatch (show V.str x=V.int j from e)
  | inr y=>have e':V.str x=V.str y:=e;injection e' with e';rw[e']
theorem mZ {P:Program}{w:World}:∀ {ks:List Key}{us:List Value},Vals (ks.map kV) us->ItemsAre (aW P w) ks us
 | [],_,r=>by rw[zZ]at r;cases r;exact .nil
 | k::ks,_,r=>by
  rw[yJ]at r
  cases r with
  | cons h t=>exact .cons (lB h) (mZ t)
noncomputable abbrev KT (H:Hp):List (List Key×V)->List (List Key×Addr×Value)->Prop:=Paired fun p q=>p.1=q.1/\H q.2.1=some (.tup (p.1.map kV))/\RelV p.2 q.2.2
theorem KT.val {H:Hp}{kvs:List (List Key×V)}{xs:List (List Key×Addr×Value)} (r:KT H kvs xs) (k:List Key):Ej (bd kvs k) ((atKey xs k).map (·.2)):=by
 induction r with
 | nil=>exact Ah
 | @cons p q ps qs h t ih=>
  obtain⟨h1,_,h2⟩:=h
  by_cases e:p.1=k
  ·have e':q.1=k:=h1.symm.trans e
   have b:atKey (q::qs) k=some q.2:=by simp[atKey,z5,e']
   rw[c7 e,b];exact h2
  ·have e':¬ q.1=k:=fun z=>e (h1.trans z)
   have b:atKey (q::qs) k=atKey qs k:=by simp[atKey,z5,e']
   rw[bS e,b];exact ih
theorem KT.Mp {H:Hp}{kvs:List (List Key×V)}{xs:List (List Key×Addr×Value)} (r:KT H kvs xs) (k:List Key) {y:V}{u:Value} (ry:RelV y u):
  KT H (kvs.map fun kv=>if kv.1=k then (kv.1,y) else kv) (xs.map (putAt k u)):=by
 induction r with
 | nil=>exact .nil
 | @cons p q ps qs h t ih=>
  rw[yJ,yJ]
  refine .cons ?_ ih
  obtain⟨h1,h2,h3⟩:=h
  unfold putAt
  by_cases e:p.1=k
  ·rw[if_pos e,if_pos (h1.symm.trans e)];exact⟨h1,h2,ry⟩
  ·rw[if_neg e,if_neg (fun z=>e (h1.trans z))];exact⟨h1,h2,h3⟩
theorem KT.put {H:Hp}{kvs:List (List Key×V)}{xs:List (List Key×Addr×Value)} (r:KT H kvs xs) (k:List Key) {b:Addr}{y:V}{u:Value} (hb:H b=some (.tup (k.map kV))) (ry:RelV y u):
  KT H (cM kvs k y) (storedH xs k b u):=by
 have e:(kvs.any fun kv=>decide (kv.1=k))=(atKey xs k).isSome:=by
  rw[jW,(r.val k).DD,B6]
 unfold cM storedH
 rw[e]
 by_cases q:(atKey xs k).isSome=true
 ·rw[if_pos q,if_pos q];exact r.Mp k ry
 ·rw[if_neg q,if_neg q];exact Paired.snoc r ⟨rfl,hb,ry⟩
theorem KT.keeps {H H':Hp}{kvs:List (List Key×V)}{xs:List (List Key×Addr×Value)} (r:KT H kvs xs) (ht:∀ b ys,H b=some (.tup ys)->H' b=some (.tup ys)):KT H' kvs xs:=
 Paired.Cp r fun _ _ z=>⟨z.1,ht _ _ z.2.1,z.2.2⟩
section
variable {P : Program}{w : World}{H : Hp}{h : Heap}{a : Addr}
theorem Lv {u:HO}(ok:Ep P w H h)(e:Rd H a u):BN P w H h a u:=e.ok ok
theorem qG {kvs:List (Key×V)}(ok:Ep P w H h)(e:Rd H a (.dK kvs)):kvs.length<=sizeLine/\(a==sysModules)=false/\∃ vs,KV kvs vs/\h.DictOf (aW P w) a vs:=
 show BN P w H h a (.dK kvs) from Lv ok e
theorem M1 {kvs:List (Key×V)}(ok:Ep P w H h)(e:H a=some (.dK kvs)):kvs.length<=sizeLine/\(a==sysModules)=false/\∃ vs,KV kvs vs/\h.DictOf (aW P w) a vs:=qG ok (.inl e)
theorem lA {ks:List Key}(ok:Ep P w H h)(e:H a=some (.tup (ks.map kV))):(tupleKind (aW P w)).is h ks a:=by
 obtain⟨_,its,r,o,h1,h2,n,h3⟩:=(show BN P w H h a (.tup (ks.map kV)) from ok a _ e)
 exact⟨o,its.toArray,n,h1,h2,h3,by simpa using mZ r⟩
theorem qE {kvs:List (List Key×V)}(ok:Ep P w H h)(e:Rd H a (.dT kvs)):kvs.length<=sizeLine/\(a==sysModules)=false/\
  ∃ xs,KT H kvs xs/\h.DictOfH (tupleKind (aW P w)) a xs:=by
 obtain⟨z,y,xs,r,o,es,ep,h1,h2,h3,h4,h5⟩:=(show BN P w H h a (.dT kvs) from Lv ok e)
 refine⟨z,y,xs,r,o,es,ep,h1,h2,h3,h4,fun x hx=>?_,h5⟩
 have all:∀ {l:List (List Key×V)}{m:List (List Key×Addr×Value)},KT H l m->∀ x∈m,(tupleKind (aW P w)).is h x.1 x.2.1:=by
  intro l m q
  induction q with
  | nil=>intro x hx;exact nomatch hx
  | @cons p q ps qs hq t ih=>
   intro x hx
   rcases yx.mp hx with e|hx
   ·subst e
    exact lA ok (by rw[<- hq.1];exact hq.2.1)
   ·exact ih x hx
 exact all r x hx
theorem RO {kvs:List (List Key×V)}(ok:Ep P w H h)(e:H a=some (.dT kvs)):kvs.length<=sizeLine/\(a==sysModules)=false/\
  ∃ xs,KT H kvs xs/\h.DictOfH (tupleKind (aW P w)) a xs:=qE ok (.inl e)
end
noncomputable def CQ (H:Hp)(a:Addr)(y:V)(r:Option V):Prop:=
 (∃ kvs k,Rd H a (.dK kvs)/\y=kV k/\r=bd kvs k)\/∃ kvs k b,Rd H a (.dT kvs)/\y=.ref b/\H b=some (.tup (k.map kV))/\r=bd kvs k
noncomputable def F7 (H:Hp)(a:Addr)(y v:V)(H':Hp):Prop:=
 (∃ kvs k,H a=some (.dK kvs)/\y=kV k/\kvs.length<sizeLine/\H'=upd H a (.dK (cM kvs k v))) \/
 ∃ kvs k b,H a=some (.dT kvs)/\y=.ref b/\H b=some (.tup (k.map kV))/\kvs.length<sizeLine/\H'=upd H a (.dT (cM kvs k v))
theorem CQ.k {H:Hp}{a:Addr}{kvs:List (Key×V)}{k:Key} (e:H a=some (.dK kvs)):CQ H a (kV k) (bd kvs k):=.inl ⟨kvs,k,.inl e,rfl,rfl⟩
theorem F7.k {H:Hp}{a:Addr}{kvs:List (Key×V)}{k:Key}{v:V} (e:H a=some (.dK kvs)) (hl:kvs.length<sizeLine):F7 H a (kV k) v (upd H a (.dK (cM kvs k v))):=.inl ⟨kvs,k,e,rfl,hl,rfl⟩
section
variable {X : Cx}{pins : List (Addr×Obj)}{σ : St}{H : Hp}{s : Shared}{a : Addr}{y v : V}{u r : Value}{o : Option V}{A : Around}{E : Value -> Shared -> Prop}
theorem Inv.big (I:Inv X pins σ H s):sysModules<s.heap.objs.size:=by
 have h:mainGlobals<s.heap.objs.size:=(I.mod.glob.keeps I.bk).lt
 exact Nat.lt_trans (by decide) h
theorem uU {Q:Value->Shared->Prop}(hu:A.units+1<cLine)(I:Inv X pins σ H s)(g:CQ H a y (some v))(ry:RelV y u)(h:∀ w' s',Inv X pins σ H s'->RelV v w'->Q w' s'):
  wpAny (model X.prog X.w) A (getItem (.ref a) u) Q E s:=by
 rcases g with⟨kvs,k,e,ey,l⟩|⟨kvs,k,b,e,ey,eb,l⟩
 ·subst ey
  obtain⟨z,hd,vs,rel,dd⟩:=qG I.BR e
  obtain⟨w',hw,JF⟩:=Ej.some_of (v:=v) (o:=valueAt vs k) (by rw[l];exact rel.val k)
  exact wpAny_getItem_of (lB ry) dd.mapOf hw (h w' _ (I.tok _) JF)
 ·subst ey
  cases (show u=Value.ref b from ry)
  obtain⟨z,hd,xs,rel,dd⟩:=qE I.BR e
  obtain⟨w',hw,JF⟩:=Ej.some_of (v:=v) (o:=(atKey xs k).map (·.2)) (by rw[l];exact rel.val k)
  obtain⟨p,hp,Gr⟩:=yX.mp hw
  refine wpAny_getItem_heap (Bv hu) (lA I.BR eb) dd hp ?_
  rw[Gr]
  exact h w' _ (I.tok _) JF
theorem WK {Q:Value->Shared->Prop}(hu:A.units+1<cLine)(I:Inv X pins σ H s)(g:CQ H a y o)(ry:RelV y u)(h:∀ s',Inv X pins σ H s'->Q (.bool o.isSome) s'):
  wpAny (model X.prog X.w) A (compareOp .In u (.ref a)) Q E s:=by
 rcases g with⟨kvs,k,e,ey,l⟩|⟨kvs,k,b,e,ey,eb,l⟩
 ·subst ey
  obtain⟨z,hd,vs,rel,dd⟩:=qG I.BR e
  refine wpAny_in_of (lB ry) hd dd.mapOf ?_
  rw[<- (rel.val k).DD,<- l]
  exact h _ (I.tok _)
 ·subst ey
  cases (show u=Value.ref b from ry)
  obtain⟨z,hd,xs,rel,dd⟩:=qE I.BR e
  refine wpAny_in_heap (Bv hu) (lA I.BR eb) hd dd ?_
  have q:=(rel.val k).DD
  rw[B6]at q
  rw[<- q,<- l]
  exact h _ (I.tok _)
theorem xQ {Q:Value->Shared->Prop}(hu:A.units+1<cLine)(I:Inv X pins σ H s)(g:CQ H a y o)(ry:RelV y u)(h:∀ s',Inv X pins σ H s'->Q (.bool (!o.isSome)) s'):
  wpAny (model X.prog X.w) A (compareOp .NotIn u (.ref a)) Q E s:=by
 rcases g with⟨kvs,k,e,ey,l⟩|⟨kvs,k,b,e,ey,eb,l⟩
 ·subst ey
  obtain⟨z,hd,vs,rel,dd⟩:=qG I.BR e
  refine wpAny_notIn_of (lB ry) hd dd.mapOf ?_
  rw[<- (rel.val k).DD,<- l]
  exact h _ (I.tok _)
 ·subst ey
  cases (show u=Value.ref b from ry)
  obtain⟨z,hd,xs,rel,dd⟩:=qE I.BR e
  refine wpAny_notIn_heap (Bv hu) (lA I.BR eb) hd dd ?_
  have q:=(rel.val k).DD
  rw[B6]at q
  rw[<- q,<- l]
  exact h _ (I.tok _)
theorem oE {h':Heap}{t':Nat}{ob:HO} (I:Inv X pins σ H s) (mu:S9 (H a)) (hs:Heap.SameBut a s.heap h') (he:∃ q,h'.get? a=some q) (new:BN X.prog X.w (upd H a ob) h' a ob):
  Inv X pins σ (upd H a ob) { s with heap:=h',toks:=t' }:=
 I.write (x:=a) (e:=a) mu (.inl rfl) (fun b q hb z=>(hs.2 b hb).trans z) he new
theorem wx {P:Program}{w:World}{H':Hp}{h':Heap}{kvs:List (Key×V)}{vs:List (Key×Value)} (z:kvs.length<=sizeLine) (hd:(a==sysModules)=false) (rel:KV kvs vs) (dd:h'.DictOf (aW P w) a vs):
  BN P w H' h' a (.dK kvs):=⟨z,hd,vs,rel,dd⟩
theorem uT {H':Hp}{Q:Unit->Shared->Prop} (hu:A.units+1<cLine) (I:Inv X pins σ H s) (g:F7 H a y v H') (ry:RelV y u) (rv:RelV v r) (h:∀ s',Inv X pins σ H' s'->Q () s'):
  wpAny (model X.prog X.w) A (setItem (.ref a) u r) Q E s:=by
 rcases g with⟨kvs,k,e,ey,l,eH⟩|⟨kvs,k,b,e,ey,eb,l,eH⟩
 ·subst ey eH
  obtain⟨z,hd,vs,rel,dd⟩:=M1 I.BR e
  have hz:vs.length<=sizeLine:=by rw[<- rel.length];exact z
  have hl:(cM kvs k v).length<=sizeLine:=by have:=fR kvs k v;omega
  refine wpAny_setItem_pairs (hsz:=hz) (lB ry) dd fun h' O8 hs=>h _ ?_
  have he:∃ q,h'.get? a=some q:=let ⟨q,_,_,hq,_⟩:=O8;⟨q,hq⟩
  exact oE I (by rw[e];exact Ah) hs he (wx hl hd (rel.put k rv) O8)
 ·subst ey eH
  cases (show u=Value.ref b from ry)
  obtain⟨z,hd,xs,rel,dd⟩:=RO I.BR e
  have hz:xs.length<=sizeLine:=by rw[<- Paired.length rel];exact z
  have hl:(cM kvs k v).length<=sizeLine:=by have:=fR kvs k v;omega
  refine wpAny_setItem_heap (hsz:=hz) (Bv hu) (lA I.BR eb) dd fun h' O8 hs=>h _ ?_
  obtain⟨q,es,ep,hq,h2,h3,h4,_,h5⟩:=O8
  refine oE I (by rw[e];exact Ah) hs ⟨q,hq⟩ ⟨hl,hd,_,(rel.put k eb rv).keeps fun c ys ec=>?_,q,es,ep,hq,h2,h3,h4,h5⟩
  rw[ae (aY ec e (fun z=>nomatch z))]
  exact ec
end
noncomputable def Ow (i:Expr):Prop:=∀ ov iv,subscripted i false ov iv=operate [ov,iv] (getItem ov iv)
theorem wT {prog:Program}{w:World}{A:Around}{E:Value->Shared->Prop}{s:Shared}{env:Env}{value slice:Expr}{pos:Pos}{T id:String}{Q:Value->Shared->Prop}
  (hl:typeLookup (.type T) "__getitem__"=pure (some (.builtin id))) (hs:Ow slice)
  (h:wpAny (model prog w) A (eval value env) (fun o s₁=>wpAny (model prog w) A (eval slice env) (fun i s₂=>s₂.TypeIs o T/\wpAny (model prog w) A (getItem o i) Q E s₂) E s₁) E s):
  wpAny (model prog w) A (eval (.Subscript value slice pos) env) Q E s:=by
 refine Subscript_ (zR h (fun o s₁ h₁=>zR h₁ (fun i s₂ h₂=>?_) fun _ _ x=>x) fun _ _ x=>x)
 obtain⟨hT,h₂⟩:=h₂
 unfold subscriptTail
 refine y9 ?_
 rw[getitemInPython_of_ne hT.not_modules]
 refine y9 (wpAny_specialOf hT hl ?_)
 have fin:wpAny (model prog w) A (subscripted slice false o i) (fun r s₃=>wpAny (model prog w) A (letTemporaryGo value o r >>= fun _=>pure r) Q E s₃) E s₂:=by
  rw[hs o i]
  exact wpAny_operating (zR h₂ (fun r s₃ h₃=>y9 (wpAny_letTemporaryGo (yu h₃))) fun _ _ x=>x)
 first
  | exact yu (y9 fin)
  | exact y9 (yu (y9 fin))
  | exact y9 fin
theorem qI {X:Cx}{pins:List (Addr×Obj)}{σ:St}{H:Hp}{s:Shared}{a:Addr}{y:V}{o:Option V} (I:Inv X pins σ H s) (g:CQ H a y o):s.TypeIs (.ref a) "dict":=by
 rcases g with⟨kvs,k,e,_,_⟩|⟨kvs,k,b,e,_,_,_⟩
 ·obtain⟨_,_,vs,_,dd⟩:=qG I.BR e
  exact dd.typeIs
 ·obtain⟨_,_,xs,_,dd⟩:=qE I.BR e
  exact dd.typeIs
noncomputable def vd (td ty:TE):TE:=fun σ H Q=>td σ H fun x H1=>ty σ H1 fun y H2=>∃ a v,x=.ref a/\CQ H2 a y (some v)/\Q v H2
noncomputable def Uj (ty td:TE):TE:=fun σ H Q=>ty σ H fun y H1=>td σ H1 fun x H2=>∃ a o,x=.ref a/\CQ H2 a y o/\Q (.bl o.isSome) H2
noncomputable def wS (ty td:TE):TE:=fun σ H Q=>ty σ H fun y H1=>td σ H1 fun x H2=>∃ a o,x=.ref a/\CQ H2 a y o/\Q (.bl (!o.isSome)) H2
noncomputable def Ls (td ty tv:TE):TS:=fun D σ H=>tv σ H fun v H1=>td σ H1 fun x H2=>ty σ H2 fun y H3=>∃ a H4,x=.ref a/\F7 H3 a y v H4/\D.nx σ H4
section
variable {X : Cx}{o i e value : Expr}{pos pos' DF : Pos}{td ty tv : TE}
theorem xk (hu:X.A.units+1<cLine)(ho:PE X o td)(hi:PE X i ty)(hs:Ow i):PE X (.Subscript o i pos) (vd td ty):=by
 intro pins s σ H Q I h
 refine wT PySem.F.slot_dict_getitem.lookup hs (Ca (ho pins s σ H _ I h) fun u s1 ⟨x,H1,I1,rx,q1⟩=>Ca (hi pins s1 σ H1 _ I1 q1) fun iv s2 j'=>?_)
 obtain⟨y,H2,I2,ry,a,v,ex,g,q2⟩:=j'
 subst ex
 obtain rfl:u=Value.ref a:=rx
 exact⟨qI I2 g,uU hu I2 g ry fun w' s3 I3 JF=>⟨v,H2,I3,JF,q2⟩⟩
theorem vE (hu:X.A.units+1<cLine)(hi:PE X i ty)(ho:PE X o td):PC X .In i o (Uj ty td):=by
 intro pins s σ H Q I h
 refine Ca (hi pins s σ H _ I h) fun iv s1 ⟨y,H1,I1,ry,q1⟩=>Ca (ho pins s1 σ H1 _ I1 q1) fun u s2 j'=>?_
 obtain⟨x,H2,I2,rx,a,ov,ex,g,q2⟩:=j'
 subst ex
 obtain rfl:u=Value.ref a:=rx
 exact WK hu I2 g ry fun s3 I3=>⟨.bl ov.isSome,H2,I3,rfl,q2⟩
theorem g8 (hu:X.A.units+1<cLine)(hi:PE X i ty)(ho:PE X o td):PC X .NotIn i o (wS ty td):=by
 intro pins s σ H Q I h
 refine Ca (hi pins s σ H _ I h) fun iv s1 ⟨y,H1,I1,ry,q1⟩=>Ca (ho pins s1 σ H1 _ I1 q1) fun u s2 j'=>?_
 obtain⟨x,H2,I2,rx,a,ov,ex,g,q2⟩:=j'
 subst ex
 obtain rfl:u=Value.ref a:=rx
 exact xQ hu I2 g ry fun s3 I3=>⟨.bl (!ov.isSome),H2,I3,rfl,q2⟩
theorem dw (hu:X.A.units+1<cLine)(ho:PE X o td)(hi:PE X i ty)(hv:PE X value tv)(hs:swapsWith value (some (.Subscript o i pos')) pos.line X.env=pure false):
  PS X (.Assign [.Subscript o i pos'] value pos) (Ls td ty tv):=by
 intro pins s σ H D I h
 refine wpAny_Assign_Subscript (Ca (hv pins s σ H _ I h) fun r s1 ⟨v,H1,I1,rv,q1⟩=>Ca (ho pins s1 σ H1 _ I1 q1) fun u s2 ⟨x,H2,I2,rx,q2⟩=>Ca (hi pins s2 σ H2 _ I2 q2) fun iv s3 j'=>?_) hs
 obtain⟨y,H3,I3,ry,a,H4,ex,g,q3⟩:=j'
 subst ex
 obtain rfl:u=Value.ref a:=rx
 exact uT hu I3 g ry rv fun s4 I4=>⟨σ,H4,I4,q3⟩
end
theorem qH {P:Program}{w:World}{H:Hp} (h:Heap) (hb:sysModules<h.objs.size):BN P w H (h.push { cls:=.type "dict",data:=.dict #[] }) h.objs.size (.dK []):=
 ⟨yR _,Ao.mpr (Ne.symm (z9 hb)),[],.nil,Heap.DictOf.new h⟩
noncomputable def Mh:TE:=fun _ H Q=>∀ p,H p=none->Q (.ref p) (upd H p (.dK []))
section
variable {X : Cx}{pos : Pos}
theorem ee:PE X (.Dict [] [] pos) Mh:=fun pins s σ H Q I h=>
 wpAny_Dict_empty ⟨.ref s.heap.objs.size,_,I.laid (a:=s.heap.objs.size) (o:=.dK []) (t':=s.toks) (fun _ _ q=>yd _ q) (yh _) (qH s.heap I.big),rfl,h _ (I.BR.fresh (yh _))⟩
end
noncomputable def rh:List (TE×TE)->St->Hp->(List (V×V)->Hp->Prop)->Prop
 | [],_,H,Q=>Q [] H
 | (tk,tv)::r,σ,H,Q=>tk σ H fun x H1=>tv σ H1 fun y H2=>rh r σ H2 fun ps H3=>Q ((x,y)::ps) H3
noncomputable abbrev VV:List (V×V)->List (Value×Value)->Prop:=Paired fun p q=>RelV p.1 q.1/\RelV p.2 q.2
noncomputable def TX (X:Cx)(pos:Pos)(keys:List (Option Expr))(values:List Expr)(KA:List (TE×TE)):Prop:=
 ∀ (pins:List (Addr×Obj))(s:Shared)(σ:St)(H:Hp)(Q:List (V×V)->Hp->Prop),Inv X pins σ H s->rh KA σ H Q->
  wpAny (model X.prog X.w) X.A (evalPairs (pairTrees keys values X.env pos)) (fun vs s'=>∃ ps H',Inv X pins σ H' s'/\VV ps vs/\Q ps H') X.xe s
theorem xb {X:Cx}{pos:Pos}:TX X pos [] [] []:=fun pins s σ H Q I h=>pairTrees_nil_walk ⟨[],H,I,.nil,h⟩
theorem vt {X:Cx}{pos:Pos}{k v:Expr}{ks:List (Option Expr)}{vs:List Expr}{tk tv:TE}{KA:List (TE×TE)} (hk:PE X k tk) (hv:PE X v tv) (hr:TX X pos ks vs KA):
  TX X pos (some k::ks) (v::vs) ((tk,tv)::KA):=fun pins s σ H Q I h=>
 pairTrees_cons_walk (Ca (hk pins s σ H _ I h) fun u s1 ⟨x,H1,I1,rx,q1⟩=>Ca (hv pins s1 σ H1 _ I1 q1) fun w2 s2 ⟨y,H2,I2,ry,q2⟩=>
  Ca (hr pins s2 σ H2 _ I2 q2) fun ws s3 j'=>(by obtain⟨ps,H3,I3,rel,q3⟩:=j';exact⟨(x,y)::ps,H3,I3,.cons ⟨rx,ry⟩ rel,q3⟩))
noncomputable def dH (kvs more:List (Key×V)):List (Key×V):=more.foldl (fun acc kv=>cM acc kv.1 kv.2) kvs
theorem KV.merge:∀ {more:List (Key×V)}{rs:List (Key×Value)}{kvs:List (Key×V)}{vs:List (Key×Value)},KV more rs->KV kvs vs->KV (dH kvs more) (merged vs rs):=by
 intro more rs kvs vs r
 unfold KV at r
 induction r generalizing kvs vs with
 | nil=>intro q;exact q
 | @cons p q ps qs h t ih=>
  intro r0
  have e:KV (cM kvs p.1 p.2) (stored vs q.1 q.2):=by
   have:=r0.put p.1 h.2
   rw[<- h.1];exact this
  exact ih e
theorem dI:∀ (more kvs:List (Key×V)),(dH kvs more).length<=kvs.length+more.length
 | [],kvs=>by show kvs.length<=kvs.length+0;omega
 | p::r,kvs=>by
  have h1:=dI r (cM kvs p.1 p.2)
  have h2:=fR kvs p.1 p.2
  show (dH (cM kvs p.1 p.2) r).length<=_
  rw[z4];omega
theorem lP {P:Program}{w:World}:∀ {kvs:List (Key×V)}{ws:List (Value×Value)},VV (kvs.map fun kv=>(kV kv.1,kv.2)) ws->∃ rs,Carries (aW P w) ws rs/\KV kvs rs
 | [],_,r=>by rw[zZ]at r;cases r;exact⟨[],Ah,.nil⟩
 | p::kvs,_,r=>by
  rw[yJ]at r
  cases r with
  | @cons a b as bs h t=>
   obtain⟨rs,c,q⟩:=lP (P:=P) (w:=w) t
   obtain⟨b1,b2⟩:=b
   exact⟨(p.1,b2)::rs,⟨lB h.1,rfl,c⟩,.cons ⟨rfl,h.2⟩ q⟩
noncomputable def PK (KA:List (TE×TE)):TE:=fun σ H Q=>∀ p,H p=none->rh KA σ (upd H p (.dK [])) fun ps H2=>H2 p=some (.dK [])/\∃ kvs:List (Key×V),ps=kvs.map (fun kv=>(kV kv.1,kv.2))/\kvs.length<=15/\Q (.ref p) (upd H2 p (.dK (dH [] kvs)))
theorem xj {X:Cx}{pos:Pos}{keys:List (Option Expr)}{values:List Expr}{KA:List (TE×TE)} (h:TX X pos keys values KA) (HH:keys.all (·.isSome)=true) (hl:keys.length=values.length) (h0:keys≠[])
  (Wn:keys.length<=15):PE X (.Dict keys values pos) (PK KA):=by
 intro pins s σ H Q I q
 have hn:=I.BR.fresh (yh s.heap.objs.size)
 have I1:=I.laid (a:=s.heap.objs.size) (o:=.dK []) (h':=s.heap.push { cls:=.type "dict",data:=.dict #[] }) (t':=s.toks) (fun _ _ q=>yd _ q) (yh _) (qH s.heap I.big)
 refine wpAny_Dict_walk (knd:=aW X.prog X.w) HH hl h0 Wn (Ca (h pins _ σ _ _ I1 (q _ hn)) fun ws s2 j'=>?_)
 obtain⟨ps,H2,I2,rel,e,kvs,ep,lk,q2⟩:=j'
 subst ep
 obtain⟨rs,c,rk⟩:=lP (P:=X.prog) (w:=X.w) rel
 obtain⟨z,hd,vs0,r0,dd⟩:=M1 I2.BR e
 cases r0
 refine⟨rs,c,dd,fun h' O8 hs=>⟨.ref s.heap.objs.size,_,?_,rfl,q2⟩⟩
 have hz:(dH [] kvs).length<=sizeLine:=by
  have h1:=dI kvs []
  rw[Bs]at h1
  rw[Ab];omega
 have he:∃ q,h'.get? s.heap.objs.size=some q:=let ⟨q,_,_,hq,_⟩:=O8;⟨q,hq⟩
 exact oE I2 (by rw[e];exact Ah) hs he (wx hz hd (rk.merge .nil) O8)
noncomputable def Fl (h:Heap)(d:Addr)(es:Array DictEntry)(ep:Nat):Prop:=∃ o,h.get? d=some o/\o.ExactDict/\o.data=.dict es ep
theorem Fl.to {h h':Heap}{d:Addr}{es:Array DictEntry}{ep:Nat} (x:Fl h d es ep) (k:∀ o,h.get? d=some o->h'.get? d=some o):Fl h' d es ep:=let ⟨o,a,r⟩:=x;⟨o,k o a,r⟩
section
variable {prog : Program}{w : World}{A : Around}{E : Value -> Shared -> Prop}{s : Shared}{it d : Addr}{es : Array DictEntry}{i n ep : Nat}
theorem Fl.ty (x:Fl s.heap d es ep):s.TypeIs (.ref d) "dict":=let ⟨o,a,c,_⟩:=x;⟨o,a,c.1⟩
theorem vm {Q:Value->Shared->Prop}(hd:(d==sysModules)=false)(x:Fl s.heap d es ep)(hQ:Q (.ref s.heap.objs.size) { s with heap:=s.heap.push { cls:=.type "dict_keyiterator",data:=.fields #[.ref d,.int 0 0,.int es.size 0,.int ep 0] } }):
  wpAny (model prog w) A (pyIter (.ref d)) Q E s:=by
 have T:=x.ty
 obtain⟨o,a,_,b⟩:=x
 refine wpAny_pyIter_slot T F.slot_dict_iter (AK F.slot_dict_iter T F.entry_dict_iter ?_ (F.args_dict_iter_1 _))
 unfold Builtin.«dict.__iter__» Builtin.Dict.dictSlotNone Builtin.Dict.showsAll
 refine y9 (y9 (wpAny_notOrdered_dict T (yu ?_)))
 refine y9 (show wpAny _ _ (pure d:Sem Addr) _ _ s from yu ?_)
 rw[if_neg (by rw[hd];intro z;cases z)]
 refine y9 (yu (y9 (Bx a b (y9 (wpAny_dictEpoch a b (y9 (AG (yu ⟨_,rfl,"dict_keyiterator",_,⟨_,yC _ rfl,rfl⟩,F.slot_dict_keyiterator_next.lookup,?_⟩))))))))
 exact hQ
theorem vn {Q:Option Value->Shared->Prop}(I:s.heap.IsKeyIter it d i es.size ep)(x:Fl s.heap d es ep)(hi:i<es.size)
  (hQ:∀ h',h'.IsKeyIter it d (i+1) es.size ep->Heap.SameBut it s.heap h'->Q (some es[i].key) { s with heap:=h' }):wpAny (model prog w) A (pyNext (.ref it)) Q E s:=by
 have T:=I.typeIs
 obtain⟨u,u1,u2,u3⟩:=id I
 obtain⟨o,a,_,b⟩:=x
 unfold pyNext
 refine y9 (BD (Ap (name:=Str.ofString "__next__") T AD (AK AD T F.entry_dict_keyiterator_next ?_ (F.args_dict_keyiterator_next_1 _))))
 refine y9 (yu (y9 (y9 ?_)))
 refine y9 (Ar T (yu (y9 (wpAny_fieldsOf u1 u3 ?_))))
 simp only[show Builtin.Dict_items.ownsTuple "dict_keyiterator"=false by decide,zE,Aq]
 show wpAny _ _ (if (Value.ref d==Value.none)=true then _ else _) _ _ s;rw[if_neg (fun z=>nomatch z)]
 refine y9 (yu (y9 (Bx a b ?_)))
 rw[if_neg (by simp)];refine y9 (yu (y9 (wpAny_dictEpoch a b ?_)))
 rw[if_neg (by simp)];refine yu ?_
 simp only[show ¬ ((i:Int)<0) by omega,Aq,yZ,zJ hi]
 refine y9 (y9 (Ar T (yu (y9 (wpAny_isOneOf_keyiter T ?_)))))
 show wpAny _ _ (setField (.ref it) 1 (rawInt ((i:Int)+1)) >>= _) _ _ s;refine y9 (wpAny_setField u1 u3 (by simp) ?_)
 have J:(s.heap.update it (Obj.mapFields (·.setIfInBounds 1 (rawInt ((i:Int)+1))))).IsKeyIter it d (i+1) es.size ep:=⟨_,Heap.get?_update_self _ u1 (Obj.isFreed_of_fields (Obj.data_mapFields u3 _)),(Obj.cls_mapFields ..).trans u2,by rw[Obj.data_mapFields u3];simp[rawInt]⟩
 refine y9 (zY (y9 (wpAny_isOneOf_keyiter (s:={ s with heap:=s.heap.update it (Obj.mapFields (·.setIfInBounds 1 (rawInt ((i:Int)+1)))) }) J.typeIs ?_)))
 show wpAny _ _ (pure es[i].key) _ _ _;exact yu (yu ⟨_,rfl,yu (hQ _ J (Ae ..))⟩)
theorem x8 {Q:Option Value->Shared->Prop}(hh:A.handled=none)(I:s.heap.IsKeyIter it d i es.size ep)(x:Fl s.heap d es ep)(hi:es.size<=i)
  (hQ:∀ h',Heap.ExtBut it s.heap h'->Q none { s with heap:=h' }):wpAny (model prog w) A (pyNext (.ref it)) Q E s:=by
 have T:=I.typeIs
 obtain⟨u,u1,u2,u3⟩:=id I
 obtain⟨o,a,_,b⟩:=x
 unfold pyNext
 refine y9 (BD (Ap (name:=Str.ofString "__next__") T AD (AK AD T F.entry_dict_keyiterator_next ?_ (F.args_dict_keyiterator_next_1 _))))
 refine y9 (yu (y9 (y9 ?_)))
 refine y9 (Ar T (yu (y9 (wpAny_fieldsOf u1 u3 ?_))))
 simp only[show Builtin.Dict_items.ownsTuple "dict_keyiterator"=false by decide,zE,Aq]
 show wpAny _ _ (if (Value.ref d==Value.none)=true then _ else _) _ _ s;rw[if_neg (fun z=>nomatch z)]
 refine y9 (yu (y9 (Bx a b ?_)))
 rw[if_neg (by simp)];refine y9 (yu (y9 (wpAny_dictEpoch a b ?_)))
 rw[if_neg (by simp)];refine yu ?_
 simp only[show ¬ ((i:Int)<0) by omega,Aq,yZ,Array.getElem?_eq_none hi]
 refine y9 (y9 (Ar T (yu ?_)))
 show wpAny _ _ (setField (.ref it) 0 .none >>= _) _ _ s;refine y9 (wpAny_setField u1 u3 (by simp) ?_)
 show wpAny _ _ (newExc (.type "StopIteration") [] >>= _) _ _ _;refine y9 ?_
 simp only[newExc,newTuple];refine y9 (AG ?_ (by size_fits))
 refine y9 (m:=firstArgMember _ _) (wpAny_of_eq (a:=Value.none) (by first|rfl|(simp only[firstArgMember];rfl)) (AG ?_ (by size_fits)))
 simp only[raiseNew];refine y9 (wpAny_handled ?_);rw[show A.in1.handled=none from hh]
 refine y9 (yu (wpAny_throw ?_));refine y9 (wpAny_isInstance (T:="StopIteration") (b:=true) ⟨_,yC _ rfl,rfl⟩ isSubtype_stop (yu ?_))
 exact hQ _ (((Ae ..).extBut.push _).push _)
theorem uk (hh:A.handled=none)(I:Addr)(Jc:d≠I):Walks prog w A I [I,d] [I] es.size (fun i v=>(es[i]?).map (·.key)=some v) (fun i h=>h.IsKeyIter I d i es.size ep/\Fl h d es ep) where
 sub:=fun b hb=>by simp at hb;simp[hb]
 frame:=fun _ _ _ st hk=>⟨st.1.at fun o e=>hk I (by simp) o e,st.2.to fun o e=>hk d (by simp) o e⟩
 item:=fun i s Q E hi st hQ=>vn st.1 st.2 hi fun h' J hs=>hQ _ h' s.toks (by rw[zJ hi];rfl) ⟨J,st.2.to fun o e=>hs.extBut d o Jc e⟩ fun b o hb e=>hs.extBut b o (fun h=>hb (by simp[h])) e
 done:=fun s Q E st hQ=>x8 hh st.1 st.2 (yh _) fun h' he=>hQ h' s.toks fun b o hb e=>he b o (fun h=>hb (by simp[h])) e
 self:=fun _ _ _ _ st hQ=>wpAny_pyIter_keyiter st.1 hQ
theorem sU (lo:(d==sysModules)=false):PySem.W.KdlSrc prog w "dict" d d es.size (fun i v=>(es[i]?).map (·.key)=some v) (fun h=>Fl h d es ep) where
 type:=fun _ x=>x.ty
 there:=fun _ j'=>by obtain⟨_,a,_⟩:=j';exact⟨yH a,yH a⟩
 keep:=fun _ _ x hk=>x.to fun o e=>hk d (.inl rfl) o e
 notList:=by decide
 notTuple:=by decide
 hint:=fun _ _ _ _ x hq=>PySem.W.kdl_hint_dict x.ty hq
 iter:=fun _ s hh x=>⟨_,_,(fun _ _ hq=>vm lo x hq),uk (es:=es) (ep:=ep) hh _ (let ⟨_,a,_⟩:=x;z9 (yH a)),⟨⟨_,yC _ rfl,rfl,rfl⟩,x.to fun _ e=>yd _ e⟩⟩
end
section
variable {X : Cx}
theorem mh {prog:Program}{w:World}{d:Addr} (lo:(d==sysModules)=false):MeetsIn prog w (Builtin.«dict.__len__» ⟨[.ref d],[]⟩) (fun _ R s=>∃ es ep,Fl s.heap d es ep/\R (.ok (.ret (.int es.size s.toks))) { s with toks:=s.toks+1 }):=
 .of_wp fun A R s j'=>by
  obtain⟨es,ep,⟨o,a,_,b⟩,h⟩:=j'
  show wpAny _ _ (dictSize d >>= _) _ _ s;unfold dictSize;refine y9 (y9 (Bx a b (yu ?_)))
  show wpAny _ _ (Builtin.Dict.pendingCount d >>= _) _ _ s;refine y9 (wpAny_pendingCount_other lo (wpAny_ret_mkInt ?_))
  rw[Nat.add_zero];exact h
theorem x6 {prog:Program}{w:World}{A:Around}{E:Value->Shared->Prop}{s:Shared}{d:Addr}{es:Array DictEntry}{ep:Nat}{Q:Value->Shared->Prop} (lo:(d==sysModules)=false) (x:Fl s.heap d es ep) (fit:(es.size:Int)<2 ^ 63)
  (h:Q (.int es.size (s.toks+1)) { s with toks:=s.toks+1+1 }):wpAny (model prog w) A (call (.builtin "len") [.ref d]) Q E s:=by
 refine Calls.call_function_entry kind_len plain_len entry_len (args_len1 _) ?_
 unfold Builtin.«len»;refine y9 (m:=oneArg "len" _) (yu ?_)
 refine y9 (m:=callSpecial? (.ref d) (Str.ofString "__len__")) (Ap (name:=Str.ofString "__len__") x.ty F.slot_dict_len (call_meetsIn F.slot_dict_len x.ty F.entry_dict_len (F.args_dict_len_1 _) (mh lo) ⟨es,ep,x,?_⟩))
 show wpAny _ _ _ _ _ { s with toks:=s.toks+1 };refine y9 (zY (yu (y9 (wpAny_letGo ?_))))
 show wpAny _ _ (if ((es.size:Nat):Int)<0 then _ else _) _ _ _;rw[if_neg (by omega)]
 show wpAny _ _ (if ((es.size:Nat):Int) ≥ 2 ^ 63 then _ else _) _ _ _;rw[if_neg (by omega)]
 exact y9 (wpAny_mkInt (yu ⟨_,rfl,h⟩))
end
section
variable {X : Cx}{pins : List (Addr×Obj)}{σ : St}{H : Hp}{s : Shared}{d : Addr}{o : Obj}{kvs : List (Key×V)}
noncomputable def NF (X:Cx)(d:Addr):Prop:=∀ o u,X.H₀ d≠some (.frz o u)
theorem Inv.nf (I:Inv X pins σ H s)(hd:H d=some (.dK kvs)):NF X d:=fun o u z=>by
 have:=I.base.FF d o u z
 rw[hd]at this;cases this
theorem jY {P:Program}{w:World}{h:Heap}{a:Addr}{o u:HO}{H:Hp}{v:HO} (x:BN P w H h a o) (hd:H d=some u) (h1:∀ b,u≠.own b) (h2:∀ xs,u≠.tup xs):BN P w (upd H d v) h a o:=
 x.Fg (fun _ _ _ q=>q) (fun b q=>by rw[ae (fun z=>by rw[z,hd]at q;exact h1 _ (Option.some.inj q))];exact q) fun b xs q=>by rw[ae (fun z=>by rw[z,hd]at q;exact h2 _ (Option.some.inj q))];exact q
theorem Inv.IC {u v:HO}(I:Inv X pins σ H s)(hd:H d=some u)(h1:∀ b,u≠.own b)(h2:∀ xs,u≠.tup xs)(h3:∀ ps,u≠.tbl ps)(h4:∀ o' u',X.H₀ d=some (.frz o' u')->False)(new:BN X.prog X.w (upd H d v) s.heap d v):Inv X pins σ (upd H d v) s where
 ok:=I.ok
 os:=I.os
 bare:=I.bare
 base:=⟨I.base.keep,I.base.slot,fun b ob q n hx=>by rw[ae (fun z=>by have:=I.base.free b ob q n hx;rw[z,hd]at this;cases this)];exact I.base.free b ob q n hx,I.base.there,
  fun b xs q=>by have:=I.base.GB b xs q;rw[ae (fun z=>by rw[z,hd]at this;exact h2 _ (Option.some.inj this))];exact this,
  fun b ob w q=>(ae (fun z:b=d=>h4 ob w (show X.H₀ d=some (.frz ob w) by rw[<- z];exact q))).trans (I.base.FF b ob w q),
  fun b ps q=>by obtain⟨m,e⟩:=I.base.FY b ps q;exact⟨m,by rw[ae (fun z=>by rw[z,hd]at e;exact h3 _ (Option.some.inj e))];exact e⟩⟩
 loc:=I.loc
 cell:=I.cell
 free:=by rw[ae (fun z=>by have:=I.free;rw[z,hd]at this;cases this)];exact I.free
 Dv:=fun x c e=>by rw[ae (fun z=>by have:=I.Dv x c e;rw[z,hd]at this;cases this)];exact I.Dv x c e
 pin:=fun p hp=>by
  obtain⟨a1,a2,a3⟩:=I.pin p hp
  exact⟨a1,by rw[ae (fun z=>by rw[z,hd]at a2;cases a2)];exact a2,a3⟩
 BR:=fun a ob e=>by
  by_cases ha:a=d
  ·subst ha;rw[a9]at e;cases e;exact new
  ·rw[ae ha]at e;exact jY (I.BR a ob e) hd h1 h2
 len:=I.len
theorem Inv.freeze (I:Inv X pins σ H s)(hd:H d=some (.dK kvs))(ho:s.heap.get? d=some o):Inv X pins σ (upd H d (.frz o (.dK kvs))) s:=
 I.IC hd (fun _ z=>nomatch z) (fun _ z=>nomatch z) (fun _ z=>nomatch z) (fun o u z=>I.nf hd o u z) ⟨ho,jY (I.BR d _ hd) hd (fun _ z=>nomatch z) fun _ z=>nomatch z⟩
theorem Inv.He (I:Inv X pins σ H s)(hd:H d=some (.frz o (.dK kvs)))(nf:NF X d):Inv X pins σ (upd H d (.dK kvs)) s:=
 I.IC hd (fun _ z=>nomatch z) (fun _ z=>nomatch z) (fun _ z=>nomatch z) (fun o u z=>nf o u z) (jY (I.BR d _ hd).2 hd (fun _ z=>nomatch z) fun _ z=>nomatch z)
end
noncomputable def WW (o:Obj)(d:Addr):It:=
 ⟨fun i H=>∃ kvs kv,H d=some (.frz o (.dK kvs))/\kvs[i]?=some kv,fun i H x H'=>H'=H/\∀ kvs,H d=some (.frz o (.dK kvs))->∃ kv,kvs[i]?=some kv/\x=kV kv.1,fun i H=>∃ kvs,H d=some (.frz o (.dK kvs))/\kvs.length<=i⟩
noncomputable def WU (o:Obj)(d:Addr):It:=
 ⟨fun i H=>∃ kvs kv,H d=some (.frz o (.dK kvs))/\kvs[i]?=some kv,fun i H x H'=>H'=H/\∀ kvs,H d=some (.frz o (.dK kvs))->∃ kv,kvs[i]?=some kv/\x=kv.2,fun i H=>∃ kvs,H d=some (.frz o (.dK kvs))/\kvs.length<=i⟩
theorem jT {P:Program}{w:World}{k:Key}{u:Value} (h:(aW P w).is k u=true):RelV (kV k) u:=by
 rcases bn (k:=k) (v:=u) h with⟨i,t,rfl,rfl⟩|⟨x,t,rfl,rfl⟩
 ·exact⟨t,rfl⟩
 ·exact⟨t,rfl⟩
section
variable {X : Cx}{pins : List (Addr×Obj)}{σ : St}{H : Hp}{s : Shared}{d : Addr}{o : Obj}{es : Array DictEntry}{ep : Nat}{kvs : List (Key×V)}
theorem Inv.P9 (I:Inv X pins σ H s)(hd:H d=some (.frz o (.dK kvs)))(ed:o.data=.dict es ep):∃ vs,KV kvs vs/\s.heap.DictAt (aW X.prog X.w) d vs ep/\vs.length=es.size:=by
 obtain⟨ho,z,lo,vs,r,ob,Ts,O5,e1,c1,c2,c3,c4,c5⟩:=I.BR d _ hd
 rw[ho]at e1;cases e1
 rw[ed]at c2;cases c2
 refine⟨vs,r,⟨o,es,ho,c1,ed,c3,c4,c5⟩,?_⟩
 have:=c4.length
 rw[<- this];simp
theorem u5 {tg:Expr}{P:Program}{w:World}{K:PySem.W.Frag} (it d:Addr) (o:Obj) {es:Array DictEntry}{ep:Nat} (ed:o.data=.dict es ep):oO P w K tg (WW o d) [it] it (fun i h=>h.IsKeyIter it d i es.size ep) where
 mem:=by simp
 obj:=fun i h st b hb=>by
  have e:b=it:=by simpa using hb
  subst e
  obtain⟨o,e,c,d⟩:=st
  exact⟨o,e,fun v z=>by rw[d]at z;cases z⟩
 keep:=fun i h h' st k=>st.at fun o e=>k it (by simp) o e
 item:=by
  intro X hP hw hK hc i pins s σ H E I hf st hg
  subst hP hw hK
  obtain⟨kvs,kv,hd,hx⟩:=hg
  obtain⟨vs,r,da,hl⟩:=I.P9 hd ed
  obtain⟨f0,f1,f2,f3,f4,f5⟩:=hf it (by simp)
  obtain⟨q,hq,hr⟩:=Paired.at r hx
  rw[<- hl]at st
  refine wpAny_pyNext_dict_item st da (k:=q.1) (v:=q.2) hq fun key h' HZ FT sb=>?_
  have I1:Inv X pins σ H { s with heap:=h' }:=I.turned (t':=s.toks) (fun b o hb e=>(sb.2 b hb).trans e) f0 f1 f3 f4 f5
  obtain⟨o',e',c',d'⟩:=id FT
  rw[hl]at FT
  refine⟨key,rfl,qB (s:={ s with heap:=h' }) e' c' d' (by decide) ⟨kV kv.1,H,I1,?_,⟨rfl,fun ES EL=>?_⟩,FT,fun b hb=>(hf b hb).1⟩⟩
  ·rw[hr.1];exact jT HZ
  ·rw[hd]at EL;cases EL;exact⟨kv,hx,rfl⟩
 done:=by
  intro X hP hw hK hc i pins s σ H E I hf st hg
  subst hP hw hK
  obtain⟨kvs,hd,hx⟩:=hg
  obtain⟨vs,r,da,hl⟩:=I.P9 hd ed
  obtain⟨f0,f1,f2,f3,f4,f5⟩:=hf it (by simp)
  rw[<- hl]at st
  have:=KV.length r
  exact wpAny_pyNext_dict_end (I.ok.hd hc) st da (yp (by omega)) fun h' eb=>⟨rfl,I.turned (t':=s.toks) (fun b o hb e=>eb b o hb e) f0 f1 f3 f4 f5⟩
 self:=fun _ _ _ _ _ st h=>wpAny_pyIter_keyiter st h
theorem u0 {tg:Expr}{P:Program}{w:World}{K:PySem.W.Frag} (it d:Addr) (o:Obj) {es:Array DictEntry}{ep:Nat} (ed:o.data=.dict es ep):oO P w K tg (WU o d) [it] it (fun i h=>h.IsValIter it d i es.size ep) where
 mem:=by simp
 obj:=fun i h st b hb=>by
  have e:b=it:=by simpa using hb
  subst e
  obtain⟨o,e,c,d⟩:=st
  exact⟨o,e,fun v z=>by rw[d]at z;cases z⟩
 keep:=fun i h h' st k=>st.at fun o e=>k it (by simp) o e
 item:=by
  intro X hP hw hK hc i pins s σ H E I hf st hg
  subst hP hw hK
  obtain⟨kvs,kv,hd,hx⟩:=hg
  obtain⟨vs,r,da,hl⟩:=I.P9 hd ed
  obtain⟨f0,f1,f2,f3,f4,f5⟩:=hf it (by simp)
  obtain⟨q,hq,hr⟩:=Paired.at r hx
  rw[<- hl]at st
  refine wpAny_pyNext_values_item st da (k:=q.1) (v:=q.2) hq fun h' FT sb=>?_
  have I1:Inv X pins σ H { s with heap:=h' }:=I.turned (t':=s.toks) (fun b o hb e=>(sb.2 b hb).trans e) f0 f1 f3 f4 f5
  obtain⟨o',e',c',d'⟩:=id FT
  rw[hl]at FT
  refine⟨q.2,rfl,qB (s:={ s with heap:=h' }) e' c' d' (by decide) ⟨kv.2,H,I1,hr.2,⟨rfl,fun ES EL=>?_⟩,FT,fun b hb=>(hf b hb).1⟩⟩
  rw[hd]at EL;cases EL;exact⟨kv,hx,rfl⟩
 done:=by
  intro X hP hw hK hc i pins s σ H E I hf st hg
  subst hP hw hK
  obtain⟨kvs,hd,hx⟩:=hg
  obtain⟨vs,r,da,hl⟩:=I.P9 hd ed
  obtain⟨f0,f1,f2,f3,f4,f5⟩:=hf it (by simp)
  rw[<- hl]at st
  have:=KV.length r
  exact wpAny_pyNext_values_end (I.ok.hd hc) st da (yp (by omega)) fun h' eb=>⟨rfl,I.turned (t':=s.toks) (fun b o hb e=>eb b o hb e) f0 f1 f3 f4 f5⟩
 self:=fun _ _ _ _ _ st h=>wpAny_pyIter_valiter st h
end
section
variable {X : Cx}{tg : Expr}
noncomputable def OP (X:Cx)(J:Obj->Addr->It)(tl:TE):TI:=fun σ H R=>∃ Q:VK,tl σ H Q/\∀ x H1,Q x H1->∃ d kvs,x=.ref d/\H1 d=some (.dK kvs)/\∀ o,NF X d->R (J o d) (upd H1 d (.frz o (.dK kvs)))
theorem i8 {l:Expr}{tl:TE} (hl:PE X l tl):PI X tg l (OP X WW tl):=by
 intro pins s σ H R I h
 obtain⟨Q,hq,h⟩:=h
 refine Ca (hl pins s σ H _ I hq) fun v s1 j'=>?_
 obtain⟨x,H1,I1,r1,q1⟩:=j'
 obtain⟨d,kvs,e,hd,q⟩:=h x H1 q1
 subst e
 cases r1
 obtain⟨z,lo,vs,r,ob,es,ep,ho,c1,c2,c3,c4,c5⟩:=(show BN X.prog X.w H1 s1.heap d (.dK kvs) from I1.BR d _ hd)
 have hsz:vs.length=es.size:=by rw[<- c4.length];simp
 refine wpAny_pyIter_dict (knd:=aW X.prog X.w) lo (kvs:=vs) (ep:=ep) ⟨ob,es,ho,c1,c2,c3,c4,c5⟩ ?_
 rw[hsz]
 have I2:=I1.freeze hd ho
 refine⟨s1.heap.objs.size,[s1.heap.objs.size],_,_,_,rfl,I2.kept (t':=s1.toks) fun b o e=>yd _ e,u5 _ d ob c2,⟨_,yC _ rfl,rfl,rfl⟩,fun b hb=>?_,q ob (I1.nf hd)⟩
 have e:b=s1.heap.objs.size:=by simpa using hb
 subst e
 exact I2.EZ (yh _) (I2.BR.fresh (yh _))
theorem jP {l:Expr}{tl:TE}{apos D8:Pos} (hl:PE X l tl)
  (E6:attributeBase l "values" X.env (eval l X.env)=eval l X.env:=by rfl) (E4:(apos.endLine==D8.line)=true:=by rfl):PI X tg (.Call (.Attribute l "values" apos) [] [] D8) (OP X WU tl):=by
 intro pins s σ H R I h
 obtain⟨Q,hq,h⟩:=h
 refine wpAny_Call_method0_late E6 E4 (Ca (hl pins s σ H _ I hq) fun v s1 j'=>?_)
 obtain⟨x,H1,I1,r1,q1⟩:=j'
 obtain⟨d,kvs,e,hd,q⟩:=h x H1 q1
 subst e
 cases r1
 obtain⟨z,lo,vs,r,ob,es,ep,ho,c1,c2,c3,c4,c5⟩:=(show BN X.prog X.w H1 s1.heap d (.dK kvs) from I1.BR d _ hd)
 have hsz:vs.length=es.size:=by rw[<- c4.length];simp
 have da:s1.heap.DictAt (aW X.prog X.w) d vs ep:=⟨ob,es,ho,c1,c2,c3,c4,c5⟩
 refine⟨"dict","dict.values",F.plainAttrs_dict,F.slot_dict_values,F.type_dict_values,da.dictOf.typeIs,fun a e2=>?_,Bc rfl (PySem.evalArgs_none ?_)⟩
 ·cases e2
  exact⟨ob,ho,c1.2.1⟩
 refine call_meetsIn F.slot_dict_values da.dictOf.typeIs F.entry_dict_values (F.args_dict_values_1 _) (meets_dict_values (aW X.prog X.w) d lo) ⟨⟨vs,da.dictOf⟩,?_⟩
 have I2:=(I1.freeze hd ho).kept (t':=s1.toks) (h':=s1.heap.push { cls:=.type "dict_values",data:=.fields #[.ref d] }) fun b o e=>yd _ e
 show wpAny _ _ _ _ _ { s1 with heap:=s1.heap.push { cls:=.type "dict_values",data:=.fields #[.ref d] } }
 refine wpAny_pyIter_values (s:={ s1 with heap:=s1.heap.push { cls:=.type "dict_values",data:=.fields #[.ref d] } }) ⟨_,yC _ rfl,rfl,rfl⟩ (da.push _) ?_
 rw[hsz]
 refine⟨_,[(s1.heap.push { cls:=.type "dict_values",data:=.fields #[.ref d] }).objs.size],_,_,_,rfl,I2.kept (t':=s1.toks) fun b o e=>yd _ e,u0 _ d ob c2,⟨_,yC _ rfl,rfl,rfl⟩,fun b hb=>?_,q ob (I1.nf hd)⟩
 have e:b=(s1.heap.push { cls:=.type "dict_values",data:=.fields #[.ref d] }).objs.size:=by simpa using hb
 subst e
 exact I2.EZ (yh _) (I2.BR.fresh (yh _))
noncomputable def n9 (N:Addr->Prop)(D:gW):gW where
 nx:=fun σ H=>∃ d o kvs,N d/\H d=some (.frz o (.dK kvs))/\D.nx σ (upd H d (.dK kvs))
 rt:=fun v H=>∃ d o kvs,N d/\H d=some (.frz o (.dK kvs))/\D.rt v (upd H d (.dK kvs))
 bk:=fun σ H=>∃ d o kvs,N d/\H d=some (.frz o (.dK kvs))/\D.bk σ (upd H d (.dK kvs))
 ct:=fun σ H=>∃ d o kvs,N d/\H d=some (.frz o (.dK kvs))/\D.ct σ (upd H d (.dK kvs))
noncomputable def PF (J:Obj->Addr->It)(tl:TE)(g:TG)(tb:TS):TS:=fun D σ H=>tl σ H fun x H1=>∃ d kvs,x=.ref d/\H1 d=some (.dK kvs)/\∀ (o:Obj)(N:Addr->Prop),N d->
 ∃ W:Nat->Nat->St->Hp->Prop,(∃ m,W 0 m σ (upd H1 d (.frz o (.dK kvs))))/\∀ i m σ H,W i m σ H->
  ((J o d).stop i H/\(n9 N D).nx σ H)\/((J o d).go i H/\∃ M:St->Hp->Prop,(∀ σ' H',M σ' H'->∃ m',m'<m/\W (i+1) m' σ' H')/\∀ x H',(J o d).Ky i H x H'->g x σ H' fun σ2 H2=>tb { n9 N D with nx:=M,ct:=M,bk:=(n9 N D).nx } σ2 H2)
theorem SP.He {pins:List (Addr×Obj)}{D:gW}{f:Flow}{s:Shared} (h:SP X pins (n9 (NF X) D) f s):SP X pins D f s:=by
 cases f with
 | next=>obtain⟨σ,H,I,d,o,kvs,nf,e,q⟩:=h;exact⟨σ,_,I.He e nf,q⟩
 | brk=>obtain⟨σ,H,I,d,o,kvs,nf,e,q⟩:=h;exact⟨σ,_,I.He e nf,q⟩
 | cont=>obtain⟨σ,H,I,d,o,kvs,nf,e,q⟩:=h;exact⟨σ,_,I.He e nf,q⟩
 | ret v=>obtain⟨x,σ,H,I,r,d,o,kvs,nf,e,q⟩:=h;exact⟨x,σ,_,I.He e nf,r,q⟩
theorem jO {J:Obj->Addr->It}{iter:Expr}{body:List Stmt}{tl:TE}{g:TG}{tb:TS}{pos:Pos} (hp:PassesOwn (model X.prog X.w) X.A X.env X.xe) (hc:X.calm=true) (hi:PI X tg iter (OP X J tl)) (hg:PG X tg g) (hb:GA X body tb)
  (hs:∀ x,foldedSetIterable iter X.env x=pure x:=by intro _;rfl):PS X (.For tg iter body [] pos) (PF J tl g tb):=by
 intro pins s σ H D I h
 exact Ca (bi hp hc hi hg hb hs pins s σ H (n9 (NF X) D) I ⟨_,h,fun x H1 j'=>(by obtain⟨d,kvs,e,hd,r⟩:=j';exact⟨d,kvs,e,hd,fun o nf=>r o _ nf⟩)⟩) fun f s' q=>SP.He q
variable {elt iter : Expr}{ifs : List Expr}{scope : Scope}{pos : Pos}{nT : Nat}{js : List Nat}{N' : List Str}{g : TG}{tt : TT}{te : TE}
noncomputable def ve (J:Obj->Addr->It)(tl:TE)(nT:Nat)(js:List Nat)(g:TG)(tt:TT)(te:TE):TE:=fun σ H Q=>tl σ H fun x H1=>∃ d kvs,x=.ref d/\H1 d=some (.dK kvs)/\∀ (o:Obj)(N:Addr->Prop),N d->
 bh nT js g tt te σ (fun l H'=>∃ d o kvs,N d/\H' d=some (.frz o (.dK kvs))/\Q (.ref l) (upd H' d (.dK kvs))) (J o d) (upd H1 d (.frz o (.dK kvs)))
theorem fJ {J:Obj->Addr->It}{tl:TE} (hc:X.calm=true) (S:bO X scope nT js N') (hi:PI X tg iter (OP X J tl))
  (hg:∀ cells C s H fp,PG (aH X scope N' cells C s H fp) tg g) (ht:∀ cells C s H fp,oQ (aH X scope N' cells C s H fp) ifs tt) (he:∀ cells C s H fp,PE (aH X scope N' cells C s H fp) elt te)
  (hs:∀ x,foldedSetIterable iter X.env x=pure x:=by intro _;rfl):PE X (.ListComp elt [⟨tg,iter,ifs,0⟩] scope pos) (ve J tl nT js g tt te):=by
 intro pins s σ H Q I h
 refine Ca (aV hc S hi hg ht he hs pins s σ H (fun v H'=>∃ d o kvs,NF X d/\H' d=some (.frz o (.dK kvs))/\Q v (upd H' d (.dK kvs))) I ⟨_,h,fun x H1 j'=>(by obtain⟨d,kvs,e,hd,r⟩:=j';exact⟨d,kvs,e,hd,fun o nf=>r o _ nf⟩)⟩) fun u s' j'=>by obtain⟨v,H',I',r',d,o,kvs,nf,e,q⟩:=j';exact⟨v,_,I'.He e nf,r',q⟩
end
theorem wL {xs:List V}:∀ {us:List Value},xs.length=us.length->(∀ (j:Nat)(x:V)(u:Value),xs[j]?=some x->us[j]?=some u->RelV x u)->Vals xs us:=by
 induction xs with
 | nil=>intro us hl h;cases us with
  | nil=>exact .nil
  | cons u us=>cases hl
 | cons x xs ih=>intro us hl h;cases us with
  | nil=>cases hl
  | cons u us=>exact .cons (h 0 x u rfl rfl) (ih (by simpa using hl) fun j y v hy hv=>h (j+1) y v (by simpa using hy) (by simpa using hv))
noncomputable def sgn (x:Str)(i:Nat):Str:=⟨#[x.cps.getD i 0]⟩
noncomputable def WV (x:Str):It:=⟨fun i _=>i<x.cps.size,fun i H v H'=>H'=H/\v=.str (sgn x i),fun i _=>i=x.cps.size⟩
theorem oV {tg:Expr}{P:Program}{w:World}{K:PySem.W.Frag} (it:Addr) (x:Str) (t:Tok) (ty:String) (KL:["enumerate","zip","dict_itemiterator","dict_reverseitemiterator","odict_iterator","itertools.zip_longest","itertools.pairwise"].contains ty=false)
  (W:∀ A:Around,A.handled=none->Walks P w A it [it] [it] x.cps.size (SignAt x) (fun i h=>h.IsStrIter it ty x t i))
  (QR:∀ (A:Around)(i:Nat)(s:Shared)(Q:Value->Shared->Prop)(E:Value->Shared->Prop),s.heap.IsStrIter it ty x t i->Q (.ref it) s->wpAny (model P w) A (pyIter (.ref it)) Q E s):oO P w K tg (WV x) [it] it (fun i h=>h.IsStrIter it ty x t i) where
 mem:=by simp
 obj:=fun i h st b hb=>by
  have e:b=it:=by simpa using hb
  subst e
  obtain⟨o,e,c,d⟩:=st
  exact⟨o,e,fun v z=>by rw[d]at z;cases z⟩
 keep:=fun i h h' st k=>by
  obtain⟨o,e,r⟩:=st
  exact⟨o,k it (by simp) o e,r⟩
 item:=by
  intro X hP hw hK hc i pins s σ H E I hf st hg
  subst hP hw hK
  obtain⟨f0,f1,f2,f3,f4,f5⟩:=hf it (by simp)
  refine (W X.A (I.ok.hd hc)).item i s _ _ hg st fun v h' tk hv FT kk=>?_
  obtain⟨c,u,hcx,rfl⟩:=hv
  have I1:Inv X pins σ H { s with heap:=h',toks:=tk }:=I.turned (fun b o hb e=>kk b o (by simpa using hb) e) f0 f1 f3 f4 f5
  obtain⟨o',e',c',d'⟩:=id FT
  refine⟨_,rfl,qB (s:={ s with heap:=h',toks:=tk }) e' c' d' KL ⟨.str (sgn x i),H,I1,⟨u,?_⟩,⟨rfl,rfl⟩,FT,fun b hb=>(hf b hb).1⟩⟩
  unfold sgn
  rw[Array.getD_eq_getD_getElem?,hcx]
  rfl
 done:=by
  intro X hP hw hK hc i pins s σ H E I hf st hg
  subst hP hw hK
  obtain⟨f0,f1,f2,f3,f4,f5⟩:=hf it (by simp)
  have hi:i=x.cps.size:=hg
  subst hi
  exact (W X.A (I.ok.hd hc)).done s _ _ st fun h' tk kk=>⟨rfl,I.turned (t':=tk) (fun b o hb e=>kk b o (by simpa using hb) e) f0 f1 f3 f4 f5⟩
 self:=fun A i s Q E st h=>QR A i s Q E st h
section
variable {X : Cx}{tg : Expr}
noncomputable def Vd (tl:TE):TI:=fun σ H R=>tl σ H fun v H1=>∃ x,v=.str x/\R (WV x) H1
theorem MA {l:Expr}{tl:TE} (hl:PE X l tl):PI X tg l (Vd tl):=by
 intro pins s σ H R I h
 refine Ca (hl pins s σ H _ I h) fun v s1 j'=>?_
 obtain⟨z,H1,I1,r1,q1⟩:=j'
 obtain⟨x,rfl,q⟩:=q1
 obtain⟨t,rfl⟩:=r1
 have fp:∀ (b:Addr),b∈[s1.heap.objs.size]->ja X pins H1 b:=fun b hb=>by
  have e:b=s1.heap.objs.size:=by simpa using hb
  subst e
  exact I1.EZ (yh _) (I1.BR.fresh (yh _))
 cases ha:x.cps.all (·<128)
 ·refine wpAny_pyIter_wide ha ?_
  exact⟨s1.heap.objs.size,[s1.heap.objs.size],_,_,H1,rfl,I1.kept (t':=s1.toks) fun b o e=>yd _ e,oV _ x t "str_iterator" (by decide) (fun A' hA=>Walks.strWide hA _ x t) (fun A i s Q E st h=>wpAny_pyIter_striter_wide st h),⟨_,yC _ rfl,rfl,rfl⟩,fp,q⟩
 ·refine wpAny_pyIter_ascii ha ?_
  exact⟨s1.heap.objs.size,[s1.heap.objs.size],_,_,H1,rfl,I1.kept (t':=s1.toks) fun b o e=>yd _ e,oV _ x t "str_ascii_iterator" (by decide) (fun A' hA=>Walks.strAscii hA _ x t) (fun A i s Q E st h=>wpAny_pyIter_striter_ascii st h),⟨_,yC _ rfl,rfl,rfl⟩,fp,q⟩
theorem v1 {bs:List Bool}:(List.range bs.length).all (fun i=>bs.getD i true)=bs.all id:=by
 rw[zr]
 simp only[zF,zz]
 constructor
 ·intro h b hb
  obtain⟨i,hi,rfl⟩:=zp hb
  have:=h i hi
  rwa [yc,y8 hi]at this
 ·intro h i hi
  rw[yc,y8 hi]
  exact h _ (zm hi)
theorem j7 (K:PySem.W.Frag)(hc:X.calm=true)(hK:X.K=K:=by rfl):CM X (.builtin "all") (fun xs H Q=>∃ (p:Addr)(bs:List Bool),xs=[.ref p]/\B' K H p (bs.map V.bl)/\Q (.bl (bs.all id)) H):=by
 subst hK
 intro pins s σ H xs us Q I r h
 obtain⟨p,bs,rfl,hq,q⟩:=h
 obtain⟨u,rfl,r1⟩:=dP r
 cases r1
 obtain⟨its,rv,pl,hz⟩:=I.list hq
 have hlen:its.length=bs.length:=by have:=rv.length;rw[y6]at this;omega
 have hpn:p≠s.heap.objs.size:=by
  obtain⟨_,_,e,_⟩:=pl
  exact z9 (yH e)
 refine call_all_walk ?_
 refine AF pl.isList ?_
 refine⟨s.heap.objs.size,[s.heap.objs.size,p],[s.heap.objs.size],its.toArray.size,_,_,fun i=>bs.getD i true,rfl,Walks.list (A:=X.A.in1) (I.ok.hd hc) _ p hpn its.toArray,⟨⟨_,yC _ rfl,rfl,rfl⟩,pl.isList.push _⟩,fun i v s' Q' E' hv hQ=>?_,fun h' tk hk=>?_⟩
 ·have hv:its[i]?=some v:=by simpa using hv
  have hi:i<bs.length:=by rw[<- hlen];exact (yb.mp hv).1
  have hb:(bs.map V.bl)[i]?=some (V.bl bs[i]):=by rw[ye,y8 hi];rfl
  obtain⟨w1,e1,r1⟩:=rv.get hb
  rw[hv]at e1;cases e1
  obtain rfl:v=Value.bool bs[i]:=r1
  dsimp only at hQ
  rw[yc,y8 hi]at hQ
  exact Ac hQ
 ·have e:its.toArray.size=bs.length:=by simp[hlen]
  rw[e,v1]
  refine⟨.bl (bs.all id),H,I.kept (t':=tk) fun b o e=>hk b o (fun z=>?_) (yd _ e),rfl,q⟩
  have z':b=s.heap.objs.size:=by simpa using z
  exact absurd (yH e) (by rw[z'];exact zu _)
theorem oJ (hc:X.calm=true):CM X (.type "list") (fun xs H Q=>∃ d kvs,xs=[.ref d]/\H d=some (.dK kvs)/\Ge H (.lst (kvs.map fun kv=>kV kv.1)) Q):=by
 intro pins s σ H xs us Q I r h
 obtain⟨d,kvs,rfl,hd,q⟩:=h
 obtain⟨u,rfl,rx⟩:=dP r
 cases rx
 obtain⟨z,lo,vs,rel,o,es,ep,ho,hx,JY,hk,hp,Yi⟩:=(show BN X.prog X.w H s.heap d (.dK kvs) from I.BR d _ hd)
 have hl:es.size=vs.length:=by rw[<- hp.length];simp
 have Nz:=KV.length rel
 refine PySem.W.kdl_call (sU lo) (I.ok.hd hc) ⟨o,ho,hx,JY⟩ (by rw[hl,<- Nz];exact z) fun h' tk acc c keep GH FE=>?_
 have Nq:Vals (kvs.map fun kv=>kV kv.1) acc.toList:=by
  refine wL (by have h1:=FE.1;rw[<- zK]at h1;rw[y6,h1,hl,Nz]) fun j x u' hx hu=>?_
  rw[ye]at hx
  obtain⟨kv,La,rfl⟩:=yX.mp hx
  obtain⟨q',Gq,CI⟩:=Paired.at rel La
  have hj:j<es.size:=by rw[hl];exact (yb.mp Gq).1
  have h1:(es[j]?).map (·.key)=some u':=FE.2 j u' (by rw[<- Ai];exact hu)
  rw[zJ hj]at h1
  have h2:=(Pairs.get? hp (e:=es[j]) (k:=q'.1) (v:=q'.2) (by rw[Ai,zJ hj]) Gq).1
  have:es[j].key=u':=Option.some.inj h1
  rw[<- this,CI.1]
  exact jT h2
 refine⟨.ref s.heap.objs.size,_,I.laid (t':=tk) keep (yh _) (show BN X.prog X.w _ h' _ (.lst (kvs.map fun kv=>kV kv.1)) from ⟨by rw[y6];exact z,acc.toList,c,Nq,?_⟩),rfl,q.at (I.BR.fresh (yh _))⟩
 simpa using GH
theorem fX:CM X (.builtin "len") (fun xs H Q=>∃ d kvs,xs=[.ref d]/\H d=some (.dK kvs)/\Q (.int kvs.length) H):=by
 intro pins s σ H xs us Q I r h
 obtain⟨d,kvs,rfl,hd,q⟩:=h
 obtain⟨u,rfl,rx⟩:=dP r
 cases rx
 obtain⟨z,lo,vs,rel,o,es,ep,ho,hx,JY,hk,hp,Yi⟩:=(show BN X.prog X.w H s.heap d (.dK kvs) from I.BR d _ hd)
 have hl:es.size=kvs.length:=by rw[KV.length rel,<- hp.length];simp
 refine x6 lo ⟨o,ho,hx,JY⟩ (by rw[hl];have:kvs.length<=2 ^ 24:=z;omega) ?_
 rw[hl]
 exact⟨.int kvs.length,H,I.tok _,⟨_,rfl⟩,q⟩
variable {k : Nat}{C : Addr}{ps : List Str}{sp : Sp}{x m : Str}{p pos apos : Pos}{o : Expr}{ta : TE}
theorem bo {pl:Sem Bool}(he:PE X o ta)(D:Dm X.prog X.w X.K X.mg X.base k C m ps sp)(hr:Ck k X.A)
  (ht:eval (.Call (.Attribute o m apos) [] [] pos) X.env=(do
   let ov <- eval o X.env
   standAt apos.atName
   let (f,first) <- holding [ov] (getMethod ov m pl)
   callWith pos f first (backTo pos (starEach [] X.env)) (backToKw pos (keywordEach [] X.env))):=by rfl):
  PE X (.Call (.Attribute o m apos) [] [] pos) (mx C m sp [] E0 ta lX):=by
 obtain⟨f,fd,cl,hm,b,F⟩:=D
 exact vA he cl hm F hr b .nil jk ht
theorem ut (D:Dk X.prog X.w X.K X.mg X.base k x C ps sp)(hr:Ck (k+1) X.A)(hg:Gl X x)(Gw:(x==("__debug__":Str))=false:=by decide):
  PE X (.Call (.Name x p) [] [] pos) (sM C sp [] E0 lX):=by
 obtain⟨f,fd,hm,M,b,F⟩:=D
 exact vB M F hr hg hm b .nil jk Gw
noncomputable def Mg (Cs:Addr->Prop)(m:Str)(sp:Addr->Sp)(ta:TE):TE:=fun σ H Q=>ta σ H fun x H1=>∃ a C dx fs,x=.ref a/\Cs C/\H1 a=some (.ins C dx fs)/\fs.lookup m=none/\sp C [x] H1 Q E0
theorem g7 {pl:Sem Bool}{Cs:Addr->Prop}{sp:Addr->Sp} (he:PE X o ta) (D:∀ C,Cs C->Dm X.prog X.w X.K X.mg X.base k C m ps (sp C)) (hr:Ck k X.A)
  (ht:eval (.Call (.Attribute o m apos) [] [] pos) X.env=(do
   let ov <- eval o X.env
   standAt apos.atName
   let (f,first) <- holding [ov] (getMethod ov m pl)
   callWith pos f first (backTo pos (starEach [] X.env)) (backToKw pos (keywordEach [] X.env))):=by rfl):
  PE X (.Call (.Attribute o m apos) [] [] pos) (Mg Cs m sp ta):=by
 intro pins s σ H Q I h
 refine PySem.W.methodCall_KW (pl:=pl) (Ca (he pins s σ H _ I h) fun u s1 j'=>?_) ht
 obtain⟨x,H1,I1,rx,a,C,dx,fs,ex,hC,ea,l,q⟩:=j'
 subst ex
 obtain rfl:u=Value.ref a:=rx
 obtain⟨f,fd,cl,hm,b,F⟩:=D C hC
 refine gQ I1 ea cl hm l ?_
 exact PySem.W.callWith_K0 (first:=[.ref a]) I1.ET hm.kp (nS (us:=[.ref a]) (vs:=[.ref a]) (dvs:=[]) F hr b .nil jk I1 (.cons rfl .nil) q)
end
noncomputable def Lg (pr:Key×V->V)(o:Obj)(d:Addr):It:=
 ⟨fun i H=>∃ kvs kv,H d=some (.frz o (.dK kvs))/\kvs[i]?=some kv,fun i H x H'=>H'=H/\∀ kvs,H d=some (.frz o (.dK kvs))->∃ kv,kvs[i]?=some kv/\x=pr kv,fun i H=>∃ kvs,H d=some (.frz o (.dK kvs))/\kvs.length<=i⟩
theorem su:WW=Lg fun kv=>kV kv.1:=rfl
theorem sr:WU=Lg (·.2):=rfl
theorem ce {H H':Hp}{d:Addr}{o:Obj}{kvs:List (Key×V)} (hd:H d=some (.dK kvs)) (e:f' (upd H d (.frz o (.dK kvs))) H'):f' H (upd H' d (.dK kvs)):=fun b u hb=>by
 by_cases z:b=d
 ·subst z;rw[hd]at hb;cases hb;exact a9
 ·rw[ae z]
  exact e b u (by rw[ae z];exact hb)
theorem mw {H:Hp}{d:Addr}{o:HO}{kvs:List (Key×V)} (hd:H d=some (.dK kvs)):upd (upd H d o) d (.dK kvs)=H:=by
 funext b
 unfold upd
 by_cases z:b=d
 ·subst z;rw[if_pos rfl,hd]
 ·rw[if_neg z,if_neg z]
section
variable {pr : Key×V -> V}{o : Obj}{d : Addr}{kvs : List (Key×V)}
theorem ip {g:TG}{tb:TS}{D:gW}{σ:St}{H:Hp} (Pv:Nat->St->Hp->Prop) (h0:Pv 0 σ H) (hl:∀ i σ H,i<=kvs.length->Pv i σ H->H d=some (.frz o (.dK kvs)))
  (hs:∀ (i:Nat)(kv:Key×V) σ H,kvs[i]?=some kv->Pv i σ H->g (pr kv) σ H fun σ2 H2=>tb { D with nx:=Pv (i+1),ct:=Pv (i+1),bk:=D.nx } σ2 H2) (hd:∀ σ H,Pv kvs.length σ H->D.nx σ H):
  ∃ W:Nat->Nat->St->Hp->Prop,(∃ m,W 0 m σ H)/\∀ i m σ H,W i m σ H->
   ((Lg pr o d).stop i H/\D.nx σ H)\/((Lg pr o d).go i H/\∃ N:St->Hp->Prop,(∀ σ' H',N σ' H'->∃ m',m'<m/\W (i+1) m' σ' H')/\∀ x H',(Lg pr o d).Ky i H x H'->g x σ H' fun σ2 H2=>tb { D with nx:=N,ct:=N,bk:=D.nx } σ2 H2):=by
 refine⟨fun i m σ H=>m=kvs.length - i/\i<=kvs.length/\Pv i σ H,⟨kvs.length,by simp,yR _,h0⟩,?_⟩
 rintro i m σ H ⟨rfl,hi,p⟩
 have q:=hl i σ H hi p
 by_cases BU:i<kvs.length
 ·refine .inr ⟨⟨kvs,kvs[i],q,by simp[BU]⟩,Pv (i+1),fun σ' H' p'=>⟨kvs.length - (i+1),by omega,rfl,BU,p'⟩,fun x H' y=>?_⟩
  obtain⟨rfl,y⟩:=y
  obtain⟨kv,e1,rfl⟩:=y kvs q
  exact hs i kv σ H' e1 p
 ·have e:i=kvs.length:=by omega
  subst e
  exact .inl ⟨⟨kvs,q,yh _⟩,hd σ H p⟩
variable {js : List Nat}{tt : TT}{te : TE}{σ : St}{F : Addr -> Hp -> Prop}{H : Hp}
theorem bV {α:Type}(keep:Nat->Bool)(g:Nat->α)(i:Nat):((List.range (i+1)).filter keep).map g=((List.range i).filter keep).map g++(if keep i=true then [g i] else []):=by
 rw[Ak,AV,yN]
 by_cases c:keep i=true
 ·simp[c]
 ·simp[c]
theorem eX {α:Type}(keep:Nat->Bool)(g:Nat->α)(i:Nat):(((List.range i).filter keep).map g).length<=i:=by
 rw[y6]
 exact yV (zj _ _) (by rw[zi];exact yh _)
theorem lN (keep:Nat->Bool)(g:Nat->V)(HQ:H d=some (.frz o (.dK kvs)))(hz:kvs.length<=1000)
  (hs:∀ (i:Nat)(kv:Key×V) H2,kvs[i]?=some kv->f' H H2->tt (some (pr kv)::bD σ js) H2 fun b H4=>if b=true then te (some (pr kv)::bD σ js) H4 fun v H5=>keep i=true/\v=g i/\f' H2 H5 else keep i=false/\f' H2 H4)
  (hd:∀ l H',H l=none->f' H H'->H' l=some (.lst (((List.range kvs.length).filter keep).map g))->F l H'):bh 1 js (aO 0) tt te σ F (Lg pr o d) H:=by
 intro l BX
 refine⟨fun i m σ' H2=>m=kvs.length - i/\i<=kvs.length/\(∃ o,σ'=o::bD σ js)/\f' H H2/\H2 l=some (.lst (((List.range i).filter keep).map g)),⟨kvs.length,by simp,yR _,⟨none,rfl⟩,aq (f'.refl _) BX,a9⟩,?_⟩
 rintro i m σ' H2 ⟨rfl,hi,⟨o',rfl⟩,e,hl⟩
 have q:=e _ _ HQ
 by_cases BU:i<kvs.length
 ·refine .inr ⟨⟨kvs,kvs[i],q,by simp[BU]⟩,fun x H3 y=>?_⟩
  obtain⟨rfl,y⟩:=y
  obtain⟨kv,e1,rfl⟩:=y kvs q
  refine⟨fun H4=>keep i=false/\f' H3 H4,fun v H5=>keep i=true/\v=g i/\f' H3 H5,fun H4 ⟨k4,e4⟩=>⟨_,?_,rfl,BU,⟨_,rfl⟩,e.trans e4,?_⟩,fun v H5 j'=>?_,hs i kv H3 e1 e⟩
  ·omega
  ·rw[bV,k4];simpa using e4 _ _ hl
  ·obtain⟨k5,ev,e5⟩:=j'
   subst ev
   refine⟨_,e5 _ _ hl,yP (eX keep g i) (yG BU (yV hz (by decide))),_,?_,rfl,BU,⟨_,rfl⟩,ar (e.trans e5) BX,?_⟩
   ·omega
   ·rw[a9,bV,k5];rfl
 ·have ei:i=kvs.length:=by omega
  subst ei
  exact .inl ⟨⟨kvs,q,yh _⟩,hd l H2 BX e hl⟩
theorem eZ {K:PySem.W.Frag}{a:Addr}{xs:List V} (keep:Nat->Bool) (g:Nat->V) (ha:H a=some (.lst xs)) (hz:xs.length<=1000)
  (hs:∀ (i:Nat)(x:V) H2,xs[i]?=some x->f' H H2->tt (some x::bD σ js) H2 fun b H4=>if b=true then te (some x::bD σ js) H4 fun v H5=>keep i=true/\v=g i/\f' H2 H5 else keep i=false/\f' H2 H4)
  (hd:∀ l H',H l=none->f' H H'->H' l=some (.lst (((List.range xs.length).filter keep).map g))->F l H'):bh 1 js (aO 0) tt te σ F (Il K a) H:=by
 intro l BX
 refine⟨fun i m σ' H2=>m=xs.length - i/\i<=xs.length/\(∃ o,σ'=o::bD σ js)/\f' H H2/\H2 l=some (.lst (((List.range i).filter keep).map g)),⟨xs.length,by simp,yR _,⟨none,rfl⟩,aq (f'.refl _) BX,a9⟩,?_⟩
 rintro i m σ' H2 ⟨rfl,hi,⟨o',rfl⟩,e,hl⟩
 have q:B' K H2 a xs:=B'.of (e _ _ ha)
 by_cases BU:i<xs.length
 ·refine .inr ⟨⟨xs,xs[i],q,by simp[BU]⟩,fun x H3 y=>?_⟩
  obtain⟨rfl,y⟩:=y
  refine⟨fun H4=>keep i=false/\f' H3 H4,fun v H5=>keep i=true/\v=g i/\f' H3 H5,fun H4 ⟨k4,e4⟩=>⟨_,?_,rfl,BU,⟨_,rfl⟩,e.trans e4,?_⟩,fun v H5 j'=>?_,hs i x H3 (y xs q) e⟩
  ·omega
  ·rw[bV,k4];simpa using e4 _ _ hl
  ·obtain⟨k5,ev,e5⟩:=j'
   subst ev
   refine⟨_,e5 _ _ hl,yP (eX keep g i) (yG BU (yV hz (by decide))),_,?_,rfl,BU,⟨_,rfl⟩,ar (e.trans e5) BX,?_⟩
   ·omega
   ·rw[a9,bV,k5];rfl
 ·have ei:i=xs.length:=by omega
  subst ei
  exact .inl ⟨⟨xs,q,yh _⟩,hd l H2 BX e hl⟩
theorem dX {α β:Type}(xs:List α)(keep:α->Bool)(g:α->β)(kp:Nat->Bool)(gi:Nat->β)(h:∀ (i:Nat)(x:α),xs[i]?=some x->kp i=keep x/\gi i=g x):
  ((List.range xs.length).filter kp).map gi=(xs.filter keep).map g:=by
 have:∀ n,n<=xs.length->((List.range n).filter kp).map gi=((xs.take n).filter keep).map g:=by
  intro n
  induction n with
  | zero=>intro _;rfl
  | succ n ih=>
   intro hn
   have hx:xs[n]?=some xs[n]:=y8 (by omega)
   obtain⟨h1,h2⟩:=h n _ hx
   rw[bV,ih (by omega),z6,hx,AV,yN,h1]
   congr 1
   by_cases c:keep xs[n]=true
   ·simp[c,h2]
   ·simp[c]
 rw[this _ (yh _),zy (yh _)]
end
noncomputable abbrev G4 (K:PySem.W.Frag):TG:=mr K 4 (cm (aO 0) (cm (aO 1) (cm (aO 2) (cm (aO 3) ox))))
section
variable {K : PySem.W.Frag}{js : List Nat}{tt : TT}{te : TE}{σ : St}{F : Addr -> Hp -> Prop}{H : Hp}
theorem jD {a:Addr}{xs:List V} (keep:Nat->Bool) (g:Nat->V) (ha:H a=some (.lst xs)) (hz:xs.length<=1000)
  (hf:∀ (i:Nat)(x:V),xs[i]?=some x->∃ p x1 x2 x3 x4,x=.ref p/\H p=some (.tup [x1,x2,x3,x4]))
  (hs:∀ (i:Nat)(p:Addr)(x1 x2 x3 x4:V) H2,xs[i]?=some (.ref p)->H p=some (.tup [x1,x2,x3,x4])->f' H H2->tt (some x1::some x2::some x3::some x4::bD σ js) H2 fun b H4=>
   if b=true then te (some x1::some x2::some x3::some x4::bD σ js) H4 fun v H5=>keep i=true/\v=g i/\f' H2 H5 else keep i=false/\f' H2 H4)
  (hd:∀ l H',H l=none->f' H H'->H' l=some (.lst (((List.range xs.length).filter keep).map g))->F l H'):bh 4 js (G4 K) tt te σ F (Il K a) H:=by
 intro l BX
 refine⟨fun i m σ' H2=>m=xs.length - i/\i<=xs.length/\(∃ o1 o2 o3 o4,σ'=o1::o2::o3::o4::bD σ js)/\f' H H2/\H2 l=some (.lst (((List.range i).filter keep).map g)),⟨xs.length,by simp,yR _,⟨none,none,none,none,rfl⟩,aq (f'.refl _) BX,a9⟩,?_⟩
 rintro i m σ' H2 ⟨rfl,hi,⟨o1,o2,o3,o4,rfl⟩,e,hl⟩
 have q:B' K H2 a xs:=B'.of (e _ _ ha)
 by_cases BU:i<xs.length
 ·refine .inr ⟨⟨xs,xs[i],q,by simp[BU]⟩,fun x H3 y=>?_⟩
  obtain⟨rfl,y⟩:=y
  have ex:=y xs q
  obtain⟨p,x1,x2,x3,x4,rfl,hp⟩:=hf i x ex
  refine⟨p,[x1,x2,x3,x4],rfl,CT.of (e _ _ hp),rfl,x1,[x2,x3,x4],rfl,x2,[x3,x4],rfl,x3,[x4],rfl,x4,[],rfl,rfl,?_⟩
  refine⟨fun H4=>keep i=false/\f' H3 H4,fun v H5=>keep i=true/\v=g i/\f' H3 H5,fun H4 ⟨k4,e4⟩=>⟨_,?_,rfl,BU,⟨_,_,_,_,rfl⟩,e.trans e4,?_⟩,fun v H5 j'=>?_,hs i p x1 x2 x3 x4 H3 ex hp e⟩
  ·omega
  ·rw[bV,k4];simpa using e4 _ _ hl
  ·obtain⟨k5,ev,e5⟩:=j'
   subst ev
   refine⟨_,e5 _ _ hl,yP (eX keep g i) (yG BU (yV hz (by decide))),_,?_,rfl,BU,⟨_,_,_,_,rfl⟩,ar (e.trans e5) BX,?_⟩
   ·omega
   ·rw[a9,bV,k5];rfl
 ·have ei:i=xs.length:=by omega
  subst ei
  exact .inl ⟨⟨xs,q,yh _⟩,hd l H2 BX e hl⟩
theorem qP {o:Obj}{d:Addr}{kvs:List (Key×V)} (Pz:Nat->Hp->V->Prop) (mono:∀ i H H' v,f' H H'->Pz i H v->Pz i H' v) (HQ:H d=some (.frz o (.dK kvs))) (hz:kvs.length<=1000)
  (hf:∀ (i:Nat)(kv:Key×V),kvs[i]?=some kv->∃ p x1 x2 x3 x4,kv.2=.ref p/\H p=some (.tup [x1,x2,x3,x4]))
  (hs:∀ (i:Nat)(kv:Key×V)(p:Addr)(x1 x2 x3 x4:V) H2,kvs[i]?=some kv->kv.2=.ref p->H p=some (.tup [x1,x2,x3,x4])->f' H H2->te (some x1::some x2::some x3::some x4::bD σ js) H2 fun v H5=>Pz i H5 v/\f' H2 H5)
  (hd:∀ l H' vs,H l=none->f' H H'->H' l=some (.lst vs)->vs.length=kvs.length->(∀ (i:Nat) v,vs[i]?=some v->Pz i H' v/\v≠.ref l)->F l H') (Jc:∀ i H v l,Pz i H v->(∃ ys,H l=some (.lst ys))->v≠.ref l) (LH:∀ i H v l ys,Pz i H v->v≠.ref l->Pz i (upd H l (.lst ys)) v):bh 4 js (G4 K) fh te σ F (Lg (·.2) o d) H:=by
 intro l BX
 refine⟨fun i m σ' H2=>m=kvs.length - i/\i<=kvs.length/\(∃ o1 o2 o3 o4,σ'=o1::o2::o3::o4::bD σ js)/\f' H H2/\∃ vs,H2 l=some (.lst vs)/\vs.length=i/\∀ (j:Nat) v,vs[j]?=some v->Pz j H2 v/\v≠.ref l,⟨kvs.length,by simp,yR _,⟨none,none,none,none,rfl⟩,aq (f'.refl _) BX,[],a9,rfl,fun j v z=>by simp at z⟩,?_⟩
 rintro i m σ' H2 ⟨rfl,hi,⟨o1,o2,o3,o4,rfl⟩,e,vs,hl,vl,hv⟩
 have q:=e _ _ HQ
 by_cases BU:i<kvs.length
 ·refine .inr ⟨⟨kvs,kvs[i],q,by simp[BU]⟩,fun x H3 y=>?_⟩
  obtain⟨rfl,y⟩:=y
  obtain⟨kv,e1,rfl⟩:=y kvs q
  obtain⟨p,x1,x2,x3,x4,ep,hp⟩:=hf i kv e1
  refine⟨p,[x1,x2,x3,x4],ep,CT.of (e _ _ hp),rfl,x1,[x2,x3,x4],rfl,x2,[x3,x4],rfl,x3,[x4],rfl,x4,[],rfl,rfl,?_⟩
  refine⟨fun _=>False,fun v H5=>Pz i H5 v/\f' H3 H5,fun H4 z=>z.elim,fun v H5 j'=>?_,hs i kv p x1 x2 x3 x4 H3 e1 ep hp e⟩
  obtain⟨p5,e5⟩:=j'
  refine⟨vs,e5 _ _ hl,by rw[vl];exact yG BU (yV hz (by decide)),_,?_,rfl,BU,⟨_,_,_,_,rfl⟩,ar (e.trans e5) BX,vs++[v],a9,by simp[vl],fun j u hu=>?_⟩
  ·omega
  ·by_cases hj:j<vs.length
   ·rw[yU hj]at hu
    obtain⟨a1,a2⟩:=hv j u hu
    exact⟨LH _ _ _ _ _ (mono _ _ _ _ e5 a1) a2,a2⟩
   ·rw[yT (by omega)]at hu
    have h0:j - vs.length=0:=by
     have:=(yb.mp hu).1
     simp at this
     omega
    rw[h0]at hu
    have:u=v:=by simpa using hu.symm
    subst this
    have ji:j=i:=by omega
    subst ji
    have nv:=Jc _ _ _ l p5 ⟨_,e5 _ _ hl⟩
    exact⟨LH _ _ _ _ _ p5 nv,nv⟩
 ·have ei:i=kvs.length:=by omega
  subst ei
  exact .inl ⟨⟨kvs,q,yh _⟩,hd l H2 vs BX e hl vl hv⟩
end
structure F0 (K : PySem.W.Frag) (x qual : Str) (st : Stmt) (f : Addr) (fd : FuncData) : Prop where
  ex : ∃ (oc : Value) (od : Option Addr) (dV kV doc pm : Value) (an : Option Addr) (BJ ct : Value) (DS : Array (Option Value)),
    fd = PySem.W.fnOf x qual (bf st) (aR st) (af st) dV kV doc pm an BJ ct /\ K.lookup f = some ⟨oc, od, .func fd, DS⟩ /\ PySem.W.codeIn K BJ qual = true
  kp : PySem.W.keepIn K (.ref f) = true
noncomputable def Sa (K:PySem.W.Frag)(a:Addr):It:=
 ⟨fun i H=>∃ xs x,B' K H a xs/\xs[i]?=some x,fun i H v H'=>∃ T,H T=none/\v=.ref T/\∃ x,(∀ xs,B' K H a xs->xs[i]?=some x)/\H'=upd H T (.tup [.int i,x]),fun i H=>∃ xs,B' K H a xs/\xs.length<=i⟩
noncomputable def U8 (e it a:Addr)(i:Nat)(h:Heap):Prop:=(∃ old,IsEnum h e it i old)/\h.IsListIter it a i
theorem u6 {P:Program}{w:World}{K:PySem.W.Frag}{elts:List Expr}{x1:Nat}{DF:Pos} (a e it:Addr) (ne:e≠it):oO P w K (.Tuple elts x1 DF) (Sa K a) [e,it] e (U8 e it a) where
 mem:=by simp
 obj:=fun i h st c hc=>by
  obtain⟨⟨old,h1⟩,⟨o2,e2,c2,d2⟩⟩:=st
  simp only[yx,yB,zS]at hc
  rcases hc with rfl|rfl
  ·exact⟨_,h1,fun v z=>by cases z⟩
  ·exact⟨_,e2,fun v z=>by rw[d2]at z;cases z⟩
 keep:=fun i h h' st k=>by
  obtain⟨⟨old,h1⟩,h2⟩:=st
  exact⟨⟨old,k e (by simp) _ h1⟩,h2.at fun o z=>k it (by simp) o z⟩
 item:=by
  intro X hP hw hK hc i pins s σ H E I hf st hg
  subst hP hw hK
  obtain⟨xs,x,hx,ex⟩:=hg
  obtain⟨⟨old,h1⟩,h2⟩:=st
  obtain⟨its,rv,p,hz⟩:=I.list hx
  obtain⟨w1,RG,r1⟩:=rv.get ex
  refine wpAny_pyNext_enum_item h1 h2 p.isList (x:=w1) (by simpa using RG) ne fun h' a1 a2 a3 a4 a5=>?_
  refine⟨_,rfl,wpAny_letOwnedTupleGo_enum (s:={ s with heap:=h',toks:=s.toks+1 }) a1 fun Ic b1 sb=>?_⟩
  have hT:H s.heap.objs.size=none:=I.BR.fresh (yh _)
  have JB:∀ c∈[e,it],c≠s.heap.objs.size:=fun c hc z=>by
   have:∃ o,s.heap.get? c=some o:=by
    simp only[yx,yB,zS]at hc
    obtain⟨o2,e2,_⟩:=h2
    rcases hc with rfl|rfl
    ·exact⟨_,h1⟩
    ·exact⟨_,e2⟩
   obtain⟨o,q⟩:=this
   exact absurd (yH q) (by rw[z];exact zu _)
  have kk:∀ c o,c∉[e,it]->s.heap.get? c=some o->Ic.get? c=some o:=fun c o hc z=>by
   simp only[yx,yB,zS,not_or]at hc
   exact sb.extBut _ _ hc.1 (a5 c o hc.1 hc.2 z)
  have I1:Inv X pins σ H { s with heap:=Ic,toks:=s.toks+1 }:=I.DE (t':=s.toks+1) (ch:=[e,it]) hf kk
  have I2:Inv X pins σ (upd H s.heap.objs.size (.tup [.int i,x])) { s with heap:=Ic,toks:=s.toks+1 }:=by
   refine I1.Hc (I.EZ (yh _) hT) I.sz ⟨by show 2<=sizeLine;decide,[.int i s.toks,w1],.cons ⟨_,rfl⟩ (.cons r1 .nil),?_⟩
   exact⟨_,sb.extBut _ _ (Ne.symm (JB e (by simp))) a3,rfl,_,rfl⟩
  refine⟨.ref s.heap.objs.size,_,I2,rfl,⟨_,hT,rfl,x,fun X3 DT=>by rw[I.Dn DT hx];exact ex,rfl⟩,⟨⟨w1,?_⟩,?_⟩,fun c hc=>?_⟩
  ·simpa using b1
  ·exact a2.extBut sb.extBut (Ne.symm ne)
  ·rw[ae (JB c hc)]
   exact (hf c hc).1
 done:=by
  intro X hP hw hK hc i pins s σ H E I hf st hg
  subst hP hw hK
  obtain⟨xs,hx,hl⟩:=hg
  obtain⟨⟨old,h1⟩,h2⟩:=st
  obtain⟨its,rv,p,hz⟩:=I.list hx
  have l1:=rv.length
  refine wpAny_pyNext_enum_end (I.ok.hd hc) h1 h2 p.isList (by simp;omega) fun h' kk=>⟨rfl,I.DE (t':=s.toks) (ch:=[e,it]) hf fun c o hc z=>?_⟩
  simp only[yx,yB,zS,not_or]at hc
  exact kk c o hc.2 z
 self:=fun _ _ _ _ _ st h=>wpAny_pyIter_enum st.1.choose_spec h
theorem lR:bootBuiltins "enumerate"=some (.type "enumerate"):=by decide +kernel
noncomputable def QB (K:PySem.W.Frag)(ta:TA):TI:=fun σ H R=>ta σ H fun vs H1=>∃ a xs,vs=[.ref a]/\H1 a=some (.lst xs)/\R (Sa K a) H1
theorem xg {X:Cx}(K:PySem.W.Frag){elts:List Expr}{x1:Nat}{DF:Pos}{e1:Expr}{ta:TA}{p pos:Pos} (hg:Gl X "enumerate") (hm:X.mg "enumerate"=none) (ha:PA X [e1] ta) (hK:X.K=K:=by rfl)
  (hs:starEach [e1] X.env=[(false,eval e1 X.env)]:=by rfl):PI X (.Tuple elts x1 DF) (.Call (.Name "enumerate" p) [e1] [] pos) (QB K ta):=by
 subst hK
 intro pins s σ H R I h
 refine Call_ (dL I hg hm lR (zC (Ca (ha pos pins s σ H _ I h) fun us s1 j'=>?_) hs rfl))
 obtain⟨vs,H1,I1,r1,q1⟩:=j'
 obtain⟨a,xs,rfl,hx,q⟩:=q1
 obtain⟨u,rfl,ru⟩:=dP r1
 cases ru
 obtain⟨its,n,rv,ho,hz⟩:=I1.lst hx
 refine call_enumerate_1 ho fun h' a1 a2 a3 a4=>wpAny_pyIter_enum a1 ?_
 have I2:Inv X pins σ H1 { s1 with heap:=h' }:=I1.kept (t':=s1.toks) a4
 refine⟨_,[s1.heap.objs.size+1,s1.heap.objs.size],_,_,H1,rfl,I2,u6 a _ _ (Af (Bg _)),⟨⟨_,a1⟩,a2⟩,fun c hc=>?_,q⟩
 have le:@LE.le Nat _ s1.heap.objs.size c:=by
  simp only[yx,yB,zS]at hc
  rcases hc with rfl|rfl
  ·exact Nat.le_succ _
  ·exact yh _
 exact I1.EZ (H':=H1) (b:=c) le (I1.BR.fresh le)
theorem wg {K:PySem.W.Frag}{a:Addr}{xs:List V}{i1 i2:Nat}{tb:TS}{D:gW}{σ:St}{H:Hp} (Pv:Nat->St->Hp->Prop) (h0:Pv 0 σ H) (hl:∀ i σ H,i<=xs.length->Pv i σ H->B' K H a xs)
  (hs:∀ (i:Nat)(x:V)(T:Addr) σ H,xs[i]?=some x->Pv i σ H->H T=none->tb { D with nx:=Pv (i+1),ct:=Pv (i+1),bk:=D.nx } ((σ.set i1 (some (.int i))).set i2 (some x)) (upd H T (.tup [.int i,x]))) (hd:∀ σ H,Pv xs.length σ H->D.nx σ H):
  ∃ W:Nat->Nat->St->Hp->Prop,(∃ m,W 0 m σ H)/\∀ i m σ H,W i m σ H->
   ((Sa K a).stop i H/\D.nx σ H)\/((Sa K a).go i H/\∃ N:St->Hp->Prop,(∀ σ' H',N σ' H'->∃ m',m'<m/\W (i+1) m' σ' H')/\∀ x H',(Sa K a).Ky i H x H'->mr K 2 (cm (aO i1) (cm (aO i2) ox)) x σ H' fun σ2 H2=>tb { D with nx:=N,ct:=N,bk:=D.nx } σ2 H2):=by
 refine⟨fun i m σ H=>m=xs.length - i/\i<=xs.length/\Pv i σ H,⟨xs.length,by simp,yR _,h0⟩,?_⟩
 rintro i m σ H ⟨rfl,hi,p⟩
 have q:=hl i σ H hi p
 by_cases BU:i<xs.length
 ·refine .inr ⟨⟨xs,xs[i],q,by simp[BU]⟩,Pv (i+1),fun σ' H' p'=>⟨xs.length - (i+1),by omega,rfl,BU,p'⟩,fun v H' y=>?_⟩
  obtain⟨T,hT,rfl,x,ex,rfl⟩:=y
  exact⟨T,[.int i,x],rfl,CT.of a9,rfl,_,[x],rfl,_,[],rfl,rfl,hs i x T σ H (ex xs q) p hT⟩
 ·have e:i=xs.length:=by omega
  subst e
  exact .inl ⟨⟨xs,q,yh _⟩,hd σ H p⟩
noncomputable def isA:Hp->V->Key->Prop:=fun _ x k=>x=kV k
theorem tF (k:Key):ff (kV k)=true:=by cases k <;> rfl
theorem O4 (a b:Key):IX (kV a) (kV b)=decide (a=b):=by
 cases a with
 | inl a=>cases b with
  | inl b=>show (a==b)=_;rw[zr];simp
  | inr b=>exact (yq (fun z=>nomatch z)).symm
 | inr a=>cases b with
  | inl b=>exact (yq (fun z=>nomatch z)).symm
  | inr b=>show (a==b)=_;rw[zr];simp
theorem IW {K:PySem.W.Frag}:OC K isA 0 where
 eq:=by
  intro X A pins s σ H x y v u a b _ I rx ry ha hb _
  cases ha
  cases hb
  rw[<- O4]
  exact wt rx ry (tF a) (tF b)
 fn:=by
  intro X pins s σ H x a b _ I ha hb
  unfold isA at ha hb
  rw[ha]at hb
  exact Nk hb
theorem rG {α β:Type}{xs:List α}{d:α}{f:α->β}:(List.range xs.length).map (fun i=>f (xs.getD i d))=xs.map f:=by
 apply zq
 intro i
 rw[ye,ye]
 by_cases h:i<xs.length
 ·rw[z8 h,y8 h]
  simp only[Az,yc,y8 h,Option.getD_some]
 ·rw[yp (by simpa using h),yp (by omega)]
  rfl
section
variable {K : PySem.W.Frag}{js : List Nat}{te : TE}{σ : St}{F : Addr -> Hp -> Prop}{H : Hp}
theorem gS {a:Addr}{xs:List V} (g:Nat->V) (ha:H a=some (.lst xs)) (hz:xs.length<=1000)
  (hs:∀ (i:Nat)(x:V) H2,xs[i]?=some x->f' H H2->te (some x::bD σ js) H2 fun v H5=>v=g i/\f' H2 H5)
  (hd:∀ l H',H l=none->f' H H'->H' l=some (.lst ((List.range xs.length).map g))->F l H'):bh 1 js (aO 0) fh te σ F (Il K a) H:=by
 intro l BX
 refine⟨fun i m σ' H2=>m=xs.length - i/\i<=xs.length/\(∃ o,σ'=o::bD σ js)/\f' H H2/\H2 l=some (.lst ((List.range i).map g)),⟨xs.length,by simp,yR _,⟨none,rfl⟩,aq (f'.refl _) BX,a9⟩,?_⟩
 rintro i m σ' H2 ⟨rfl,hi,⟨o',rfl⟩,e,hl⟩
 have q:B' K H2 a xs:=B'.of (e _ _ ha)
 by_cases BU:i<xs.length
 ·refine .inr ⟨⟨xs,xs[i],q,by simp[BU]⟩,fun x H3 y=>?_⟩
  obtain⟨rfl,y⟩:=y
  refine⟨fun H4=>False,fun v H5=>v=g i/\f' H3 H5,fun H4 z=>z.elim,fun v H5 j'=>?_,hs i x H3 (y xs q) e⟩
  obtain⟨ev,e5⟩:=j'
  subst ev
  refine⟨_,e5 _ _ hl,by simp only[y6,zi];exact yG BU (yV hz (by decide)),_,?_,rfl,BU,⟨_,rfl⟩,ar (e.trans e5) BX,?_⟩
  ·omega
  ·rw[a9,Ak,yN];rfl
 ·have ei:i=xs.length:=by omega
  subst ei
  exact .inl ⟨⟨xs,q,yh _⟩,hd l H2 BX e hl⟩
end
end L2
namespace L2
open PySem
theorem oq:typeLookup (.type "list") "keys"=pure none:=by rw[typeLookup_type,builtinLookup_eq_fast];kernel_rfl
theorem jy:entryFor table "dict.update.loop"=some Builtin.«dict.update.loop»:=entryFor_of_tree (by kernel_rfl)
section
variable {prog : Program}{w : World}{A : Around}{E : Value -> Shared -> Prop}{s : Shared}{a : Addr}
theorem uK {xs:Array Value}{k:Nat}{sl:Array (Option Value)}{Q:Option Value->Shared->Prop} (hx:s.heap.get? a=some ⟨.type "list",none,.seq xs k,sl⟩) (hA:A.handled=none)
  (h:∀ h' tk e,Heap.NewExcOf s.heap h' e "AttributeError"->Q none { s with heap:=h',toks:=tk }):wpAny (model prog w) A (getAttr? (.ref a) "keys") Q E s:=by
 obtain⟨hp,g,d,tk,os⟩:=s
 have hT:∀ X8,(⟨hp,g,d,X8,os⟩:Shared).TypeIs (.ref a) "list":=fun _=>⟨_,hx,rfl⟩
 have f1:=sub_AttributeError
 have f3:=F.slot_list_getattribute.lookup
 have f4:=F.slot_list_getattribute.bind (.ref a)
 have f5:=am_list_getattr_none
 unfold getAttr? getAttrBy? getAttrBy
 repeat (any_goals (first|assumption|exact hT _|((with_reducible show wpAny _ _ (call (Value.builtin "list.__getattribute__") _ _) _ _ _);refine call_meets F.slot_list_getattribute (hT _) am_entry_list_getattribute (F.args_list_getattribute_2 _ _) (meets_getattribute_miss_list a xs k sl "keys" _ oq (by decide) (by size_fits)) ⟨hx,hA,fun h' X8 e DT=>?_⟩)|wp_step))
 obtain⟨t',u',he⟩:=DT.there
 show wpAny _ _ (getattributeRaised _ _ _ _ _ _ _) _ _ _
 unfold getattributeRaised
 repeat (any_goals (first|assumption|wp_step))
 exact h _ _ _ DT.of
end
section
variable {prog : Program}{w : World}{κ : Type} [DecidableEq κ] {knd : KeyKind prog w κ}
noncomputable def tX (knd:KeyKind prog w κ)(h:Heap)(items:Array Value)(ps:List (κ×Value)):Prop:=items.size=ps.length/\∀ (i:Nat) x p,items[i]?=some x->ps[i]?=some p->∃ t u,x=.ref t/\h.IsTuple t #[u,p.2]/\knd.is p.1 u=true
theorem si {it l d:Addr}{items:Array Value}{ps:List (κ×Value)}{A:Around} (hh:A.handled=none) (JT:ps.length<=1000) (VZ:d≠l) (Jr:it≠l) (W3:d≠it) (R:Result->Shared->Prop):
  ∀ (n i:Nat)(s:Shared),n=ps.length - i->i<=ps.length->s.heap.IsListIter it l i->s.heap.IsList l items->tX knd s.heap items ps->s.heap.DictOf knd d (merged [] (ps.take i))->
   (∀ h' tk,h'.DictOf knd d (merged [] ps)->(∀ b o,b≠d->b≠it->s.heap.get? b=some o->h'.get? b=some o)->R (.ok (.ret .none)) { s with heap:=h',toks:=tk })->
   codeAny (model prog w) A (.builtin "dict.update.loop" ⟨[.ref d,.ref it,rawInt i,.none],[]⟩) R s:=by
 intro n
 induction n with
 | zero=>
  intro i s hn hi hit hl hp hd h
  have ei:i=ps.length:=by omega
  refine codeAny_builtin jy ?_
  unfold Builtin.«dict.update.loop»
  show wpAny _ _ (pyNext (.ref it) >>= _) _ _ _
  refine y9 (wpAny_pyNext_list_end hh hit hl (Array.getElem?_eq_none (by rw[hp.1];omega)) fun h' ext=>?_)
  show wpAny _ _ (Builtin.Dict.addKeywords d [] >>= _) _ _ _
  obtain⟨o,es,ep,ho,r⟩:=hd
  refine y9 (yu (yu (h h' _ ⟨o,es,ep,ext d o W3 ho,by rw[ei,zh]at r;exact r⟩ fun b o Rv Jd hb=>ext b o Jd hb)))
 | succ n ih=>
  intro i s hn hi hit hl hp hd h
  have BU:i<ps.length:=by omega
  obtain⟨p,ep⟩:∃ p,ps[i]?=some p:=⟨_,y8 BU⟩
  obtain⟨x,ex⟩:∃ x,items[i]?=some x:=⟨_,zJ (by rw[hp.1];exact BU)⟩
  obtain⟨t,u,rfl,ht,hk⟩:=hp.2 i x p ex ep
  refine codeAny_builtin jy ?_
  unfold Builtin.«dict.update.loop»
  show wpAny _ _ (pyNext (.ref it) >>= _) _ _ _
  have neT:∀ t' v',s.heap.IsTuple t' v'->t'≠it/\t'≠d:=fun t' v' j'=>by
   obtain⟨o',FV,_,n',EL⟩:=j'
   obtain⟨oi,VB,_,W2⟩:=hit
   obtain⟨od,es,ep,hod,_,Rq,_⟩:=hd
   constructor
   ·intro z
    rw[z,VB]at FV
    cases FV
    rw[W2]at EL
    cases EL
   ·intro z
    rw[z,hod]at FV
    cases FV
    rw[Rq]at EL
    cases EL
  refine y9 (wpAny_pyNext_list_item hit hl ex fun h1 VP ZL=>?_)
  have IK:∀ b o,b≠it->s.heap.get? b=some o->h1.get? b=some o:=fun b o hb e=>(ZL.2 b hb).trans e
  have Pl:∀ t' v',s.heap.IsTuple t' v'->h1.IsTuple t' v':=fun t' v' z=>by
   obtain⟨o',FV,r'⟩:=id z
   exact⟨o',IK t' o' (neT t' v' z).1 FV,r'⟩
  have NN:h1.DictOf knd d (merged [] (ps.take i)):=by
   obtain⟨o,es,ep,ho,r⟩:=hd
   exact⟨o,es,ep,IK d o W3 ho,r⟩
  have DU:h1.IsList l items:=by
   obtain⟨o,ho,r⟩:=hl
   exact⟨o,IK l o Jr.symm ho,r⟩
  obtain⟨ot,Ye,KS,nt,hdt⟩:=Pl t _ ht
  show wpAny _ _ (holding [.ref t] _ >>= _) _ _ _
  refine y9 (zY (y9 (wpAny_tryCatch ?_)))
  unfold Builtin.Dict.pairItems
  refine y9 (wpAny_typeOf (T:="tuple") ⟨ot,Ye,KS⟩ ?_)
  rw[if_pos (by decide)]
  refine y9 (AH Ye hdt (yu ?_))
  show wpAny _ _ (holding [u,p.2] (dictSet d u p.2)) _ _ _
  have hml:(merged [] (ps.take i)).length<=sizeLine:=by
   have h1:=merged_length_le ([]:List (κ×Value)) (ps.take i)
   rw[yM]at h1
   have h2:sizeLine=2 ^ 24:=rfl
   simp only[Bs]at h1
   omega
  refine zY (wpAny_dictSet_pairs (hsz:=hml) hk NN fun h2 hd2 Uq=>?_)
  have IJ:∀ b o,b≠d->h1.get? b=some o->h2.get? b=some o:=fun b o hb e=>(Uq.2 b hb).trans e
  refine yu ⟨Code.quiet_builtin _ (by decide +kernel),?_⟩
  refine ih (i+1) { s with heap:=h2,toks:=s.toks+1 } (by omega) (by omega) ?_ ?_ ⟨hp.1,fun j x' p' h3 h4=>?_⟩ ?_ fun h' tk h3 h4=>h h' tk h3 fun b o Rv Jd hb=>h4 b o Rv Jd (IJ b o Rv (IK b o Jd hb))
  ·obtain⟨oi,VB,r⟩:=VP
   exact⟨oi,IJ it oi W3.symm VB,r⟩
  ·obtain⟨ol,OT,r⟩:=DU
   exact⟨ol,IJ l ol VZ.symm OT,r⟩
  ·obtain⟨t',u',e',SW,IU⟩:=hp.2 j x' p' h3 h4
   obtain⟨o',FV,r'⟩:=Pl t' _ SW
   exact⟨t',u',e',⟨o',IJ t' o' (neT t' _ SW).2 FV,r'⟩,IU⟩
  ·rw[merged_take_succ _ _ i p ep]
   exact hd2
theorem sG {A:Around}{E:Value->Shared->Prop}{s:Shared}{l:Addr}{items:Array Value}{n:Nat}{sl:Array (Option Value)}{ps:List (κ×Value)}{Q:Value->Shared->Prop} (hh:A.handled=none) (hl:s.heap.get? l=some ⟨.type "list",none,.seq items n,sl⟩) (hp:tX knd s.heap items ps) (JT:ps.length<=1000)
  (h:∀ h' tk,h'.DictOf knd s.heap.objs.size (merged [] ps)->(∀ b o,s.heap.get? b=some o->h'.get? b=some o)->Q (.ref s.heap.objs.size) { s with heap:=h',toks:=tk }):
  wpAny (model prog w) A (call (.type "dict") [.ref l]) Q E s:=by
 refine callType_codes (Q₁:=fun obj s₁=>obj=.ref s.heap.objs.size/\s₁={ s with heap:=s.heap.push { cls:=.type "dict",data:=.dict #[] } }) F.kt_called_dict (F.kt_typeCall_dict_1 _) F.entry_dict_init (kt_code_dict_new _ ⟨rfl,rfl⟩) ?_
 rintro obj s₁ ⟨rfl,rfl⟩
 have GH:(s.heap.push { cls:=.type "dict",data:=.dict #[] }).DictOf knd s.heap.objs.size []:=Heap.DictOf.new s.heap
 have EK:=yd (h:=s.heap) { cls:=.type "dict",data:=.dict #[] } hl
 refine⟨GH.typeIs,F.args_dict_init_2 _ _,?_⟩
 unfold Builtin.«dict.__init__»
 refine y9 ?_
 unfold Builtin.Dict.selfAndRest
 refine y9 (wpAny_notOrdered_dict GH.typeIs ?_)
 show wpAny _ _ (pure (s.heap.objs.size,[Value.ref l])) _ _ _
 refine yu ?_
 show wpAny _ _ (Builtin.Dict.updateFrom "dict.__init__" s.heap.objs.size (.ref l) [] .none) _ _ _
 unfold Builtin.Dict.updateFrom
 refine y9 (wpAny_typeOf (T:="list") ⟨_,EK,rfl⟩ ?_)
 rw[if_pos (by decide)]
 refine y9 (uK EK hh fun h1 X7 e1 ne1=>?_)
 rw[if_pos (show (none:Option Value).isNone=true from rfl)]
 have Hy:∀ b o,s.heap.get? b=some o->h1.get? b=some o:=fun b o e=>ne1.keeps b o (yd _ e)
 have DU:h1.IsList l items:=⟨_,Hy _ _ hl,rfl,n,rfl⟩
 refine y9 (wpAny_rule ?_)
 refine y9 (AF (s:={ s with heap:=h1,toks:=X7 }) DU ?_)
 refine yu ⟨Code.quiet_builtin _ (by decide +kernel),?_⟩
 have kp:∀ b o,h1.get? b=some o->(h1.push { cls:=.type "list_iterator",data:=.fields #[.ref l,.int 0 0] }).get? b=some o:=fun b o e=>yd _ e
 have NN:h1.DictOf knd s.heap.objs.size []:=by
  obtain⟨o,es,ep,ho,r⟩:=GH
  exact⟨o,es,ep,ne1.keeps _ _ ho,r⟩
 have nl:s.heap.objs.size≠l:=Af (yH hl)
 have lt1:s.heap.objs.size<h1.objs.size:=by
  obtain⟨o,es,ep,ho,r⟩:=NN
  exact yH ho
 refine si (A:=A.in1) (knd:=knd) hh JT nl (Af (yH (Hy _ _ hl))) (z9 lt1) _ ps.length 0 { s with heap:=h1.push { cls:=.type "list_iterator",data:=.fields #[.ref l,.int 0 0] },toks:=X7 } (by omega) (yR _) ⟨_,yC _ rfl,rfl,rfl⟩ ?_ ⟨hp.1,fun i x p h3 h4=>?_⟩ ?_ fun h' tk hD keep=>?_
 ·obtain⟨o,ho,r⟩:=DU
  exact⟨o,kp _ _ ho,r⟩
 ·obtain⟨t,u,e,⟨o,ho,r⟩,hk⟩:=hp.2 i x p h3 h4
  exact⟨t,u,e,⟨o,kp _ _ (Hy _ _ ho),r⟩,hk⟩
 ·obtain⟨o,es,ep,ho,r⟩:=NN
  exact⟨o,es,ep,kp _ _ ho,by rw[zU];exact r⟩
 ·refine⟨rfl,h h' tk hD fun b o e=>keep b o (z9 (yH e)) (z9 (yH (Hy b o e))) (kp b o (Hy b o e))⟩
end
section
variable {X : Cx}
noncomputable def Ov (H:Hp)(p:Addr)(kvs:List (Key×V)):Prop:=∃ xs,H p=some (.lst xs)/\Paired (fun v (kv:Key×V)=>∃ t,v=.ref t/\H t=some (.tup [kV kv.1,kv.2])) xs kvs
theorem pU {P:Program}{w:World}{H:Hp}{h:Heap} (BR:Ep P w H h):∀ {xs:List V}{kvs:List (Key×V)}{its:List Value},Paired (fun v (kv:Key×V)=>∃ t,v=.ref t/\H t=some (.tup [kV kv.1,kv.2])) xs kvs->Vals xs its->
  ∃ ps:List (Key×Value),KV kvs ps/\its.length=ps.length/\∀ (i:Nat) x p,its[i]?=some x->ps[i]?=some p->∃ t u,x=.ref t/\h.IsTuple t #[u,p.2]/\(aW P w).is p.1 u=true
 | _,_,_,.nil,.nil=>⟨[],.nil,rfl,fun i x p h1 _=>by simp at h1⟩
 | _,kv::_,_,.cons ⟨t,e,ht⟩ r,.cons (b:=b) rv ZN=>by
  obtain⟨ps,k1,k2,k3⟩:=pU BR r ZN
  subst e
  obtain rfl:b=Value.ref t:=rv
  obtain⟨_,CC,r2,ob,ho,hc,n,hd⟩:=(show BN P w H h t (.tup [kV kv.1,kv.2]) from BR t _ ht)
  obtain⟨u,v,rfl,ru,KD⟩:=vals2 r2
  refine⟨(kv.1,v)::ps,.cons ⟨rfl,KD⟩ k1,by simp[k2],fun i x p h1 h2=>?_⟩
  cases i with
  | zero=>
   have h1:Value.ref t=x:=by simpa using h1
   have h2:(kv.1,v)=p:=by simpa using h2
   subst h1 h2
   exact⟨t,u,rfl,⟨ob,ho,hc,n,hd⟩,lB ru⟩
  | succ i=>exact k3 i x p (by simpa using h1) (by simpa using h2)
theorem bA (hc:X.calm=true):CM X (.type "dict") (fun xs H Q=>∃ p kvs,xs=[.ref p]/\Ov H p kvs/\kvs.length<=1000/\Ge H (.dK (dH [] kvs)) Q):=by
 intro pins s σ H xs us Q I r h
 obtain⟨p,kvs,rfl,⟨ys,hy,hp⟩,hz,q⟩:=h
 obtain⟨u,rfl,rx⟩:=dP r
 obtain rfl:u=Value.ref p:=rx
 obtain⟨z,its,n,rv,e⟩:=(show BN X.prog X.w H s.heap p (.lst ys) from I.BR p _ hy)
 obtain⟨ps,k1,k2,k3⟩:=pU I.BR hp rv
 have Nz:=KV.length k1
 refine sG (knd:=aW X.prog X.w) (ps:=ps) (I.ok.hd hc) e ⟨by rw[yL];exact k2,fun i x p h1 h2=>k3 i x p (by simpa using h1) h2⟩ (by omega) fun h' tk hD keep=>?_
 have EW:(dH [] kvs).length<=sizeLine:=by
  have h1:=dI kvs []
  rw[Bs]at h1
  rw[Ab];omega
 refine⟨.ref s.heap.objs.size,_,I.laid (t':=tk) keep (yh _) ?_,rfl,q.at (I.BR.fresh (yh _))⟩
 exact⟨EW,Ao.mpr (Af I.big),_,k1.merge .nil,hD⟩
end
end L2
namespace L2
open PySem PySem.Spec PySem.Calls PyProof.Rows
theorem n0:∀ {us:List Value}{ns:List Int},IntsAre us ns->Vals (ns.map V.int) us
 | _,_,.nil=>.nil
 | _,_,.cons _ t h=>.cons ⟨t,rfl⟩ (n0 h)
theorem tx:∀ {us:List Value}{ns:List Int},us.length=ns.length->(∀ (j:Nat)(n:Int)(u:Value),ns[j]?=some n->us[j]?=some u->∃ t,u=.int n t)->IntsAre us ns
 | [],[],_,_=>.nil
 | u::us,n::ns,hl,h=>by
  obtain⟨t,rfl⟩:=h 0 n u rfl rfl
  exact .cons n t (tx (by simpa using hl) fun j m v h1 h2=>h (j+1) m v (by simpa using h1) (by simpa using h2))
 | [],_::_,hl,_=>by cases hl
 | _::_,[],hl,_=>by cases hl
section
variable {X : Cx}
theorem lQ (hc:X.calm=true):CM X (.builtin "sorted") (fun xs H Q=>∃ d kvs ns,xs=[.ref d]/\H d=some (.dK kvs)/\kvs.map (·.1)=ns.map (fun n:Int=>(Sum.inl n:Key))/\ns.length<64/\
  ∀ ER:List Int,ER.Perm ns->ER.Pairwise (·<=·)->Ge H (.lst (ER.map V.int)) Q):=by
 intro pins s σ H xs us Q I r h
 obtain⟨d,kvs,ns,rfl,hd,KR,Ib,q⟩:=h
 obtain⟨u,rfl,rx⟩:=dP r
 cases rx
 obtain⟨z,lo,vs,rel,o,es,ep,ho,hx,JY,hk,hp,Yi⟩:=(show BN X.prog X.w H s.heap d (.dK kvs) from I.BR d _ hd)
 have hl:es.size=vs.length:=by rw[<- hp.length];simp
 have Nz:=KV.length rel
 have Yr:kvs.length=ns.length:=by have:=congrArg List.length KR;simpa using this
 refine call_function_entry kind_sorted plain_sorted entry_sorted (args_sorted1 _) ?_
 unfold Builtin.«sorted»
 refine y9 (m:=checkCount "sorted" 1 1 _) (yu ?_)
 refine y9 (PySem.W.kdu_collect (A:=X.A.in1) (sU lo) (I.ok.hd hc) ⟨o,ho,hx,JY⟩ (by rw[hl,<- Nz];exact z) fun h' tk acc keep FE=>?_)
 have hI:IntsAre acc.toList ns:=by
  refine tx (by have h1:=FE.1;rw[<- zK]at h1;rw[h1,hl,<- Nz,Yr]) fun j n u' hn hu=>?_
  have Rh:(kvs.map (·.1))[j]?=some (Sum.inl n):=by rw[KR,ye,hn];rfl
  rw[ye]at Rh
  obtain⟨kv,La,Ny⟩:=yX.mp Rh
  obtain⟨q',Gq,CI⟩:=Paired.at rel La
  have hj:j<es.size:=by rw[hl];exact (yb.mp Gq).1
  have h1:(es[j]?).map (·.key)=some u':=FE.2 j u' (by rw[<- Ai];exact hu)
  rw[zJ hj]at h1
  have h2:=(Pairs.get? hp (e:=es[j]) (k:=q'.1) (v:=q'.2) (by rw[Ai,zJ hj]) Gq).1
  have h3:es[j].key=u':=Option.some.inj h1
  have h4:=jT h2
  rw[<- CI.1,Ny]at h4
  rw[<- h3]
  exact h4
 have hlen:acc.toList.length<64:=by
  have h1:=FE.1
  rw[zK,h1,hl,<- Nz,Yr]
  exact Ib
 refine y9 (wpAny_newList ?_ (yV (Al hlen) (by decide)))
 have R4:(h'.push (seqObj "list" acc.toList.toArray 0)).get? h'.objs.size=some (seqObj "list" acc.toList.toArray 0):=yC _ rfl
 refine y9 (zY (AK slot_list_sort ⟨_,R4,rfl⟩ entry_list_sort (list_sort_tree R4 hI hlen fun out ER a1 a2 a3=>⟨_,rfl,?_⟩) (args_list_sort _)))
 refine yu ⟨_,rfl,?_⟩
 have Qu:∀ b u,h'.get? b=some u->(sortedHeap (h'.push (seqObj "list" acc.toList.toArray 0)) h'.objs.size acc.toList out).get? b=some u:=fun b u h1=>by
  have h2:=yH h1
  rw[sortedHeap_old (h:=h'.push (seqObj "list" acc.toList.toArray 0)) (z9 h2) (by rw[size_push'];exact B7 h2)]
  exact yd _ h1
 obtain⟨e,OZ⟩:=sortedHeap_at (out:=out) R4
 have Nq:Vals (ER.map V.int) out.toList:=n0 a1
 have hln:(ER.map V.int).length<=sizeLine:=by
  rw[y6,a2.length_eq]
  exact yV (Al Ib) (by decide)
 have I1:=I.kept (t':=tk) keep
 refine⟨.ref h'.objs.size,_,I1.laid (t':=tk) Qu (yh _) (show BN X.prog X.w _ _ _ (.lst (ER.map V.int)) from ⟨hln,out.toList,e,Nq,?_⟩),rfl,(q ER a2 a3).at (I1.BR.fresh (yh _))⟩
 simpa using OZ
end
end L2
namespace L2
open PySem PySem.Spec PyProof.Rows
section
variable {X : Cx}{elt tg iter : Expr}{ifs : List Expr}{scope : Scope}{pos : Pos}{nT : Nat}{js : List Nat}{N' : List Str}{g : TG}{tt : TT}{te : TE}
theorem pK {J:Obj->Addr->It}{tl:TE}{i:Nat}{x:Str}{pos' Hh:Pos} (hN:X.N.Nodup) (FW:X.N[i]?=some x) (hx:X.env.scope.names.lookup x=some .local) (hc:X.calm=true) (S:bO X scope nT js N') (hi:PI X tg iter (OP X J tl))
  (hg:∀ cells C s H fp,PG (aH X scope N' cells C s H fp) tg g) (ht:∀ cells C s H fp,oQ (aH X scope N' cells C s H fp) ifs tt) (he:∀ cells C s H fp,PE (aH X scope N' cells C s H fp) elt te)
  (QQ:swapsWith (.ListComp elt [⟨tg,iter,ifs,0⟩] scope pos) (some (.Name x pos')) Hh.line X.env=pure true:=by rfl)
  (hs:∀ x,foldedSetIterable iter X.env x=pure x:=by intro _;rfl):PS X (.Assign [.Name x pos'] (.ListComp elt [⟨tg,iter,ifs,0⟩] scope pos) Hh) (u7 (ve J tl nT js g tt te) (aO i)):=by
 intro pins s σ H D I h
 exact Ca (br hN FW hx hc S hi hg ht he QQ hs pins s σ H (n9 (NF X) D) I ⟨_,h,fun x H1 j'=>(by obtain⟨d,kvs,e,hd,r⟩:=j';exact⟨d,kvs,e,hd,fun o nf=>r o _ nf⟩)⟩) fun f s' q=>SP.He q
end
noncomputable def WX (o:Obj)(d:Addr):It:=
 ⟨fun i H=>∃ kvs kv,H d=some (.frz o (.dK kvs))/\kvs[i]?=some kv,fun i H v H'=>∃ T,H T=none/\v=.ref T/\∃ kv:Key×V,(∀ kvs,H d=some (.frz o (.dK kvs))->kvs[i]?=some kv)/\H'=upd H T (.tup [kV kv.1,kv.2]),fun i H=>∃ kvs,H d=some (.frz o (.dK kvs))/\kvs.length<=i⟩
noncomputable def U7 (it d:Addr)(n ep:Nat)(i:Nat)(h:Heap):Prop:=∃ ok ov,IsItemIter h it d i n ep ok ov
theorem r9 {P:Program}{w:World}{K:PySem.W.Frag}{elts:List Expr}{x1:Nat}{DF:Pos} (it d:Addr) (o:Obj) {es:Array DictEntry}{ep:Nat} (ed:o.data=.dict es ep):oO P w K (.Tuple elts x1 DF) (WX o d) [it] it (U7 it d es.size ep) where
 mem:=by simp
 obj:=fun i h st b hb=>by
  have e:b=it:=by simpa using hb
  subst e
  obtain⟨_,_,st⟩:=st
  exact⟨_,st,fun v z=>by cases z⟩
 keep:=fun i h h' j' k=>by obtain⟨ok,ov,st⟩:=j';exact⟨ok,ov,k it (by simp) _ st⟩
 item:=by
  intro X hP hw hK hc i pins s σ H E I hf st hg
  subst hP hw hK
  obtain⟨kvs,kv,hd,hx⟩:=hg
  obtain⟨ok,ov,st⟩:=st
  obtain⟨vs,r,da,hl⟩:=I.P9 hd ed
  obtain⟨q,hq,hr⟩:=Paired.at r hx
  rw[<- hl]at st
  refine wpAny_pyNext_items_item st da (k:=q.1) (v:=q.2) hq fun key h' HZ a1 a2 a3 a4=>?_
  refine⟨_,rfl,wpAny_letOwnedTupleGo_items (s:={ s with heap:=h' }) a1 fun Ic b1 sb=>?_⟩
  have hT:H s.heap.objs.size=none:=I.BR.fresh (yh _)
  have JB:it≠s.heap.objs.size:=fun z=>absurd (yH st) (by rw[z];exact zu _)
  have kk:∀ c u,c∉[it]->s.heap.get? c=some u->Ic.get? c=some u:=fun c u hc z=>by
   have hc:c≠it:=by simpa using hc
   exact sb.extBut _ _ hc (a4 c u hc z)
  have I1:Inv X pins σ H { s with heap:=Ic }:=I.DE (t':=s.toks) (ch:=[it]) hf kk
  have I2:Inv X pins σ (upd H s.heap.objs.size (.tup [kV kv.1,kv.2])) { s with heap:=Ic }:=by
   refine I1.Hc (I.EZ (yh _) hT) I.sz ⟨by show 2<=sizeLine;decide,[key,q.2],.cons ?_ (.cons hr.2 .nil),?_⟩
   ·rw[hr.1];exact jT HZ
   ·exact⟨_,sb.extBut _ _ (Ne.symm JB) a2,rfl,_,rfl⟩
  refine⟨.ref s.heap.objs.size,_,I2,rfl,⟨_,hT,rfl,kv,fun ES EL=>?_,rfl⟩,⟨key,q.2,?_⟩,fun c hc=>?_⟩
  ·rw[hd]at EL;cases EL;exact hx
  ·rw[hl]at b1;exact b1
  ·have hc:c=it:=by simpa using hc
   subst hc
   rw[ae JB]
   exact (hf c (by simp)).1
 done:=by
  intro X hP hw hK hc i pins s σ H E I hf st hg
  subst hP hw hK
  obtain⟨kvs,hd,hx⟩:=hg
  obtain⟨ok,ov,st⟩:=st
  obtain⟨vs,r,da,hl⟩:=I.P9 hd ed
  obtain⟨f0,f1,f2,f3,f4,f5⟩:=hf it (by simp)
  rw[<- hl]at st
  have:=KV.length r
  exact wpAny_pyNext_items_end (I.ok.hd hc) st da (yp (by omega)) fun h' eb=>⟨rfl,I.turned (t':=s.toks) (fun b o hb e=>eb b o hb e) f0 f1 f3 f4 f5⟩
 self:=fun _ _ _ _ _ j' h=>by obtain⟨ok,ov,st⟩:=j';exact PySem.W.kcp_self st h
section
variable {X : Cx}{tg : Expr}
theorem vx {elts:List Expr}{x1:Nat}{DF:Pos}{l:Expr}{tl:TE}{apos D8:Pos} (hl:PE X l tl)
  (E6:attributeBase l "items" X.env (eval l X.env)=eval l X.env:=by rfl) (E4:(apos.endLine==D8.line)=true:=by rfl):PI X (.Tuple elts x1 DF) (.Call (.Attribute l "items" apos) [] [] D8) (OP X WX tl):=by
 intro pins s σ H R I h
 obtain⟨Q,hq,h⟩:=h
 refine wpAny_Call_method0_late E6 E4 (Ca (hl pins s σ H _ I hq) fun v s1 j'=>?_)
 obtain⟨x,H1,I1,r1,q1⟩:=j'
 obtain⟨d,kvs,e,hd,q⟩:=h x H1 q1
 subst e
 cases r1
 obtain⟨z,lo,vs,r,ob,es,ep,ho,c1,c2,c3,c4,c5⟩:=(show BN X.prog X.w H1 s1.heap d (.dK kvs) from I1.BR d _ hd)
 have hsz:vs.length=es.size:=by rw[<- c4.length];simp
 have da:s1.heap.DictAt (aW X.prog X.w) d vs ep:=⟨ob,es,ho,c1,c2,c3,c4,c5⟩
 refine⟨"dict","dict.items",F.plainAttrs_dict,F.slot_dict_items,F.type_dict_items,da.dictOf.typeIs,fun a e2=>?_,Bc rfl (PySem.evalArgs_none ?_)⟩
 ·cases e2
  exact⟨ob,ho,c1.2.1⟩
 refine call_meetsIn F.slot_dict_items da.dictOf.typeIs F.entry_dict_items (F.args_dict_items_1 _) (meets_dict_items (aW X.prog X.w) d lo) ⟨⟨vs,da.dictOf⟩,?_⟩
 have I2:=(I1.freeze hd ho).kept (t':=s1.toks) (h':=s1.heap.push { cls:=.type "dict_items",data:=.fields #[.ref d] }) fun b o e=>yd _ e
 show wpAny _ _ _ _ _ { s1 with heap:=s1.heap.push { cls:=.type "dict_items",data:=.fields #[.ref d] } }
 refine wpAny_pyIter_items (s:={ s1 with heap:=s1.heap.push { cls:=.type "dict_items",data:=.fields #[.ref d] } }) ⟨_,yC _ rfl,rfl,rfl⟩ (da.push _) ?_
 rw[hsz]
 refine⟨_,[(s1.heap.push { cls:=.type "dict_items",data:=.fields #[.ref d] }).objs.size],_,_,_,rfl,I2.kept (t':=s1.toks) fun b o e=>yd _ e,r9 _ d ob c2,⟨_,_,yC _ rfl⟩,fun b hb=>?_,q ob (I1.nf hd)⟩
 have e:b=(s1.heap.push { cls:=.type "dict_items",data:=.fields #[.ref d] }).objs.size:=by simpa using hb
 subst e
 exact I2.EZ (yh _) (I2.BR.fresh (yh _))
end
end L2
namespace L2
open PySem PySem.Spec PyProof.Rows PySem.W
section
variable {prog : Program}{w : World}{A : Around}{E : Value -> Shared -> Prop}
structure SK (prog : Program) (w : World) (A : Around) (f : Value) (vs : List Value) (kz : List Int) (G : List (Addr × Obj) -> Shared -> Prop) : Prop where
  get : ∀ {own s a o}, G own s -> (a, o) ∈ own -> s.heap.get? a = some o
  sub : ∀ {own MJ s}, G own s -> (∀ p ∈ MJ, p ∈ own) -> G MJ s
  kept : ∀ {own s h' tk}, G own s -> (∀ b u, s.heap.get? b = some u -> h'.get? b = some u) -> G own { s with heap := h', toks := tk }
  grow : ∀ {own s h' tk a o}, G own s -> (∀ b u, s.heap.get? b = some u -> h'.get? b = some u) -> s.heap.objs.size <= a -> h'.get? a = some o -> (∀ v, o.data ≠ .cell v) -> G ((a, o) :: own) { s with heap := h', toks := tk }
  put : ∀ {own s h' a o o'}, G ((a, o) :: own) s -> (∀ p ∈ own, p.1 ≠ a) -> Heap.SameBut a s.heap h' -> h'.get? a = some o' -> (∀ v, o'.data ≠ .cell v) -> G ((a, o') :: own) { s with heap := h' }
  turn : ∀ {own : List (Addr × Obj)} {s : Shared} {i : Nat} {v : Value} {k : Int}, vs[i]? = some v -> kz[i]? = some k -> G own s -> wpAny (model prog w) A (call f [v]) (fun r s' => ∃ t, r = .int k t /\ G own s') (fun _ _ => False) s
variable {f : Value}{vs : List Value}{kz : List Int}{G : List (Addr×Obj) -> Shared -> Prop}{s : Shared}{a kS : Addr}{keys : Array Value}{e e1 : Nat}{P : PySem.Fin -> Shared -> Prop}
theorem iY {xs:Array Value}{n:Nat}:∀ v,(seqObj "list" xs n).data≠.cell v:=fun _ z=>nomatch z
theorem sS {st:SortSt}{A':Around} (S:SK prog w A' f vs kz G) (g:G [(kS,seqObj "list" keys e),(a,seqObj "list" #[] e1)] s) (NA:kS≠a)
  (hk:IntsAre keys.toList kz) (hlen:kz.length=vs.length) (Ib:vs.length<64) (hp:(arrOf st).Perm (keys.zip vs.toArray)) (hs:SortedTo (arrOf st) (arrOf st).size) (hfl:failedOf st=none)
  (h:∀ (s':Shared) out c,s'.os=s.os->G [(a,seqObj "list" out c)] s'->KskOut false kz vs out.toList->P (.done (.ret .none)) s'):
  wpAny (model prog w) A (ksk_tail a false e1 (.ref kS) st) P E s:=by
 have nk:=S.get g (yw)
 have na:=S.get g (yE _ yw)
 have hsz:keys.size=vs.length:=by
  have h1:=hk.length
  rw[zK]at h1
  omega
 have Vt:(arrOf st).size=vs.length:=by rw[hp.size_eq,Array.size_zip,hsz,yL,Bu]
 have s1:=Ae s.heap kS (Obj.mapSeq fun _=>(#[]:Array Value))
 obtain⟨c1,LR⟩:∃ c1,(s.heap.update kS (Obj.mapSeq fun _=>(#[]:Array Value))).get? kS=some (seqObj "list" #[] c1):=⟨_,get?_update_seq nk fun _=>#[]⟩
 have g1:=S.put g (fun p hp=>by rw[yK.mp hp];exact NA.symm) s1 LR iY
 have OJ:=S.get g1 (yE _ yw)
 have s2:=Ae (s.heap.update kS (Obj.mapSeq fun _=>(#[]:Array Value))) a (Obj.mapSeq fun _=>(arrOf st).map (·.2))
 obtain⟨c2,GW⟩:∃ c2,((s.heap.update kS (Obj.mapSeq fun _=>(#[]:Array Value))).update a (Obj.mapSeq fun _=>(arrOf st).map (·.2))).get? a=some (seqObj "list" ((arrOf st).map (·.2)) c2):=
  ⟨_,get?_update_seq OJ fun _=>(arrOf st).map (·.2)⟩
 have g2:=S.put (own:=[]) (S.sub g1 fun p hp=>yE _ hp) (fun p hp=>nomatch hp) s2 GW iY
 unfold ksk_tail
 try dsimp only
 refine y9 (listUpdate_at nk rfl ?_ (by rw[hsz,Ab];omega) (yR _))
 refine y9 (wpAny_letGo ?_)
 refine y9 (seqEpoch_at OJ rfl ?_)
 refine y9 (listUpdate_at OJ rfl ?_ (yR _) (by simp only[zE,Aq,Array.size_map];rw[Vt,Ab];omega))
 rw[hfl]
 simp only[Bz,zE,Aq]
 exact yu (h _ _ c2 rfl g2 (by simpa using ksk_out (b:=false) hk hp hs))
theorem Ml {A':Around}(S:SK prog w A' f vs kz G)(g:G [(kS,seqObj "list" keys e),(a,seqObj "list" #[] e1)] s)(NA:kS≠a)
  (hk:IntsAre keys.toList kz) (hlen:kz.length=vs.length) (Ib:vs.length<64)
  (h:∀ (s':Shared) out c,s'.os=s.os->G [(a,seqObj "list" out c)] s'->KskOut false kz vs out.toList->P (.done (.ret .none)) s'):
  wpAny (model prog w) A (ksk_end a false vs.toArray e1 (.ref kS) keys) P E s:=by
 have hsz:keys.size=vs.length:=by
  have h1:=hk.length
  rw[zK]at h1
  omega
 have Ve:(keys.zip vs.toArray).size=vs.length:=by rw[Array.size_zip,hsz,yL,Bu]
 unfold ksk_end
 try dsimp only
 simp only[zE,Aq]
 by_cases h2:vs.toArray.size<2
 ·rw[if_pos h2,if_pos h2]
  refine y9 (yu ?_)
  rw[StateT.run_pure]
  refine y9 (yu ?_)
  try dsimp only
  refine sS (st:=SortSt.mk' general' (keys.zip vs.toArray) #[] 7 none) S g NA hk hlen Ib (Array.Perm.refl _) ?_ rfl h
  intro i j T8 hj
  have hj2:j<(keys.zip vs.toArray).size:=hj
  rw[Ve]at hj2
  rw[yL]at h2
  have:i=j:=by omega
  subst this
  exact Int.le_refl _
 ·rw[if_neg h2,if_neg h2]
  rw[yL]at h2
  rw[ksk_kind hk (by rw[hsz];omega)]
  refine y9 (yu ?_)
  refine y9 (zR (wpS_sortRuns (a₀:=keys.zip vs.toArray) (st:=SortSt.mk' oneType' (keys.zip vs.toArray) #[] 7 none)
   (Q:=fun _ FT=>(arrOf FT).Perm (keys.zip vs.toArray)/\failedOf FT=none/\SortedTo (arrOf FT) (keys.zip vs.toArray).size)
   (ksk_intKeys hk) ⟨Array.Perm.refl _,rfl,rfl,rfl⟩ (by rw[Ve];omega) (by rw[Ve];exact Ib) fun FT a1 a2 a3=>⟨a1,a2,a3⟩) ?_ fun _ _ e=>e)
  rintro⟨⟨⟩,FT⟩ s' ⟨rfl,hp,hf,hs⟩
  try dsimp only
  exact sS S g NA hk hlen Ib hp (by rw[hp.size_eq];exact hs) hf h
theorem wV (S:SK prog w A f vs kz G)(g:G [(kS,seqObj "list" #[] 0),(a,seqObj "list" #[] e1)] s)(NA:kS≠a)(hlen:kz.length=vs.length)(Ib:vs.length<64)
  (h:∀ (s':Shared) out c,G [(a,seqObj "list" out c)] s'->KskOut false kz vs out.toList->P (.done (.ret .none)) s'):
  wpAny (model prog w) A (ksk_rest a f false vs.toArray e1 (.ref kS)) P E s:=by
 unfold ksk_rest
 refine y9 (wpAny_rule ?_)
 first
  | rw[List.forIn_toArray]
  | (rw[<- Array.forIn_toList];simp only[List.toList_toArray])
  | rw[<- Array.forIn_toList]
 refine y9 (ksk_fold (fun i s'=>∃ kA e,G [(kS,seqObj "list" kA e),(a,seqObj "list" #[] e1)] s'/\IntsAre kA.toList (kz.take i)) vs 0 s
  ⟨#[],0,g,by simpa using IntsAre.nil⟩ ?step ?done)
 case step=>
  rintro j x s' hx ⟨kA,e,g',hk⟩
  simp only[Nat.zero_add]at hk ⊢
  have hj:j<vs.length:=(yb.mp hx).1
  obtain⟨k,Rh⟩:∃ k,kz[j]?=some k:=⟨_,y8 (by omega)⟩
  have hz:kA.size<=vs.length:=by
   have h1:=hk.length
   rw[zK,yM]at h1
   omega
  refine y9 (BD (zR (S.turn hx Rh g') (fun v Lu he=>?_) fun _ _ hF=>hF.elim))
  obtain⟨t2,rfl,g2⟩:=he
  try dsimp only
  have nk:=S.get g2 yw
  have s1:=Ae Lu.heap kS (Obj.mapSeq (·.push (.int k t2)))
  obtain⟨c2,GW⟩:∃ c2,(Lu.heap.update kS (Obj.mapSeq (·.push (.int k t2)))).get? kS=some (seqObj "list" (kA.push (.int k t2)) c2):=⟨_,get?_update_seq nk (·.push (.int k t2))⟩
  have ek:kz.take (j+1)=kz.take j++[k]:=by rw[z6,Rh];simp
  have ea:(kA.push (Value.int k t2)).toList=kA.toList++[Value.int k t2]:=by simp
  refine y9 (listUpdate_at nk rfl ?_ (by rw[Ab];omega) (yV (Nat.le_of_eq (Array.size_push ..)) (by rw[Ab];omega)))
  exact yu ⟨rfl,kA.push (.int k t2),c2,S.put g2 (fun p hp=>by rw[yK.mp hp];exact NA.symm) s1 GW iY,by rw[ea,ek];exact ksk_snoc hk⟩
 case done=>
  rintro s' ⟨kA,e,g',hk⟩
  have IU:IntsAre kA.toList kz:=by
   have e3:kz.take (0+vs.length)=kz:=zy (by omega)
   rw[e3]at hk
   exact hk
  have nk:=S.get g' yw
  try dsimp only
  refine y9 (listItems_at nk rfl ?_)
  exact Ml S g' NA IU hlen Ib fun s2 out c _ g2 k2=>h s2 out c g2 k2
theorem wU {n:Nat}(S:SK prog w A f vs kz G)(g:G [(a,seqObj "list" vs.toArray n)] s)(hlen:kz.length=vs.length)(Ib:vs.length<64)
  (h:∀ (s':Shared) out c,G [(a,seqObj "list" out c)] s'->KskOut false kz vs out.toList->P (.done (.ret .none)) s'):
  wpAny (model prog w) A (ksk_tree a f false) P E s:=by
 have ho:=S.get g yw
 have s1:=Ae s.heap a (Obj.mapSeq fun _=>(#[]:Array Value))
 obtain⟨e1,VF⟩:∃ e1,(s.heap.update a (Obj.mapSeq fun _=>(#[]:Array Value))).get? a=some (seqObj "list" #[] e1):=⟨_,get?_update_seq ho fun _=>#[]⟩
 have g1:=S.put g (fun p hp=>nomatch hp) s1 VF iY
 have BU:a<(s.heap.update a (Obj.mapSeq fun _=>(#[]:Array Value))).objs.size:=yH VF
 unfold ksk_tree
 refine y9 (listItems_at ho rfl ?_)
 refine y9 (listUpdate_at ho rfl ?_ (by rw[yL,Ab];omega) (yR _))
 refine y9 (seqEpoch_at VF rfl ?_)
 refine y9 (wpAny_newTuple ?_ (by show vs.length<=_;rw[Ab];omega))
 refine y9 (wpAny_newList ?_ (yR _))
 refine zY ?_
 have g2:=S.kept (h':=(s.heap.update a (Obj.mapSeq fun _=>(#[]:Array Value))).push (seqObj "tuple" vs.toArray 0)) (tk:=s.toks) g1 (fun b u e=>yd _ e)
 have g3:=S.grow (h':=((s.heap.update a (Obj.mapSeq fun _=>(#[]:Array Value))).push (seqObj "tuple" vs.toArray 0)).push (seqObj "list" #[] 0)) (tk:=s.toks) g2 (fun b u e=>yd _ e) (yh _) (yC _ rfl) iY
 refine wV S g3 (fun z=>?_) hlen Ib h
 have:a<((s.heap.update a (Obj.mapSeq fun _=>(#[]:Array Value))).push (seqObj "tuple" vs.toArray 0)).objs.size:=by rw[zD];exact B7 BU
 exact zu _ (Nat.lt_of_lt_of_eq this z)
end
section
variable {prog : Program}{w : World}{A : Around}{E : Value -> Shared -> Prop}{s : Shared}{f : Addr}{vs : List Value}{kz : List Int}{G : List (Addr×Obj) -> Shared -> Prop}{Q : Value -> Shared -> Prop}
theorem u8 {v:Value}{Pv:List Value->Prop} (S:∀ vs,Pv vs->SK prog w A.in1.in1 (.ref f) vs kz G) (hlen:∀ vs,Pv vs->kz.length=vs.length) (Ib:kz.length<64)
  (NP:∀ (Q':List Value->Shared->Prop)(E':Value->Shared->Prop),(∀ h' tk vs,(∀ b o,s.heap.get? b=some o->h'.get? b=some o)->Pv vs->Q' vs { s with heap:=h',toks:=tk })->wpAny (model prog w) A.in1 (collect v) Q' E' s)
  (g:G [] s) (h:∀ (s':Shared) vs D out c,Pv vs->G [(D,seqObj "list" out c)] s'->KskOut false kz vs out.toList->Q (.ref D) s'):
  wpAny (model prog w) A (call (.builtin "sorted") [v] [(Str.ofString "key",.ref f)]) Q E s:=by
 refine call_function_entry_kw kind_sorted plain_sorted entry_sorted (ksk_s1 _ _) ?_
 unfold Builtin.«sorted»
 refine y9 (m:=checkCount "sorted" 1 1 _) (yu ?_)
 refine y9 (NP _ _ fun h' tk vs hk hv=>?_)
 have S:=S vs hv
 have hlen:=hlen vs hv
 refine y9 (wpAny_newList ?_ (by rw[Ab];omega))
 have g1:=S.grow (h':=h'.push (seqObj "list" vs.toArray 0)) (tk:=tk) (a:=h'.objs.size) (o:=seqObj "list" vs.toArray 0) (s:={ s with heap:=h',toks:=tk }) (S.kept g hk) (fun b u e=>yd _ e) (yh _) (yC _ rfl) iY
 refine y9 (zY (wpAny_call_entry_kw slot_list_sort ⟨_,S.get g1 yw,rfl⟩ entry_list_sort ?body (ksk_l1 _ _)))
 show wpAny (model prog w) A.in1.in1 (Builtin.«list.sort» ⟨[.ref h'.objs.size],[(Str.ofString "key",.ref f)]⟩) _ _ _
 rw[ksk_t1]
 refine wU S g1 hlen (by omega) fun s2 out c g2 k2=>⟨_,rfl,?_⟩
 exact yu ⟨_,rfl,h s2 vs _ out c hv g2 k2⟩
end
noncomputable def lV (c:Addr)(qual:Str):HO:=.ext fun h=>h.CodeRec (.ref c) qual
noncomputable def TabAt (P:Addr)(pos:Pos)(qual:Str)(H:Hp):Prop:=
 ∃ ps,H P=some (.tbl ps)/\TriplesOk ps.toList/\(codeAmong pos ps.toList=none\/∃ c,codeAmong pos ps.toList=some (.ref c)/\H c=some (lV c qual))
noncomputable def Sb (P:Addr)(H H':Hp):Prop:=∀ b o,b≠P->H b=some o->H' b=some o
theorem Sb.refl {P:Addr}{H:Hp}:Sb P H H:=fun _ _ _ e=>e
theorem Sb.trans {P:Addr}{H H1 H2:Hp} (a:Sb P H H1) (b:Sb P H1 H2):Sb P H H2:=fun c o n e=>b c o n (a c o n e)
theorem f'.sb {P:Addr}{H H':Hp} (a:f' H H'):Sb P H H':=fun c o _ e=>a c o e
theorem TabAt.same {P:Addr}{pos:Pos}{qual:Str}{H H':Hp} (t:TabAt P pos qual H) (e:f' H H'):TabAt P pos qual H':=by
 obtain⟨ps,h1,h2,h3⟩:=t
 exact⟨ps,e _ _ h1,h2,h3.imp id fun j'=>(by obtain⟨c,a,b⟩:=j';exact⟨c,a,e _ _ b⟩)⟩
noncomputable def Bm (mg:Str->Option Value)(base:Heap):Prop:=∃ bm ob,mg "__builtins__"=some (.ref bm)/\bm≠builtinsNs/\base.get? bm=some ob/\ob.cls=.type "module"/\ob.dict=some builtinsNs/\ob.data=.plain
structure WT (X : Cx) (P : Addr) : Prop where
  code : ∃ c, X.env.code = .ref c /\ CodeHd X.base c P
  bm : Bm X.mg X.base
section
variable {X : Cx}{pins : List (Addr×Obj)}{σ : St}{H : Hp}{s : Shared}{P : Addr}{params : Arguments}{body : Expr}{scope : Scope}{pos : Pos}{Ei : List (Str×Addr)}
theorem wD {pr:Program}{w:World}{H:Hp}{h:Heap}{c:Addr}{q:Str} (x:h.CodeRec (.ref c) q):BN pr w H h c (lV c q):=by
 refine⟨x,?_,fun h1 h2 y k=>?_⟩
 ·obtain⟨c',o,vs,t,e,h1,_⟩:=x
  cases e
  exact⟨o,h1⟩
 ·obtain⟨c',o,vs,t,e,h1,r⟩:=y
  cases e
  exact⟨c,o,vs,t,rfl,k _ h1,r⟩
theorem vX {Q:Value->Shared->Prop}{E:Value->Shared->Prop} (L:WT X P) (I:Inv X pins σ H s) (T:TabAt P pos (X.env.qual++"<lambda>") H) (GK:closureFor scope X.env=pure Ei) (NK:defaultsOf params X.env=([],[]))
  (k:∀ f c' IZ H' (s':Shared),Inv X ((f,kla_obj "<lambda>" (X.env.qual++"<lambda>") params body scope Ei ((X.mg "__name__").getD .none) c' IZ)::pins) σ H' s'->
   Sb P H H'->TabAt P pos (X.env.qual++"<lambda>") H'->H' c'=some (lV c' (X.env.qual++"<lambda>"))->Q (.ref f) s'):
  wpAny (model X.prog X.w) X.A (eval (.Lambda params body scope pos) X.env) Q E s:=by
 obtain⟨c,hc,hd⟩:=L.code
 obtain⟨bm,ob,b1,b2,b3,b4,b5,b6⟩:=L.bm
 obtain⟨ps,hP,tr,st⟩:=T
 have Tj:s.heap.get? P=some (tabObj ps):=I.BR P _ hP
 have VS:=I.mod.glob.keeps I.bk
 have hgP:mainGlobals≠P:=fun q=>by
  obtain⟨o,es,ep,e,EL,_⟩:=VS
  rw[q,Tj]at e;cases e;cases EL
 have YB:bm≠P:=fun q=>by
  have e:=I.bk _ _ b3
  rw[q,Tj]at e;cases e;cases b4
 have Tf:bm≠mainGlobals:=fun q=>by
  obtain⟨o,es,ep,e,EL,_⟩:=I.mod.glob
  rw[q,e]at b3;cases b3;rw[EL]at b6;cases b6
 refine kla_eval NK ?_
 rcases st with Yh|⟨c',hf,KU⟩
 ·refine kla_makeFunction (mg:=X.mg) GK I.ok.glob VS hc (hd.keeps I.bk) Tj tr Yh hgP ⟨bm,ob,b1,b2,Tf,YB,I.bk _ _ b3,b4,b5,b6⟩ fun c' IZ h' tk hx VT BU Vx Vs=>?_
  have W6:H c'=none:=I.BR.fresh VT
  have hcP:c'≠P:=fun z=>by rw[z,hP]at W6;cases W6
  have hPc:P≠c':=hcP.symm
  obtain⟨H',eH⟩:∃ H',H'=upd (upd H P (.tbl (ps++#[rawInt pos.line,rawInt pos.col,.ref c']))) c' (lV c' (X.env.qual++"<lambda>")):=⟨_,rfl⟩
  have hn:∀ b,b≠P->b≠c'->H' b=H b:=fun b n1 n2=>by rw[eH,ae n2,ae n1]
  have Wj:H' P=some (.tbl (ps++#[rawInt pos.line,rawInt pos.col,.ref c'])):=by rw[eH,ae hPc,a9]
  have Wi:H' c'=some (lV c' (X.env.qual++"<lambda>")):=by rw[eH,a9]
  have ne1:∀ b u,H b=some u->b≠c':=fun b u e=>ah e W6
  have UP:∀ b,H b=none->b≠P:=fun b e z=>by rw[z,hP]at e;cases e
  have ext:∀ (o:Obj) b u,b≠P->s.heap.get? b=some u->(h'.push o).get? b=some u:=fun o b u n e=>yd _ (hx b u n e)
  have un:∀ o,Un X.fs [] H H' s.heap (h'.push o):=fun o=>by
   refine⟨fun b u e n _ _=>ext o b u (UP b n) e,fun b u e n _ _=>⟨u.slots,ext o b u (UP b n) e⟩,fun b u e n _=>?_,fun b u e _=>?_,fun b xs e=>?_,fun b u xs e=>?_,fun b qs e=>?_⟩
   ·rw[hn b (UP b n) (z9 (yG (yH e) VT))];exact n
   ·by_cases hb:b=P
    ·rw[hb];exact⟨_,yd _ Vs⟩
    ·exact⟨u,ext o b u hb e⟩
   ·rw[hn b (fun z=>by rw[z,hP]at e;cases e) (ne1 _ _ e)];exact e
   ·rw[hn b (fun z=>by rw[z,hP]at e;cases e) (ne1 _ _ e)];exact e
   ·by_cases hb:b=P
    ·rw[hb,hP]at e;cases e
     exact⟨_,by rw[hb];exact Wj⟩
    ·exact⟨#[],by rw[hn b hb (ne1 _ _ e),e];simp⟩
  have BR:∀ o,Ep X.prog X.w H' (h'.push o):=fun o b u e=>by
   by_cases hb:b=P
   ·subst hb
    rw[Wj]at e;cases e
    exact yd _ Vs
   ·by_cases Jd:b=c'
    ·subst Jd
     rw[Wi]at e;cases e
     obtain⟨c2,o2,vs,t,e2,r1,r2⟩:=Vx
     exact wD ⟨c2,o2,vs,t,e2,yd _ r1,r2⟩
    ·rw[hn b hb Jd]at e
     refine (I.BR b u e).Fg (fun d v EL q=>ext o d v ?_ q) (fun d q=>?_) fun d xs q=>?_
     ·rintro rfl
      rcases EL with z|z
      ·exact hb z.symm
      ·rw[hP]at z;cases z
     ·rw[hn d (fun z=>by rw[z,hP]at q;cases q) (ne1 _ _ q)];exact q
     ·rw[hn d (fun z=>by rw[z,hP]at q;cases q) (ne1 _ _ q)];exact q
  have J:=fun o=>I.un (t':=tk) (un o) (BR o)
  have NH:s.heap.objs.size<=h'.objs.size:=Al (yP VT BU)
  refine k h'.objs.size c' IZ H' _ ((J _).De fun p hp=>?_) (fun b o n e=>by rw[hn b n (ne1 _ _ e)];exact e) ⟨_,Wj,?_,.inr ⟨c',?_,Wi⟩⟩ Wi
  ·rcases yx.mp hp with rfl|hp
   ·refine⟨yC _ rfl,?_,Af (yG I.lt NH),I.JK NH,fun v z=>nomatch z⟩
    rw[hn _ (fun z=>?_) (Af BU)]
    ·exact I.BR.fresh NH
    ·have:=yH Vs
     rw[<- z]at this
     exact zu _ this
   ·exact (J _).pin p (yv _ hp)
  ·have:=TriplesOk_snoc pos.line pos.col (.ref c') ps.toList tr
   simpa using this
  ·have:=codeAmong_snoc (c:=.ref c') ps.toList tr Yh
   simpa using this
 ·refine kla_makeFunctionHit (mg:=X.mg) GK I.ok.glob VS hc (hd.keeps I.bk) Tj tr hf ⟨bm,ob,b1,b2,Tf,YB,I.bk _ _ b3,b4,b5,b6⟩ fun IZ h' tk hk hsz=>?_
  have J:=fun o=>I.kept (t':=tk) (h':=h'.push o) fun b u e=>yd o (hk b u e)
  refine k h'.objs.size c' IZ H _ ((J _).De fun p hp=>?_) Sb.refl ⟨ps,hP,tr,.inr ⟨c',hf,KU⟩⟩ KU
  rcases yx.mp hp with rfl|hp
  ·exact⟨yC _ rfl,I.BR.fresh hsz,Af (yG I.lt hsz),I.JK hsz,fun v z=>nomatch z⟩
  ·exact (J _).pin p (yv _ hp)
end
noncomputable def tQ (X:Cx)(A:Around)(qual:Str)(scope:Scope)(N':List Str)(cl:List (Str×Addr))(f:Addr)(cd:Value)(s:Shared)(H:Hp):Cx where
 prog:=X.prog
 w:=X.w
 K:=X.K
 mg:=X.mg
 base:=X.base
 A:=A.deeper (envX qual scope s.heap.objs.size f cd cl)
 N:=N'
 s₀:=s
 H₀:=H
 env:=envX qual scope s.heap.objs.size f cd cl
 outer:=X.stack
 stack:=envX qual scope s.heap.objs.size f cd cl::X.stack
 ex:=[]
 fn:=fun _=>false
 calm:=true
 pn:=[]
 xe:=fun _ _=>False
noncomputable def qt (x:V)(js:List Nat)(σ:St):St:=some x::js.map fun j=>(σ[j]?).join
structure iA (X : Cx) (scope : Scope) (p : Str) (js : List Nat) (N' : List Str) : Prop where
  cs : bO X scope 1 js N'
  hp : N'[0]? = some p
  co : scope.isCoroutine = false
  gen : scope.isGenerator = false
  JL : ∀ x ∈ scope.names, x.2 ≠ .cell
  par : scope.names.lookup p = some .local
section
variable {X : Cx}{pins : List (Addr×Obj)}{σ : St}{H : Hp}{s : Shared}{params : Arguments}{body : Expr}{scope : Scope}{Ei : List (Str×Addr)}{p : Str}{js : List Nat}{N' : List Str}{A : Around}{qual : Str}{f c' : Addr}{IZ pm : Value}{te : TE}{Q : VK}{x : V}{u : Value}
theorem uJ {h₁:Heap}{t:Nat} (S:iA X scope p js N') (I:Inv X pins σ H s) (GK:∀ q∈Ei,X.env.cells.lookup q.1=some q.2) (GJ:∀ y∈scope.names,y.2=.free->∃ c,(y.1,c)∈Ei) (hA:A.handled=none) (HQ:A.frames=some X.stack)
  (r:RelV x u) (IT:h₁.Ns s.heap.objs.size (fun y=>[(p,u)].reverse.lookup y)) (hk:∀ b o,s.heap.get? b=some o->h₁.get? b=some o):
  Inv (tQ X A qual scope N' Ei f (.ref c') s H) [] (qt x js σ) H { s with heap:=h₁,toks:=t }:=by
 have lk:∀ y c,Ei.lookup y=some c->X.env.cells.lookup y=some c:=fun y c e=>GK _ (zW e)
 have Kn:∀ b:Addr,b∉(tQ X A qual scope N' Ei f (.ref c') s H).ex:=fun b z=>absurd (show b∈([]:List Addr) from z) (by simp)
 refine⟨⟨I.ok.mod,S.cs.kind,rfl,rfl,yh _,fun y z c h1 h2=>I.ok.inj y z c (lk _ _ h1) (lk _ _ h2),fun y hy=>?_,fun y c hf _=>(yQ hf).elim,fun _=>hA,Around.frames_deeper HQ,.inr ⟨rfl,rfl⟩,fun b z=>absurd z (Kn b),I.bs,yV I.ok.Ke I.sz,fun b _ _=>Kn b,fun b z=>absurd z (Kn b),I.stack,I.GD⟩,
  rfl,I.bare,Un.kept hk,⟨_,IT,fun i y v h1 h2 h3=>?_⟩,fun y c h=>?_,I.BR.fresh (yh _),fun y c h=>I.Dv y c (lk _ _ h),fun q hq=>absurd (show q∈([]:List (Addr×Obj)) from hq) (by simp),I.BR.kept hk,?_⟩
 ·have hy:scope.names.lookup y=some .cell\/scope.names.lookup y=some .free:=hy
  rcases hy with hy|hy
  ·exact absurd rfl (S.JL _ (zW hy))
  ·obtain⟨c,hc⟩:=GJ _ (zW hy) rfl
   exact c8 hc
 ·cases i with
  | zero=>
   have e2:v=x:=by
    have Gx:(some (some x):Option (Option V))=some (some v):=h2
    cases Gx;rfl
   subst e2
   have e1:y=p:=by
    have Ju:N'[0]?=some y:=h1
    rw[S.hp]at Ju;cases Ju;rfl
   subst e1
   exact⟨u,r,.inl ⟨S.par,by simp⟩⟩
  | succ i=>
   have Gx:(js.map fun j=>(σ[j]?).join)[i]?=some (some v):=h2
   rw[ye]at Gx
   cases ej:js[i]? with
   | none=>rw[ej]at Gx;cases Gx
   | some j=>
    rw[ej]at Gx
    have K':(σ[j]?).join=some v:=by simpa using Gx
    have hσ:σ[j]?=some (some v):=by
     cases eσ:σ[j]? with
     | none=>rw[eσ]at K';cases K'
     | some o=>rw[eσ]at K';simp at K';rw[K']
    obtain⟨y',a1,a2,a3,_⟩:=S.cs.Z' i j ej
    have Ju:N'[i+1]?=some y:=h1
    have e1:y'=y:=by
     rw[Nat.add_comm]at a1
     rw[a1]at Ju;cases Ju;rfl
    subst e1
    have HD:=S.cs.free _ a3 rfl
    obtain⟨m,hn,hl⟩:=I.loc
    obtain⟨u',r',l⟩:=hl j y' v a2 hσ (HD.elim (fun z=>.inr (.inl z)) fun z=>.inr (.inr z))
    refine⟨u',r',?_⟩
    obtain⟨c0,Ku⟩:=GJ _ a3 rfl
    obtain⟨d,hd⟩:=c8 Ku
    have hd2:=lk _ _ hd
    rcases l with⟨k1,_⟩|⟨_,c,e,z⟩
    ·rcases HD with z|z
     ·rw[k1]at z;cases z
     ·rw[k1]at z;cases z
    ·have:d=c:=by rw[hd2]at e;cases e;rfl
     subst this
     exact .inr ⟨.inr (S.cs.YM _ a3 rfl),d,hd,z.keeps hk⟩
 ·obtain⟨v,z⟩:=I.cell y c (lk _ _ h)
  exact⟨v,z.keeps hk⟩
 ·show (qt x js σ).length=N'.length
  rw[S.cs.len]
  simp[qt];omega
theorem vY (S:iA X scope p js N')(I:Inv X pins σ H s)(GK:∀ q∈Ei,X.env.cells.lookup q.1=some q.2)(GJ:∀ y∈scope.names,y.2=.free->∃ c,(y.1,c)∈Ei)
  (hA:A.handled=none) (HQ:A.frames=some X.stack) (HA:A.depth<recursionLimit) (r:RelV x u)
  (hf:(f,kla_obj "<lambda>" qual params body scope Ei pm c' IZ)∈pins) (hc:H c'=some (lV c' qual))
  (HG:bindArgs (kla_fn "<lambda>" qual params body scope Ei pm (.ref c') IZ) ⟨[u],[]⟩=pure [(p,u)])
  (he:PE (tQ X A qual scope N' Ei f (.ref c') s H) body te) (h:te (qt x js σ) H Q):wpAny (model X.prog X.w) A (call (.ref f) [u]) (EP X pins σ Q) (fun _ _=>False) s:=by
 have ho:=(I.pin _ (yv _ hf)).1
 have G8:s.heap.CodeRec (.ref c') qual:=(I.BR c' _ hc).1
 refine wpAny_call (kla_callFunE (fd:=kla_fn "<lambda>" qual params body scope Ei pm (.ref c') IZ) (body:=body) HA ho rfl S.co S.gen rfl G8 ?_)
 rw[HG]
 refine yu (wpAny_newFunctionEnv S.JL (fun y hy=>by rw[yK.mp hy];exact S.par) (fun h₁ IT Y3=>⟨?_,?_⟩) S.cs.kind)
 ·exact (I.nolimit).fresh _ Y3
 ·have hk₁:∀ b o,s.heap.get? b=some o->h₁.get? b=some o:=fun b o e=>Y3.extBut b o (z9 (yH e)) (yd _ e)
  have J:=uJ (t:=s.toks+[(p,u)].length) (A:=A) (qual:=qual) (f:=f) (c':=c') S I GK GJ hA HQ r IT hk₁
  refine kla_codeExpr (zR (he [] _ _ H _ J h) (fun v s' j'=>?_) fun e s' z=>z.elim)
  obtain⟨y,H',J',ry,q⟩:=j'
  exact I.after ⟨y,H',J'.os,J'.bare,J'.base,J'.BR,ry,q⟩
end
theorem oN:bootBuiltins "sorted"=some (.builtin "sorted"):=by decide +kernel
theorem fM {α β:Type}{R:α->β->Prop}{l₂ m₂:List β} (h:m₂.Perm l₂):∀ {l₁:List α},Paired R l₁ l₂->∃ m₁:List α,m₁.Perm l₁/\Paired R m₁ m₂:=by
 induction h with
 | nil=>intro l₁ r;cases r;exact⟨[],List.Perm.refl _,.nil⟩
 | cons x _ ih=>
  intro l₁ r
  cases r with
  | cons a b=>
   obtain⟨m,p,q⟩:=ih b
   exact⟨_::m,p.cons _,.cons a q⟩
 | swap x y l=>
  intro l₁ r
  cases r with
  | cons a b=>
   cases b with
   | cons c d=>exact⟨_::_::_,List.Perm.swap _ _ _,.cons c (.cons a d)⟩
 | trans _ _ ih1 XI=>
  intro l₁ r
  obtain⟨m,p,q⟩:=XI r
  obtain⟨m',p',q'⟩:=ih1 q
  exact⟨m',p'.trans p,q'⟩
theorem rJ {vs:List Value}{xs:List V} (r:Vals xs vs):∀ ks:List Int,Paired (fun (a:Int×V) (b:Int×Value)=>a.1=b.1/\RelV a.2 b.2) (ks.zip xs) (ks.zip vs):=by
 induction r with
 | nil=>intro ks;simp;exact .nil
 | cons a _ ih=>
  intro ks
  cases ks with
  | nil=>simp;exact .nil
  | cons k ks=>exact .cons ⟨rfl,a⟩ (ih ks)
theorem kQ {ps:List (Int×Value)}{qs:List (Int×V)} (r:Paired (fun (a:Int×V) (b:Int×Value)=>a.1=b.1/\RelV a.2 b.2) qs ps):Vals (qs.map Prod.snd) (ps.map Prod.snd)/\(ps.Pairwise (fun p q=>p.1<=q.1)->qs.Pairwise fun p q=>p.1<=q.1):=by
 induction r with
 | nil=>exact⟨.nil,fun _=>.nil⟩
 | cons a b ih=>
  refine⟨.cons a.2 ih.1,fun h=>?_⟩
  obtain⟨h1,h2⟩:=Ax.mp h
  refine Ax.mpr ⟨fun q hq=>?_,ih.2 h2⟩
  obtain⟨i,hi⟩:=zB.mp hq
  obtain⟨q',e,r1,_⟩:=Paired.at b hi
  rw[a.1,r1]
  exact h1 q' (yj e)
theorem vZ {ks:List Int}{vs out:List Value}{xs:List V} (h:KskOut false ks vs out) (r:Vals xs vs):∃ qs:List (Int×V),qs.Perm (ks.zip xs)/\qs.Pairwise (fun p q=>p.1<=q.1)/\Vals (qs.map Prod.snd) out:=by
 obtain⟨ps,hp,rfl,ho⟩:=h
 obtain⟨qs,q1,q2⟩:=fM hp (rJ r ks)
 exact⟨qs,q1,(kQ q2).2 (by simpa using ho),(kQ q2).1⟩
noncomputable def qp (sc:Scope)(N:List Str)(scope:Scope)(p:Str)(js:List Nat)(N':List Str):Bool:=
 gg sc N scope 1 js N'&&((N'[0]?==some p)&&((!scope.isCoroutine)&&((!scope.isGenerator)&&(scope.names.all (fun x=>x.2 != .cell)&&(scope.names.lookup p==some .local)))))
theorem jr {X:Cx}{sc:Scope}{N:List Str}{scope:Scope}{p:Str}{js:List Nat}{N':List Str} (QS:X.env.scope=sc) (hN:X.N=N) (h:qp sc N scope p js N'=true):iA X scope p js N':=by
 unfold qp at h
 simp only[zg,Ad,Bool.not_eq_true',zF,bne_iff_ne]at h
 obtain⟨h1,h2,h3,h4,h5,h6⟩:=h
 exact⟨iu QS hN h1,h2,h3,h4,h5,h6⟩
noncomputable def Sf (K:PySem.W.Frag)(H:Hp)(v:V)(xs:List V):Prop:=
 (∃ l,v=.ref l/\B' K H l xs)\/∃ (r:Addr)(n:Nat),v=.ref r/\H r=some (.rng 0 n)/\n<=1000/\xs=(List.range n).map fun i:Nat=>V.int (i:Int)
section
variable {prog : Program}{w : World}{A : Around}{E : Value -> Shared -> Prop}{s : Shared}
theorem qQ {r:Addr}{n:Nat}{t u v:Tok}{Q:List Value->Shared->Prop} (hh:A.handled=none) (hr:IsRange s.heap r 0 n 1 t u v) (hn:n<=1000)
  (h:∀ h' tk vs,(∀ b o,s.heap.get? b=some o->h'.get? b=some o)->Vals ((List.range n).map fun i:Nat=>V.int (i:Int)) vs->Q vs { s with heap:=h',toks:=tk }):
  wpAny (model prog w) A (collect (.ref r)) Q E s:=by
 have hs:Builtin.Range.small 0 n 1=true:=small_one (by omega) (by omega) (by omega) (by omega)
 have hz:Builtin.Range.rangeSize 0 n 1=(n:Int):=by rw[rangeSize_one];split <;> omega
 have key:∀ R:Result->Shared->Prop,(∀ h' tk Ii c',(∀ b o,s.heap.get? b=some o->h'.get? b=some o)->h'.get? s.heap.objs.size=some { cls:=.type "list",dict:=none,data:=.seq Ii c',slots:=#[] }->
   ItemsOf (fun i v=>∃ t,v=.int (0+i * 1) t) Ii n->R (.ok (.ret (.ref s.heap.objs.size))) { s with heap:=h',toks:=tk })->codeAny (model prog w) A (.builtin "proto.collect" ⟨[.ref r],[]⟩) R s:=by
  intro R hR
  refine codeAny_builtin F.entry_proto_collect ?_
  rw[Around.under_plainId F.plain_proto_collect _]
  show wpAny _ A.in1 (newList [] >>= fun l=>again (.builtin "list.__iadd__" ⟨[l,.ref r],[]⟩)) _ _ s
  refine y9 (AG ?_)
  refine yu ⟨plainId_quiet F.plain_list_iadd _,codeAny_builtin F.entry_list_iadd ?_⟩
  rw[Around.under_plainId F.plain_list_iadd _]
  have hS:(s.heap.push { cls:=.type "list",data:=.seq ([]:List Value).toArray }).get? s.heap.objs.size=some { cls:=.type "list",data:=.seq #[] 0 }:=yC _ rfl
  show wpAny _ A.in1 (Builtin.List.listExtendWith (.ref s.heap.objs.size) (.ref r) (.ref s.heap.objs.size)) _ _ _
  refine wpAny_extend_range (R:=R) (s:={ s with heap:=s.heap.push { cls:=.type "list",data:=.seq ([]:List Value).toArray } }) hh (show IsRange (s.heap.push { cls:=.type "list",data:=.seq ([]:List Value).toArray }) r 0 n 1 t u v from yd _ hr) hs hz (by omega) s.heap.objs.size (.ref s.heap.objs.size) 0 hS fun h' tk Ii c' hk Wf FE=>?_
  exact hR h' tk Ii c' (fun b o e=>hk b o (z9 (yH e)) (yd _ e)) Wf FE
 unfold collect
 refine y9 (wpAny_runValue (key _ fun h' tk Ii c' hk Wf FE=>?_))
 show wpAny (model prog w) A (do
   let o <- load s.heap.objs.size
   match o.data with
   | .seq xs _=>pure xs.toList
   | _=>unsupported "internal:collect") Q E _
 refine y9 (wpAny_load Wf ?_)
 refine yu (h h' tk Ii.toList hk ?_)
 have hI:IntsAre Ii.toList (rangeKs 0 n):=kll_ints _ _ _ (by rw[zK];exact FE.1) fun j v hj=>FE.2 j v (by rw[<- hj,Ai])
 have hv:=iB hI
 have e:(rangeKs 0 n).map V.int=(List.range n).map fun i:Nat=>V.int (i:Int):=by
  unfold rangeKs
  rw[yt]
  refine z7 fun i _=>?_
  simp
 rw[e]at hv
 exact hv
end
section
variable {X : Cx}{e : Expr}{p pos V7 Hw : Pos}{params : Arguments}{body : Expr}{scope : Scope}{x : Str}{js : List Nat}{N' : List Str}{P : Addr}{ta : TA}{te : TE}{k : Nat}
noncomputable def Ub (ta:TA):TE:=fun σ H Q=>ta σ H fun vs H1=>∃ n:Nat,vs=[.int n]/\n<=1000/\∀ r,H1 r=none->Q (.ref r) (upd H1 r (.rng 0 n))
theorem ME {a:Expr}{ta:TA} (hg:Gl X "range") (hm:X.mg "range"=none) (ha:PA X [a] ta) (hs:starEach [a] X.env=[(false,eval a X.env)]:=by rfl):PE X (.Call (.Name "range" p) [a] [] pos) (Ub ta):=by
 intro pins s σ H Q I h
 refine Call_ (dL I hg hm boot_range (zC (Ca (ha pos pins s σ H _ I h) fun us s1 j'=>?_) hs rfl))
 obtain⟨vs,H1,I1,r1,q1⟩:=j'
 obtain⟨n,e,hn,q⟩:=q1
 subst e
 cases r1 with
 | cons r rr=>
  cases rr
  obtain⟨t,rfl⟩:=r
  refine call_range_1 ?_
  refine⟨.ref s1.heap.objs.size,upd H1 s1.heap.objs.size (.rng 0 n),I1.laid (fun b u e=>yd _ e) (yh _) ?_,rfl,q _ (I1.BR.fresh (yh _))⟩
  exact⟨_,_,_,yC _ rfl⟩
noncomputable def U' (K:PySem.W.Frag)(P:Addr)(Hw:Pos)(qual:Str)(js:List Nat)(ta:TA)(te:TE):TE:=fun σ H Q=>ta σ H fun vs H1=>∃ (v:V)(xs:List V)(ks:List Int)(J:Hp->Prop),vs=[v]/\Sf K H1 v xs/\xs.length<64/\ks.length=xs.length/\TabAt P Hw qual H1/\
 (∀ H2,Sb P H1 H2->TabAt P Hw qual H2->J H2)/\
 (∀ (i:Nat) x k,xs[i]?=some x->ks[i]?=some k->∀ H2,J H2->te (qt x js σ) H2 fun y H3=>y=.int k/\f' H2 H3/\J H3)/\
 ∀ H2 D (qs:List (Int×V)),J H2->Sb P H1 H2->TabAt P Hw qual H2->H2 D=none->qs.Perm (ks.zip xs)->qs.Pairwise (fun p q=>p.1<=q.1)->Q (.ref D) (upd H2 D (.lst (qs.map Prod.snd)))
theorem kM (hr:Ck (k+3) X.A)(hc:X.calm=true)(hg:Gl X "sorted")(hm:X.mg "sorted"=none)(L:WT X P)(S:iA X scope x js N')(ha:PA X [e] ta)
  (he:∀ A qual cl f cd s H,Ck k (A.deeper (envX qual scope s.heap.objs.size f cd cl))->PE (tQ X A qual scope N' cl f cd s H) body te)
  (HG:∀ (qual:Str) Ei pm cd IZ u,bindArgs (kla_fn "<lambda>" qual params body scope Ei pm cd IZ) ⟨[u],[]⟩=pure [(x,u)]) (NK:defaultsOf params X.env=([],[]))
  (IS:backTo pos (starEach [e] X.env)=(false,eval e X.env)::backTo pos (starEach [] X.env):=by rfl) (FD:(backTo pos (starEach [e] X.env)).any (·.1)=false:=by rfl):
  PE X (.Call (.Name "sorted" p) [e] [⟨some "key",.Lambda params body scope Hw,V7⟩] pos) (U' X.K P Hw (X.env.qual++"<lambda>") js ta te):=by
 intro pins s σ H Q I h
 refine Au (dL I hg hm oN ?_ (by decide) (by decide))
 have NU:∀ y∈scope.names,y.2=.free->∃ c,X.env.cells.lookup y.1=some c:=fun y hy hf=>I.ok.has y.1 (S.cs.free y hy hf)
 obtain⟨cl,GK,HF,GJ⟩:=lO (env:=X.env) NU
 refine callWith_kw (Ca (ha pos pins s σ H _ I h) fun us s1 j'=>?_) IS FD rfl rfl
 obtain⟨vs,H1,I1,r1,q1⟩:=j'
 obtain⟨v,xs,ks,J,rfl,hcv,Ib,hlen,T,hJ,HZ,VY⟩:=q1
 obtain⟨u,rfl,ru⟩:=dP r1
 show wpAny _ _ (evalAll [(do let v <- eval (.Lambda params body scope Hw) X.env;standAt pos;pure v)]) _ _ s1
 refine wpAny_evalAll_cons (y9 (vX L I1 T GK NK fun f c' IZ H2 s2 I2 sb T2 GW=>y9 (BC (yu (wpAny_evalAll_nil ?_)))))
 show wpAny (model X.prog X.w) X.A (call (.builtin "sorted") [u] [(Str.ofString "key",.ref f)]) _ _ s2
 have HA:Ck (k+1) X.A.in1.in1:=hr.in1.in1
 have hh:X.A.in1.handled=none:=I.ok.hd hc
 have NP:∀ (Q':List Value->Shared->Prop)(E':Value->Shared->Prop),(∀ h' tk us,(∀ b o,s2.heap.get? b=some o->h'.get? b=some o)->Vals xs us->Q' us { s2 with heap:=h',toks:=tk })->wpAny (model X.prog X.w) X.A.in1 (collect u) Q' E' s2:=by
  intro Q' E' hq
  rcases hcv with⟨l,rfl,hl⟩|⟨r,n,rfl,hl,hn,rfl⟩
  ·cases ru
   have DP:B' X.K H2 l xs:=by
    rcases hl with (h1|⟨o,h1⟩)|h1
    ·exact .inl (.inl (sb _ _ (fun z=>by obtain⟨ps,e,_⟩:=T;rw[z,e]at h1;cases h1) h1))
    ·exact .inl (.inr ⟨o,sb _ _ (fun z=>by obtain⟨ps,e,_⟩:=T;rw[z,e]at h1;cases h1) h1⟩)
    ·exact .inr h1
   obtain⟨its,rv,pl,hz⟩:=I2.list DP
   have e1:=rv.length
   exact collect_list pl.isList (hq _ s2.toks its (fun b o e=>by
    have BU:b<s2.heap.objs.size:=yH e
    rw[Heap.get?_update_ne _ _ _ _ (z9 BU)]
    exact yd _ e) rv) (by rw[Ab];omega)
  ·cases ru
   have DP:H2 r=some (.rng 0 n):=sb _ _ (fun z=>by obtain⟨ps,e,_⟩:=T;rw[z,e]at hl;cases hl) hl
   obtain⟨t,u,v,e⟩:=I2.BR r _ DP
   exact qQ hh e hn fun h' tk vs hk hv=>hq h' tk vs hk hv
 let G:List (Addr×Obj)->Shared->Prop:=fun own s'=>∃ H',Inv X (own++((f,kla_obj "<lambda>" (X.env.qual++"<lambda>") params body scope cl ((X.mg "__name__").getD .none) c' IZ)::pins)) σ H' s'/\J H'/\Sb P H1 H'/\TabAt P Hw (X.env.qual++"<lambda>") H'/\H' c'=some (lV c' (X.env.qual++"<lambda>"))/\
  ∀ q∈own,X.s₀.heap.objs.size<=q.1/\∀ r∈X.pn++((f,kla_obj "<lambda>" (X.env.qual++"<lambda>") params body scope cl ((X.mg "__name__").getD .none) c' IZ)::pins),r.1≠q.1
 have SKG:∀ us,Vals xs us->SK X.prog X.w X.A.in1.in1 (.ref f) us ks G:=fun us PR=>by
  refine⟨fun {own s a o} g hm=>?_,fun {own MJ s} g hs=>?_,fun {own s h' tk} g hk=>?_,fun {own s h' tk a o} g hk hz ho hd=>?_,fun {own s h' a o o'} g ha hb ho hd=>?_,fun {own s i v k} hv hk g=>?_⟩
  ·obtain⟨H',I',_⟩:=g
   exact (I'.pin _ (yv _ (yY _ hm))).1
  ·obtain⟨H',I',j,a1,a2,a3,a4⟩:=g
   refine⟨H',I'.De fun q hq=>?_,j,a1,a2,a3,fun q hq=>a4 q (hs q hq)⟩
   rcases yF.mp hq with z|z
   ·exact I'.pin q (yv _ (yY _ (hs q z)))
   ·exact I'.pin q (yv _ (yv _ z))
  ·obtain⟨H',I',r⟩:=g
   exact⟨H',I'.kept hk,r⟩
  ·obtain⟨H',I',j,a1,a2,a3,a4⟩:=g
   have U0:Inv X _ σ H' { s with heap:=h',toks:=tk }:=I'.kept hk
   refine⟨H',U0.De fun q hq=>?_,j,a1,a2,a3,fun q hq=>?_⟩
   ·rcases yx.mp (show q∈(a,o)::(own++_) from hq) with rfl|z
    ·exact⟨ho,I'.BR.fresh hz,Af (yG I'.lt hz),I'.JK hz,hd⟩
    ·exact U0.pin q (yv _ z)
   ·rcases yx.mp hq with rfl|z
    ·refine⟨yV I'.sz hz,fun r hr=>?_⟩
     have CI:r∈X.pn++(own++_):=(yF.mp hr).elim (fun z=>yY _ z) fun z=>yv _ (yv _ z)
     exact z9 (yG (yH (I'.pin r CI).1) hz)
    ·exact a4 q z
  ·obtain⟨H',I',j,a1,a2,a3,a4⟩:=g
   obtain⟨p1,p2,p3,p4,p5⟩:=I'.pin (a,o) (yv _ yw)
   have I0:Inv X (own++_) σ H' s:=I'.De fun q hq=>I'.pin q (yv _ (yE _ hq))
   have Zl:Inv X (own++_) σ H' { s with heap:=h',toks:=s.toks }:=I0.turned (fun b u n e=>(hb.2 b n).trans e) p2 p3 (.inr (a4 _ yw).1) (fun y c e z=>by
     obtain⟨v,o2,q1,q2⟩:=I0.cell y c e
     rw[z]at q1
     have Q3:s.heap.get? a=some o2:=q1
     rw[p1]at Q3;cases Q3
     exact p5 _ q2) (fun q hq=>by
     rcases yF.mp hq with z|z
     ·exact (a4 _ yw).2 q (yY _ z)
     ·rcases yF.mp z with z|z
      ·exact ha q z
      ·exact (a4 _ yw).2 q (yv _ z))
   refine⟨H',Zl.De fun q hq=>?_,j,a1,a2,a3,fun q hq=>?_⟩
   ·rcases yx.mp (show q∈(a,o')::(own++_) from hq) with rfl|z
    ·exact⟨ho,p2,p3,p4,hd⟩
    ·exact Zl.pin q (yv _ z)
   ·rcases yx.mp hq with rfl|z
    ·exact a4 (a,o) yw
    ·exact a4 q (yE _ z)
  ·obtain⟨H',I',j,a1,a2,a3,a4⟩:=g
   obtain⟨xv,hx,rx⟩:=PR.at' hv
   refine Ca (vY (A:=X.A.in1.in1) (N':=N') (qual:=X.env.qual++"<lambda>") (params:=params) (body:=body) S I' HF GJ HA.hd I'.ok.frames HA.depth rx (yv _ yw) a3 (HG _ _ _ _ _ _)
    (he _ _ _ _ _ _ _ (HA.deeper _)) (HZ i xv _ hx hk H' j)) fun y s' ⟨z,H3,I3,rz,ez,sm,j3⟩=>?_
   subst ez
   obtain⟨t,rfl⟩:=rz
   exact⟨t,rfl,H3,I3,j3,a1.trans sm.sb,a2.same sm,sm _ _ a3,a4⟩
 refine u8 SKG (fun us PR=>by rw[<- PR.length];exact hlen) (by omega) NP ⟨H2,I2,hJ H2 sb T2,sb,T2,GW,fun q hq=>nomatch hq⟩ fun s' us D out c PR g ko=>?_
 obtain⟨H',I',j,a1,a2,a3,a4⟩:=g
 obtain⟨p1,p2,p3,p4,p5⟩:=I'.pin (D,_) (yv _ yw)
 obtain⟨qs,q1,q2,q3⟩:=vZ ko PR
 have I0:Inv X pins σ H' s':=I'.De fun q hq=>I'.pin q (yv _ (yE _ (yE _ hq)))
 have fp:ja X pins H' D:=⟨p2,p3,p4,.inr (a4 _ yw).1,fun y c e z=>by
   obtain⟨v,o2,q1,q2⟩:=I0.cell y c e
   rw[z]at q1
   have Q3:s'.heap.get? D=some o2:=q1
   rw[p1]at Q3;cases Q3
   exact p5 _ q2,fun q hq=>(a4 _ yw).2 q ((yF.mp hq).elim (fun z=>yY _ z) fun z=>yv _ (yE _ z))⟩
 refine⟨.ref D,upd H' D (.lst (qs.map Prod.snd)),I0.Hc fp (a4 _ yw).1 ⟨?_,out.toList,c,q3,?_⟩,rfl,VY H' D qs j a1 a2 p2 q1 q2⟩
 ·have:=q1.length_eq
  rw[Br]at this
  rw[y6,this,Ab]
  omega
 ·simpa using p1
end
structure xW (mg : Str -> Option Value) (base : Heap) (fd : FuncData) (P : Addr) : Prop where
  code : ∃ c, fd.code = .ref c /\ CodeHd base c P
  bm : Bm mg base
section
variable {P : Program}{w : World}{K : PySem.W.Frag}{mg : Str -> Option Value}{base : Heap}
theorem Cu.Xl {x qual:Str}{st:Stmt}{f:Addr}{fd:FuncData}{N ps:List Str}{k:Nat}{sp:Sp}{Pt:Addr} (F:Cu K x qual st f fd) (L:xW mg base fd Pt) (S:ai N ps (af st)) (len:∀ vs H Q E,sp vs H Q E->vs.length=ps.length)
  (E5:∀ (BJ:Value)(A:Around)(outer:List Env)(s:Shared)(H:Hp)(vs:List V)(Q:VK)(E:XK),WT (lK Co P w K mg base N qual (af st) f BJ A outer s H E).JJ Pt->Ck k (A.deeper (envOfC qual (af st) s.heap.objs.size f BJ))->sp vs H Q E->
   ∃ t,GA (lK Co P w K mg base N qual (af st) f BJ A outer s H E).JJ (aR st) t/\t { nx:=fun _ H'=>Q .non H',rt:=Q } (start N vs) H):BF P w K mg base Co (k+1) f fd ps sp:=by
 obtain⟨oc,od,kV,doc,pm,an,BJ,ct,DS,rfl,lk,G8⟩:=F.ex
 refine wj lk G8 S len fun A outer s H vs Q E hr Jm=>?_
 obtain⟨t,h,q⟩:=E5 BJ A outer s H vs Q E ⟨L.code,L.bm⟩ hr Jm
 exact⟨t,h.JJ,q⟩
end
structure wI (P1 P2 : Addr) (H : Hp) : Prop where
  t1 : H P1 = some (.tbl #[])
  t2 : H P2 = some (.tbl #[])
  rest : ∀ b, H b = none \/ (∃ o xs, H b = some (.frz o (.lst xs))) \/ b = P1 \/ b = P2
theorem uI {P:Program}{w:World}{K:PySem.W.Frag}{mg mb:Str->Option Value}{CX:Kk}{k:Nat}{fa a c1 P1 c2 P2:Addr}{fd:FuncData}{x:Str}{sp:Sp}{s₁:Shared}{vs:List Value}{ns:List Int}
  (KX:K.In s₁.heap) (IT:s₁.heap.Ns mainGlobals mg) (hb:s₁.heap.Ns builtinsNs mb) (Te:∀ x:Str,x≠"__name__"->mb x=bootBuiltins x) (VL:s₁.heap.NoLimit) (hg:s₁.gens=#[]) (W9:Bm mg s₁.heap)
  (T1:CodeHd s₁.heap c1 P1/\s₁.heap.get? P1=some (tabObj #[])) (T2:CodeHd s₁.heap c2 P2/\s₁.heap.get? P2=some (tabObj #[])) (K1:K.lookup P1=none) (K2:K.lookup P2=none)
  (ha:s₁.heap.get? a=some { cls:=.type "list",data:=.seq vs.toArray }) (hi:IntsAre vs ns) (hl:ns.length<=sizeLine) (hr:Ck k callerA)
  (F:∀ base:Heap,K.In base->base.Ns mainGlobals mg->Bm mg base->CodeHd base c1 P1->CodeHd base c2 P2->BF P w K mg base CX k fa fd [x] sp) (HG:∀ (s:Shared)(u:Value),BindsTo s fd ⟨[u],[]⟩ [(x,u)])
  (Jm:∀ H:Hp,wI P1 P2 H->B' K H a (ns.map V.int)->sp [.ref a] H (fun v _=>v=.bl true) fun _ _ _=>False)
  (RC:∀ H e s',CX [] H s₁ (fun _ _ _=>False) e s'->False):
  codeAny (model P w) callerA (.call (.ref fa) ⟨[.ref a],[]⟩) (fun r s'=>r=.ok (.ret (.bool true))/\OldK s₁.heap s'.heap/\s'.os=s₁.os/\AllBare s'.gens) s₁:=by
 have rv:=iB hi
 have V2:=hi.length
 have OJ:a≠P1:=fun z=>by rw[z,T1.2]at ha;cases ha
 have Xv:a≠P2:=fun z=>by rw[z,T2.2]at ha;cases ha
 have core:∀ H:Hp,wI P1 P2 H->B' K H a (ns.map V.int)->Ep P w H s₁.heap->(∀ b,H b≠none->b=a\/b=P1\/b=P2)->(H a≠none->K.lookup a=none)->
   codeAny (model P w) callerA (.call (.ref fa) ⟨[.ref a],[]⟩) (fun r s'=>r=.ok (.ret (.bool true))/\OldK s₁.heap s'.heap/\s'.os=s₁.os/\AllBare s'.gens) s₁:=by
  intro H hO hS BR hA hK
  have Fs:∀ {b:Addr}{o:Obj},s₁.heap.get? b=some o->H b=none->(lH s₁.heap H).get? b=some o:=fun e n=>wb e n
  have Kn:∀ {b:Addr}{o:Obj},s₁.heap.get? b=some o->o.cls≠.none->o.cls≠.type "list"->H b=none:=fun {b o} e d1 d2=>by
   cases q:H b with
   | none=>rfl
   | some u=>
    rcases hA b (by rw[q];simp) with e'|e'|e'
    ·rw[e',ha]at e;cases e;exact absurd rfl d2
    ·rw[e',T1.2]at e;cases e;exact absurd rfl d1
    ·rw[e',T2.2]at e;cases e;exact absurd rfl d1
  have noD:∀ {b:Addr}{o:Obj}{es:Array DictEntry}{ep:Nat},s₁.heap.get? b=some o->o.data=.dict es ep->H b=none:=fun {b o es ep} e d=>by
   cases q:H b with
   | none=>rfl
   | some u=>
    rcases hA b (by rw[q];simp) with e'|e'|e'
    ·rw[e',ha]at e;cases e;cases d
    ·rw[e',T1.2]at e;cases e;cases d
    ·rw[e',T2.2]at e;cases e;cases d
  have SM:∀ {b:Addr}{m:Str->Option Value},s₁.heap.Ns b m->(lH s₁.heap H).Ns b m:=fun {b m} j'=>by obtain⟨o,es,ep,e,d,r⟩:=j';exact⟨o,es,ep,Fs e (noD e d),d,r⟩
  have YF:K.In (lH s₁.heap H):=fun b o e=>Fs (KX b o e) (by
   cases q:H b with
   | none=>rfl
   | some u=>
    rcases hA b (by rw[q];simp) with e'|e'|e'
    ·rw[e']at e q;rw[hK (by rw[q];simp)]at e;cases e
    ·rw[e',K1]at e;cases e
    ·rw[e',K2]at e;cases e)
  have hM:Mod K mg (lH s₁.heap H):=⟨YF,SM IT,⟨mb,SM hb,Te⟩,let ⟨mc,h1,h2⟩:=VL;⟨mc,SM h1,h2⟩⟩
  have W8:Bm mg (lH s₁.heap H):=let ⟨bm,ob,b1,b2,b3,b4,r⟩:=W9;⟨bm,ob,b1,b2,Fs b3 (Kn b3 (by rw[b4];exact fun z=>nomatch z) (by rw[b4];decide)),b4,r⟩
  have G8:∀ {c Pt:Addr},CodeHd s₁.heap c Pt->CodeHd (lH s₁.heap H) c Pt:=fun j'=>by obtain⟨o,vs,file,tf,flags,tg,inF,text,tt,e1,e2,r⟩:=j';exact⟨o,vs,file,tf,flags,tg,inF,text,tt,Fs e1 (Kn e1 (by rw[e2];exact fun z=>nomatch z) (by rw[e2];decide)),e2,r⟩
  have e0:Io P w K mg (lH s₁.heap H) callerA [] s₁ H:=⟨rfl,hM,fun b o e=>xC e,Nat.le_of_eq (uQ _ _),trivial,fun b hb=>absurd (show b∈([]:List Addr) from hb) (by simp),BR,.of_eq hg⟩
  refine codeAny_mono ((F _ YF (SM IT) W8 (G8 T1.1) (G8 T2.1)).run callerA [] s₁ H ⟨[.ref a],[]⟩ [.ref a] [.ref a] _ _ hr e0 (HG s₁ (.ref a)) (.cons rfl .nil) (Jm H hO hS)) fun r s' h=>?_
  cases r with
  | error e=>exact (RC H e s' h).elim
  | ok fl=>
   cases fl with
   | next=>exact False.elim h
   | brk=>exact False.elim h
   | cont=>exact False.elim h
   | ret u=>
    obtain⟨v,H',os,bare,un,R3,r',q⟩:=h
    have q':v=.bl true:=q
    subst q'
    obtain rfl:u=Value.bool true:=r'
    have tab:∀ {c b:Addr}{o:Obj},CodeHd s₁.heap c b/\s₁.heap.get? b=some (tabObj #[])->H b=some (.tbl #[])->s₁.heap.get? b=some o->asItWas s₁.heap s'.heap b o/\∃ o',s'.heap.get? b=some o':=fun {c b o} T q e=>by
     obtain⟨more,e1⟩:=un.FY b #[] q
     have e2:s'.heap.get? b=some (tabObj (#[]++more)):=R3 b _ e1
     rw[T.2]at e;cases e
     exact⟨.inr (.inl ⟨(T.1.tab T.2).isCodeTable,rfl,#[],more,rfl,e2⟩),_,e2⟩
    have old:∀ b o,s₁.heap.get? b=some o->asItWas s₁.heap s'.heap b o/\∃ o',s'.heap.get? b=some o':=fun b o e=>by
     rcases hO.rest b with z|⟨ob,xs,z⟩|z|z
     ·have:=un.keep b o e z (by intro z;exact absurd (show b∈([]:List Addr) from z) (by simp)) (by simp)
      exact⟨.inl this,o,this⟩
     ·have z2:=un.FF b ob _ z
      obtain⟨e1,_⟩:=BR b _ z
      obtain⟨e2,_⟩:=R3 b _ z2
      rw[e]at e1;cases e1
      exact⟨.inl e2,o,e2⟩
     ·subst z;exact tab T1 hO.t1 e
     ·subst z;exact tab T2 hO.t2 e
    exact⟨rfl,⟨fun b o e=>(old b o e).1,fun b o e=>(old b o e).2⟩,os,bare⟩
 have tbl:∀ {b:Addr}{H:Hp},s₁.heap.get? b=some (tabObj #[])->BN P w H s₁.heap b (.tbl #[]):=fun e=>e
 cases hk:K.lookup a with
 | some o=>
  have e:=KX a o hk
  rw[ha]at e
  cases e
  let H:Hp:=fun b=>if b=P1\/b=P2 then some (.tbl #[]) else none
  have h1:H P1=some (.tbl #[]):=if_pos (.inl rfl)
  have h2:H P2=some (.tbl #[]):=if_pos (.inr rfl)
  have h3:∀ b,H b≠none->b=P1\/b=P2:=fun b z=>by
   by_cases c:b=P1\/b=P2
   ·exact c
   ·exact absurd (if_neg c) z
  refine core H ⟨h1,h2,fun b=>?_⟩ (.inr ⟨_,vs.toArray,_,hk,rfl,rfl,rfl,by rw[yL,V2];exact hl,by simpa using rv⟩) (fun b u z=>?_) (fun b z=>.inr (h3 b z)) fun z=>?_
  ·by_cases c:b=P1\/b=P2
   ·exact .inr (.inr c)
   ·exact .inl (if_neg c)
  ·rcases h3 b (by rw[z];simp) with c|c
   ·rw[c,h1]at z;cases z;rw[c];exact tbl T1.2
   ·rw[c,h2]at z;cases z;rw[c];exact tbl T2.2
  ·rcases h3 a z with c|c
   ·exact absurd c OJ
   ·exact absurd c Xv
 | none=>
  let H:Hp:=fun b=>if b=a then some (.frz { cls:=.type "list",data:=.seq vs.toArray } (.lst (ns.map V.int))) else if b=P1\/b=P2 then some (.tbl #[]) else none
  have h0:H a=some (.frz { cls:=.type "list",data:=.seq vs.toArray } (.lst (ns.map V.int))):=if_pos rfl
  have h1:H P1=some (.tbl #[]):=(if_neg (Ne.symm OJ)).trans (if_pos (.inl rfl))
  have h2:H P2=some (.tbl #[]):=(if_neg (Ne.symm Xv)).trans (if_pos (.inr rfl))
  have h3:∀ b,H b≠none->b=a\/b=P1\/b=P2:=fun b z=>by
   by_cases c0:b=a
   ·exact .inl c0
   ·by_cases c:b=P1\/b=P2
    ·exact .inr c
    ·exact absurd ((if_neg c0).trans (if_neg c)) z
  refine core H ⟨h1,h2,fun b=>?_⟩ (.inl (.inr ⟨{ cls:=.type "list",data:=.seq vs.toArray },h0⟩)) (fun b u z=>?_) h3 fun _=>hk
  ·by_cases c0:b=a
   ·rw[c0];exact .inr (.inl ⟨_,_,h0⟩)
   ·by_cases c:b=P1\/b=P2
    ·exact .inr (.inr c)
    ·exact .inl ((if_neg c0).trans (if_neg c))
  ·rcases h3 b (by rw[z];simp) with c|c|c
   ·rw[c,h0]at z;cases z;rw[c]
    exact⟨ha,by rw[y6];exact hl,vs,_,rv,ha⟩
   ·rw[c,h1]at z;cases z;rw[c];exact tbl T1.2
   ·rw[c,h2]at z;cases z;rw[c];exact tbl T2.2
theorem JC {l:PySem.W.OpenLaw}{n k:Nat}{q:Program}{loose:List Str}{XP:(Str->Option Value)->Heap->Prop}{YP:World->Heap->Prop}{d d1 d2:DefRec}{K:Params->PySem.W.Frag}{CX:Kk}{sp:PySem.W.Frag->Addr->Addr->Sp}{x x1 x2:Str}
  (hn:l.most=some n) (OU:n<=sizeLine) (Rp:d.params.defaults=[]) (hr:Ck k callerA)
  (hY:∀ (w:World)(h:Heap),YP w h->(K w.params).In h) (r1:(recsOf q).find? (fun e=>e.name==x1)=some d1) (r2:(recsOf q).find? (fun e=>e.name==x2)=some d2)
  (F:∀ (w:World)(mg:Str->Option Value)(fa:Addr)(h:Heap),(K w.params).In h->h.Ns mainGlobals mg->mg d.name=some (.ref fa)->
   ∃ (fd:FuncData)(c1 P1 c2 P2:Addr),(∀ (s:Shared)(u:Value),BindsTo s fd ⟨[u],[]⟩ [(x,u)])/\tabIn (K w.params) x1=some (c1,P1)/\tabIn (K w.params) x2=some (c2,P2)/\P1≠P2/\(K w.params).lookup P1=none/\(K w.params).lookup P2=none/\
    ∀ base:Heap,(K w.params).In base->base.Ns mainGlobals mg->Bm mg base->CodeHd base c1 P1->CodeHd base c2 P2->BF l.prog w (K w.params) mg base CX k fa fd [x] (sp (K w.params) P1 P2))
  (Jm:∀ (K:PySem.W.Frag)(P1 P2:Addr)(H:Hp)(a:Addr)(ns:List Int),P1≠P2->ns.length<=n->wI P1 P2 H->B' K H a (ns.map V.int)->sp K P1 P2 [.ref a] H (fun v _=>v=.bl true) fun _ _ _=>False)
  (RC:∀ (H:Hp)(s:Shared)(e:Value)(s':Shared),CX [] H s (fun _ _ _=>False) e s'->False):
  PySem.W.WalkO q loose XP YP l.row.toRowW d [] (fun f vs=>PySem.call f vs):=by
 refine Att.HK hn Rp fun w s₀ s₁ mg mb fa o pm cd doc a vs ns G Y ho hd G8 hmg Nv hints hlen hg=>?_
 have KX:=hY w _ Y
 obtain⟨fd,c1,P1,c2,P2,hb,t1,t2,ne,k1,k2,hF⟩:=F w mg fa _ KX G.T.g hmg
 exact uI KX G.T.g G.T.b G.T.builtins G.T.nolimit hg G.T.bmain (tab_of G.T KX r1 t1) (tab_of G.T KX r2 t2) k1 k2 Nv hints (yV hlen OU) hr hF hb (fun H hO hS=>Jm (K w.params) P1 P2 H a ns ne hlen hO hS) fun H e s'=>RC H s₁ e s'
end L2
namespace L2
open PySem PySem.Spec PyProof.Rows
noncomputable abbrev bY (h:Heap)(T:Addr)(a b c:Value):Prop:=h.get? T=some { cls:=.type "tuple",data:=.seq #[a,b,c] }
structure v3 (z TI TO i1 i2 i3 l1 l2 l3 : Addr) : Prop where
  nd : [z, TI, TO, i1, i2, i3].Nodup
  a1 : l1 ∉ [z, TO, i1, i2, i3]
  a2 : l2 ∉ [z, TO, i1, i2, i3]
  a3 : l3 ∉ [z, TO, i1, i2, i3]
section
variable {prog : Program}{w : World}{A : Around}{E : Value -> Shared -> Prop}{s : Shared}
theorem dz {T:Addr}{a b c x:Value}{k:Nat}{Q:Unit->Shared->Prop} (hT:bY s.heap T a b c)
  (h:∀ h',h'.get? T=some { cls:=.type "tuple",data:=.seq ((#[a,b,c]:Array Value).setIfInBounds k x) }->Heap.SameBut T s.heap h'->Q () { s with heap:=h' }):
  wpAny (model prog w) A (updateSeq T (·.setIfInBounds k x)) Q E s:=by
 refine wpAny_updateSeq hT rfl (h _ ?_ (Ae ..))
 rw[Heap.get?_update_self _ hT rfl]
 simp[Obj.mapSeq]
theorem tY {z TI TO i1 i2 i3 l1 l2 l3:Addr}{k1 k2 k3:Nat}{xs ys zs:Array Value}{x y u a b c:Value}{Q:Value->Shared->Prop} (D:v3 z TI TO i1 i2 i3 l1 l2 l3)
  (hz:IsZip s.heap z TI TO .none) (NW:bY s.heap TI (.ref i1) (.ref i2) (.ref i3)) (Wc:bY s.heap TO a b c)
  (h1:s.heap.IsListIter i1 l1 k1) (h2:s.heap.IsListIter i2 l2 k2) (h3:s.heap.IsListIter i3 l3 k3) (DU:s.heap.IsList l1 xs) (DP:s.heap.IsList l2 ys) (Jq:s.heap.IsList l3 zs) (hx:xs[k1]?=some x) (hy:ys[k2]?=some y) (hu:zs[k3]?=some u)
  (hQ:∀ h',IsZip h' z TI TO (rawInt s.heap.objs.size)->bY h' TO x y u->h'.IsListIter i1 l1 (k1+1)->h'.IsListIter i2 l2 (k2+1)->h'.IsListIter i3 l3 (k3+1)->bY h' s.heap.objs.size x y u->h'.objs.size=s.heap.objs.size+1->
   (∀ c o,c≠z->c≠TO->c≠i1->c≠i2->c≠i3->s.heap.get? c=some o->h'.get? c=some o)->Q (.ref s.heap.objs.size) { s with heap:=h' }):
  wpAny (model prog w) A (Builtin.«zip.__next__» ⟨[.ref z],[]⟩) (fun fin s'=>∃ v,fin=.done (.ret v)/\Q v s') E s:=by
 have nd:=D.nd
 have b1:=D.a1
 have b2:=D.a2
 have b3:=D.a3
 simp only[zk,yx,yB,zS,not_or,B8,and_true,zT]at nd b1 b2 b3
 obtain⟨⟨Sg,Lk,z1,z2,z3⟩,⟨TITO,Zh,Zg,Zf⟩,⟨S3,S2,TU⟩,⟨OK,US⟩,UR⟩:=nd
 obtain⟨l1z,l1TO,l11,l12,l13⟩:=b1
 obtain⟨l2z,l2TO,l21,l22,l23⟩:=b2
 obtain⟨l3z,V5,l31,l32,l33⟩:=b3
 show wpAny _ _ (field (.ref z) 2 >>= _) _ _ _
 refine y9 (AW hz rfl (x:=.bool false) rfl ?_)
 show wpAny _ _ (field (.ref z) 3 >>= _) _ _ _
 refine y9 (AW hz rfl (x:=.ref TI) rfl ?_)
 refine y9 (AH NW rfl ?_)
 show wpAny _ _ (Builtin.SmallTypes.ownedTupleIsFree (.ref z) >>= _) _ _ _
 refine y9 ?_
 unfold Builtin.SmallTypes.ownedTupleIsFree
 refine y9 (AW hz rfl (x:=.none) rfl (yu ?_))
 simp only[B0]
 refine y9 (wpAny_rule ?_)
 refine y9 (AW hz rfl (x:=.ref TO) rfl ?_)
 refine y9 (AS hz (by simp) fun h₁ hz₁ hs₁=>?_)
 replace hz₁:IsZip h₁ z TI TO .ellipsis:=hz₁
 refine y9 ?_
 simp only[List.zipIdx_cons,List.zipIdx_nil,Bt,B9]
 refine y9 (y9 (wpAny_onRaise ?_))
 show wpAny _ _ (Builtin.SmallTypes.nextOf (.ref i1) >>= _) _ _ _
 refine y9 (wpAny_nextOf_list_item (h1.extBut hs₁.extBut (Ne.symm z1)) (DU.extBut hs₁.extBut l1z) hx fun h₂ h1₂ hs₂=>yu ?_)
 have hTO₂:bY h₂ TO a b c:=hs₂.extBut _ _ S3 (hs₁.extBut _ _ (Ne.symm Lk) Wc)
 refine y9 (AH hTO₂ rfl ?_)
 refine y9 (dz hTO₂ fun h₃ hTO₃ hs₃=>?_)
 replace hTO₃:bY h₃ TO x b c:=hTO₃
 refine y9 (wpAny_letGo (yu ?_))
 have V8:∀ d o,d≠z->d≠TO->d≠i1->s.heap.get? d=some o->h₃.get? d=some o:=fun d o c1 c2 c3 e=>hs₃.extBut _ _ c2 (hs₂.extBut _ _ c3 (hs₁.extBut _ _ c1 e))
 refine y9 (y9 (wpAny_onRaise ?_))
 show wpAny _ _ (Builtin.SmallTypes.nextOf (.ref i2) >>= _) _ _ _
 refine y9 (wpAny_nextOf_list_item (h2.at fun o e=>V8 _ o (Ne.symm z2) (Ne.symm S2) (Ne.symm OK) e) (let ⟨o,e,r⟩:=DP;⟨o,V8 _ o l2z l2TO l21 e,r⟩) hy fun h₄ h2₄ hs₄=>yu ?_)
 have hTO₄:bY h₄ TO x b c:=hs₄.extBut _ _ S2 hTO₃
 refine y9 (AH hTO₄ rfl ?_)
 refine y9 (dz hTO₄ fun h₅ hTO₅ hs₅=>?_)
 replace hTO₅:bY h₅ TO x y c:=hTO₅
 refine y9 (wpAny_letGo (yu ?_))
 have k5:∀ d o,d≠z->d≠TO->d≠i1->d≠i2->s.heap.get? d=some o->h₅.get? d=some o:=fun d o c1 c2 c3 c4 e=>hs₅.extBut _ _ c2 (hs₄.extBut _ _ c4 (V8 d o c1 c2 c3 e))
 refine y9 (y9 (wpAny_onRaise ?_))
 show wpAny _ _ (Builtin.SmallTypes.nextOf (.ref i3) >>= _) _ _ _
 refine y9 (wpAny_nextOf_list_item (h3.at fun o e=>k5 _ o (Ne.symm z3) (Ne.symm TU) (Ne.symm US) (Ne.symm UR) e) (let ⟨o,e,r⟩:=Jq;⟨o,k5 _ o l3z V5 l31 l32 e,r⟩) hu fun h₆ h3₆ hs₆=>yu ?_)
 have hTO₆:bY h₆ TO x y c:=hs₆.extBut _ _ TU hTO₅
 refine y9 (AH hTO₆ rfl ?_)
 refine y9 (dz hTO₆ fun h₇ hTO₇ hs₇=>?_)
 replace hTO₇:bY h₇ TO x y u:=hTO₇
 refine y9 (wpAny_letGo (yu (yu ?_)))
 refine y9 (AH hTO₇ rfl ?_)
 refine y9 (wpAny_newTuple ?_)
 have hsz:h₇.objs.size=s.heap.objs.size:=by rw[hs₇.1,hs₆.1,hs₅.1,hs₄.1,hs₃.1,hs₂.1,hs₁.1]
 have k7:∀ d o,d≠z->d≠TO->d≠i1->d≠i2->d≠i3->s.heap.get? d=some o->h₇.get? d=some o:=fun d o c1 c2 c3 c4 c5 e=>hs₇.extBut _ _ c2 (hs₆.extBut _ _ c5 (k5 d o c1 c2 c3 c4 e))
 have hz₇:IsZip h₇ z TI TO .ellipsis:=hs₇.extBut _ _ Lk (hs₆.extBut _ _ z3 (hs₅.extBut _ _ Lk (hs₄.extBut _ _ z2 (hs₃.extBut _ _ Lk (hs₂.extBut _ _ z1 hz₁)))))
 have h1₇:h₇.IsListIter i1 l1 (k1+1):=((((h1₂.extBut hs₃.extBut (Ne.symm S3)).extBut hs₄.extBut OK).extBut hs₅.extBut (Ne.symm S3)).extBut hs₆.extBut US).extBut hs₇.extBut (Ne.symm S3)
 have h2₇:h₇.IsListIter i2 l2 (k2+1):=((h2₄.extBut hs₅.extBut (Ne.symm S2)).extBut hs₆.extBut UR).extBut hs₇.extBut (Ne.symm S2)
 have h3₇:h₇.IsListIter i3 l3 (k3+1):=h3₆.extBut hs₇.extBut (Ne.symm TU)
 have QC:z<h₇.objs.size:=yH hz₇
 show wpAny _ _ (Builtin.SmallTypes.ownedTupleHandOut (.ref z) (.ref h₇.objs.size) >>= _) _ _ _
 refine y9 ?_
 unfold Builtin.SmallTypes.ownedTupleHandOut
 have hz₈:IsZip (h₇.push { cls:=.type "tuple",data:=.seq #[x,y,u] }) z TI TO .ellipsis:=yd _ hz₇
 refine y9 (AS hz₈ (by simp) fun h₉ hz₉ hs₉=>?_)
 replace hz₉:IsZip h₉ z TI TO (rawInt h₇.objs.size):=hz₉
 refine AS hz₉ (by simp) fun h₁₀ hz₁₀ hs₁₀=>?_
 replace hz₁₀:IsZip h₁₀ z TI TO (rawInt h₇.objs.size):=hz₁₀
 have up:∀ d o,d≠z->h₇.get? d=some o->h₁₀.get? d=some o:=fun d o c1 e=>hs₁₀.extBut _ _ c1 (hs₉.extBut _ _ c1 (yd _ e))
 have hT:bY h₁₀ h₇.objs.size x y u:=hs₁₀.extBut _ _ (Af QC) (hs₉.extBut _ _ (Af QC) (yC _ rfl))
 have QD:h₁₀.objs.size=h₇.objs.size+1:=by rw[hs₁₀.1,hs₉.1,zD]
 rw[hsz]at hz₁₀ hT QD
 refine yu ⟨_,rfl,?_⟩
 show Q (.ref h₇.objs.size) _
 rw[hsz]
 exact hQ h₁₀ hz₁₀ (up _ _ (Ne.symm Lk) hTO₇) (h1₇.at fun o e=>up _ o (Ne.symm z1) e) (h2₇.at fun o e=>up _ o (Ne.symm z2) e) (h3₇.at fun o e=>up _ o (Ne.symm z3) e) hT QD fun d o c1 c2 c3 c4 c5 e=>up d o c1 (k7 d o c1 c2 c3 c4 c5 e)
theorem v5 {z TI TO i1 i2 i3 l1 l2 l3:Addr}{k1:Nat}{xs:Array Value}{Q:Fin->Shared->Prop} (hh:A.handled=none) (D:v3 z TI TO i1 i2 i3 l1 l2 l3)
  (hz:IsZip s.heap z TI TO .none) (NW:bY s.heap TI (.ref i1) (.ref i2) (.ref i3)) (h1:s.heap.IsListIter i1 l1 k1) (DU:s.heap.IsList l1 xs) (hx:xs[k1]?=none)
  (hE:∀ h' e,(∀ c o,c≠z->c≠i1->s.heap.get? c=some o->h'.get? c=some o)->(∃ o,h'.get? e=some o/\o.cls=.type "StopIteration")->E (.ref e) { s with heap:=h' }):
  wpAny (model prog w) A (Builtin.«zip.__next__» ⟨[.ref z],[]⟩) Q E s:=by
 have nd:=D.nd
 have b1:=D.a1
 simp only[zk,yx,yB,zS,not_or,B8,and_true,zT]at nd b1
 obtain⟨⟨Sg,Lk,z1,z2,z3⟩,_⟩:=nd
 show wpAny _ _ (field (.ref z) 2 >>= _) _ _ _
 refine y9 (AW hz rfl (x:=.bool false) rfl ?_)
 show wpAny _ _ (field (.ref z) 3 >>= _) _ _ _
 refine y9 (AW hz rfl (x:=.ref TI) rfl ?_)
 refine y9 (AH NW rfl ?_)
 show wpAny _ _ (Builtin.SmallTypes.ownedTupleIsFree (.ref z) >>= _) _ _ _
 refine y9 ?_
 unfold Builtin.SmallTypes.ownedTupleIsFree
 refine y9 (AW hz rfl (x:=.none) rfl (yu ?_))
 simp only[B0]
 refine y9 (wpAny_rule ?_)
 refine y9 (AW hz rfl (x:=.ref TO) rfl ?_)
 refine y9 (AS hz (by simp) fun h₁ hz₁ hs₁=>?_)
 replace hz₁:IsZip h₁ z TI TO .ellipsis:=hz₁
 refine y9 ?_
 simp only[List.zipIdx_cons,List.zipIdx_nil,Bt,B9]
 refine y9 (y9 (wpAny_onRaise ?_))
 show wpAny _ _ (Builtin.SmallTypes.nextOf (.ref i1) >>= _) _ _ _
 refine y9 (wpAny_nextOf_list_end hh (h1.extBut hs₁.extBut (Ne.symm z1)) (DU.extBut hs₁.extBut b1.1) hx fun h₂ e hs₂ he=>?_)
 obtain⟨oe,VC,Yz⟩:=he
 have hz₂:IsZip h₂ z TI TO .ellipsis:=hs₂ _ _ z1 hz₁
 have hez:e≠z:=fun x=>by subst x;rw[hz₂]at VC;cases VC;simp at Yz
 exact AS hz₂ (by simp) fun h₃ _ hs₃=>hE h₃ e (fun c o c1 c3 x=>hs₃.extBut _ _ c1 (hs₂ _ _ c3 (hs₁.extBut _ _ c1 x))) ⟨oe,hs₃.extBut _ _ hez VC,Yz⟩
theorem iS {z TI TO i1 i2 i3 l1 l2 l3:Addr}{k1 k2 k3:Nat}{xs ys zs:Array Value}{x y u a b c:Value}{Q:Option Value->Shared->Prop} (D:v3 z TI TO i1 i2 i3 l1 l2 l3)
  (hz:IsZip s.heap z TI TO .none) (NW:bY s.heap TI (.ref i1) (.ref i2) (.ref i3)) (Wc:bY s.heap TO a b c)
  (h1:s.heap.IsListIter i1 l1 k1) (h2:s.heap.IsListIter i2 l2 k2) (h3:s.heap.IsListIter i3 l3 k3) (DU:s.heap.IsList l1 xs) (DP:s.heap.IsList l2 ys) (Jq:s.heap.IsList l3 zs) (hx:xs[k1]?=some x) (hy:ys[k2]?=some y) (hu:zs[k3]?=some u)
  (hQ:∀ h',IsZip h' z TI TO (rawInt s.heap.objs.size)->bY h' TO x y u->h'.IsListIter i1 l1 (k1+1)->h'.IsListIter i2 l2 (k2+1)->h'.IsListIter i3 l3 (k3+1)->bY h' s.heap.objs.size x y u->h'.objs.size=s.heap.objs.size+1->
   (∀ c o,c≠z->c≠TO->c≠i1->c≠i2->c≠i3->s.heap.get? c=some o->h'.get? c=some o)->Q (some (.ref s.heap.objs.size)) { s with heap:=h' }):
  wpAny (model prog w) A (pyNext (.ref z)) Q E s:=by
 have hT:s.TypeIs (.ref z) "zip":=⟨_,hz,rfl⟩
 unfold pyNext
 exact y9 (BD (Ap (name:=Str.ofString "__next__") hT F.slot_zip_next
  (AK F.slot_zip_next hT F.entry_zip_next
   (tY D hz NW Wc h1 h2 h3 DU DP Jq hx hy hu fun h' a1 a2 a3 a4 a5 a6 a7 a8=>yu (hQ h' a1 a2 a3 a4 a5 a6 a7 a8)) (F.args_zip_next_1 _))))
theorem jH {z TI TO i1 i2 i3 l1 l2 l3:Addr}{k1:Nat}{xs:Array Value}{Q:Option Value->Shared->Prop} (hh:A.handled=none) (D:v3 z TI TO i1 i2 i3 l1 l2 l3)
  (hz:IsZip s.heap z TI TO .none) (NW:bY s.heap TI (.ref i1) (.ref i2) (.ref i3)) (h1:s.heap.IsListIter i1 l1 k1) (DU:s.heap.IsList l1 xs) (hx:xs[k1]?=none)
  (hQ:∀ h',(∀ c o,c≠z->c≠i1->s.heap.get? c=some o->h'.get? c=some o)->Q none { s with heap:=h' }):wpAny (model prog w) A (pyNext (.ref z)) Q E s:=by
 have hT:s.TypeIs (.ref z) "zip":=⟨_,hz,rfl⟩
 unfold pyNext
 refine y9 (BD (Ap (name:=Str.ofString "__next__") hT F.slot_zip_next
  (AK F.slot_zip_next hT F.entry_zip_next (v5 hh D hz NW h1 DU hx fun h' e hk he=>?_) (F.args_zip_next_1 _))))
 obtain⟨o,ho,hc⟩:=he
 refine y9 (wpAny_isInstance (T:="StopIteration") (b:=true) ⟨o,ho,hc⟩ isSubtype_stop ?_)
 exact yu (hQ _ hk)
end
noncomputable abbrev Pj (h:Heap)(l1 l2 l3:Addr):Heap:=((h.push { cls:=.type "list_iterator",data:=.fields #[.ref l1,.int 0 0] }).push { cls:=.type "list_iterator",data:=.fields #[.ref l2,.int 0 0] }).push { cls:=.type "list_iterator",data:=.fields #[.ref l3,.int 0 0] }
noncomputable abbrev Sk (h:Heap)(l1 l2 l3:Addr):Heap:=(Pj h l1 l2 l3).push { cls:=.type "tuple",data:=.seq #[.ref h.objs.size,.ref (h.push { cls:=.type "list_iterator",data:=.fields #[.ref l1,.int 0 0] }).objs.size,.ref ((h.push { cls:=.type "list_iterator",data:=.fields #[.ref l1,.int 0 0] }).push { cls:=.type "list_iterator",data:=.fields #[.ref l2,.int 0 0] }).objs.size] }
noncomputable abbrev Si (h:Heap)(l1 l2 l3:Addr):Heap:=(Sk h l1 l2 l3).push { cls:=.type "tuple",data:=.seq #[.none,.none,.none] }
noncomputable abbrev Ll (h:Heap)(l1 l2 l3:Addr):Heap:=(Si h l1 l2 l3).push { cls:=.type "zip",data:=.fields #[.none,.bool false,.bool false,.ref (Pj h l1 l2 l3).objs.size,.ref (Sk h l1 l2 l3).objs.size] }
theorem jX (a b c:Value):checkTypeCall "zip" ⟨[a,b,c],[]⟩=pure ():=by kernel_rfl
theorem mn (a b c:Value):checkBuiltinCall "zip.__new__" ⟨[.type "zip",a,b,c],[]⟩=pure ():=by kernel_rfl
theorem gV (a b c d:Value):argsOk "object.__init__" ⟨[a,b,c,d],[]⟩:=by
 unfold argsOk;rw[signature?_of (id:="object.__init__") (n:=['_','_','t','i','n','i','_','_']) (o:=['t','c','e','j','b','o']) (by kernel_rfl) F.owner_object];kernel_rfl
theorem lm (l1 l2 l3:Addr)(xs ys zs:Array Value):
  Meets (Builtin.«zip.__new__» ⟨[.type "zip",.ref l1,.ref l2,.ref l3],[]⟩) (fun _ R s=>s.heap.IsList l1 xs/\s.heap.IsList l2 ys/\s.heap.IsList l3 zs/\
   R (.ok (.ret (.ref (Si s.heap l1 l2 l3).objs.size))) { s with heap:=Ll s.heap l1 l2 l3 }):=
 .of_wp fun prog w A R s h=>by
  obtain⟨hp,g,d,tk,os⟩:=s;obtain⟨DU,DP,Jq,h⟩:=h
  have a0V:=sub_zip
  have hL1:Heap.IsList (Shared.heap ⟨hp,g,d,tk,os⟩) l1 xs:=DU
  have hL2:Heap.IsList (Shared.heap ⟨hp.push { cls:=.type "list_iterator",data:=.fields #[.ref l1,.int 0 0] },g,d,tk,os⟩) l2 ys:=Heap.IsList.push DP _
  have hL3:Heap.IsList (Shared.heap ⟨(hp.push { cls:=.type "list_iterator",data:=.fields #[.ref l1,.int 0 0] }).push { cls:=.type "list_iterator",data:=.fields #[.ref l2,.int 0 0] },g,d,tk,os⟩) l3 zs:=Heap.IsList.push (Heap.IsList.push Jq _) _
  wp_walk using AF hL1,AF hL2,AF hL3
  exact⟨_,rfl,h⟩
section
variable {prog : Program}{w : World}{A : Around}{E : Value -> Shared -> Prop}{s : Shared}
theorem sF {l1 l2 l3:Addr}{xs ys zs:Array Value}{Q:Value->Shared->Prop} (DU:s.heap.IsList l1 xs) (DP:s.heap.IsList l2 ys) (Jq:s.heap.IsList l3 zs)
  (h:∀ h',IsZip h' (s.heap.objs.size+5) (s.heap.objs.size+3) (s.heap.objs.size+4) .none->bY h' (s.heap.objs.size+3) (.ref s.heap.objs.size) (.ref (s.heap.objs.size+1)) (.ref (s.heap.objs.size+2))->
   bY h' (s.heap.objs.size+4) .none .none .none->h'.IsListIter s.heap.objs.size l1 0->h'.IsListIter (s.heap.objs.size+1) l2 0->h'.IsListIter (s.heap.objs.size+2) l3 0->
   (∀ c o,s.heap.get? c=some o->h'.get? c=some o)->Q (.ref (s.heap.objs.size+5)) { s with heap:=h' }):
  wpAny (model prog w) A (call (.type "zip") [.ref l1,.ref l2,.ref l3]) Q E s:=by
 refine callType_new F.called_zip (by decide) (jX _ _ _) (mn _ _ _) (fun obj=>gV obj _ _ _) F.entry_zip_new
  (lm l1 l2 l3 xs ys zs) ⟨DU,DP,Jq,?_⟩
 have y1:(s.heap.push { cls:=.type "list_iterator",data:=.fields #[.ref l1,.int 0 0] }).objs.size=s.heap.objs.size+1:=zD ..
 have y2:((s.heap.push { cls:=.type "list_iterator",data:=.fields #[.ref l1,.int 0 0] }).push { cls:=.type "list_iterator",data:=.fields #[.ref l2,.int 0 0] }).objs.size=s.heap.objs.size+2:=by rw[zD,y1]
 have y3:(Pj s.heap l1 l2 l3).objs.size=s.heap.objs.size+3:=by rw[zD,y2]
 have y4:(Sk s.heap l1 l2 l3).objs.size=s.heap.objs.size+4:=by rw[zD,y3]
 have y5:(Si s.heap l1 l2 l3).objs.size=s.heap.objs.size+5:=by rw[zD,y4]
 have up1:∀ c o,(Pj s.heap l1 l2 l3).get? c=some o->(Ll s.heap l1 l2 l3).get? c=some o:=fun c o e=>yd _ (yd _ (yd _ e))
 have g6:(Ll s.heap l1 l2 l3).get? (Si s.heap l1 l2 l3).objs.size=some _:=yC _ rfl
 have g5:(Ll s.heap l1 l2 l3).get? (Sk s.heap l1 l2 l3).objs.size=some _:=yd _ (yC _ rfl)
 have g4:(Ll s.heap l1 l2 l3).get? (Pj s.heap l1 l2 l3).objs.size=some _:=yd _ (yd _ (yC _ rfl))
 have g3:(Ll s.heap l1 l2 l3).get? _=some _:=up1 _ _ (yC _ rfl)
 have g2:(Ll s.heap l1 l2 l3).get? _=some _:=up1 _ _ (yd _ (yC _ rfl))
 have g1:(Ll s.heap l1 l2 l3).get? s.heap.objs.size=some _:=up1 _ _ (yd _ (yd _ (yC _ rfl)))
 show _/\_
 rw[y3,y4,y5]at g6
 rw[y1,y2,y3]at g4
 rw[y4]at g5
 rw[y2]at g3
 rw[y1]at g2
 rw[y5]
 exact⟨⟨_,g6,rfl⟩,h _ g6 g4 g5 ⟨_,g1,rfl,rfl⟩ ⟨_,g2,rfl,rfl⟩ ⟨_,g3,rfl,rfl⟩ fun c o x=>up1 c o (yd _ (yd _ (yd _ x)))⟩
end
noncomputable def Oy (K:PySem.W.Frag)(a b c:Addr):It:=
 ⟨fun i H=>∃ xs ys zs x y z,B' K H a xs/\B' K H b ys/\B' K H c zs/\xs[i]?=some x/\ys[i]?=some y/\zs[i]?=some z,
  fun i H v H'=>∃ T,H T=none/\v=.ref T/\∃ x y z,(∀ xs,B' K H a xs->xs[i]?=some x)/\(∀ ys,B' K H b ys->ys[i]?=some y)/\(∀ zs,B' K H c zs->zs[i]?=some z)/\H'=upd H T (.tup [x,y,z]),
  fun i H=>(∃ xs,B' K H a xs/\xs.length<=i)/\(∃ ys,B' K H b ys)/\∃ zs,B' K H c zs⟩
noncomputable def Mb (z TI TO i1 i2 i3 a b c:Addr)(i:Nat)(h:Heap):Prop:=IsZip h z TI TO .none/\bY h TI (.ref i1) (.ref i2) (.ref i3)/\(∃ u v w,bY h TO u v w)/\h.IsListIter i1 a i/\h.IsListIter i2 b i/\h.IsListIter i3 c i
theorem tZ {P:Program}{w:World}{K:PySem.W.Frag}{elts:List Expr}{x1:Nat}{DF:Pos} (a b c z TI TO i1 i2 i3:Addr) (D:[z,TI,TO,i1,i2,i3].Nodup):
  oO P w K (.Tuple elts x1 DF) (Oy K a b c) [z,TI,TO,i1,i2,i3] z (Mb z TI TO i1 i2 i3 a b c) where
 mem:=by simp
 obj:=fun i h st d hd=>by
  obtain⟨h1,h2,⟨u,v,w',h3⟩,⟨o4,e4,c4,d4⟩,⟨o5,e5,c5,d5⟩,⟨o6,e6,c6,d6⟩⟩:=st
  simp only[yx,yB,zS]at hd
  rcases hd with rfl|rfl|rfl|rfl|rfl|rfl
  ·exact⟨_,h1,fun v z=>by cases z⟩
  ·exact⟨_,h2,fun v z=>by cases z⟩
  ·exact⟨_,h3,fun v z=>by cases z⟩
  ·exact⟨_,e4,fun v z=>by rw[d4]at z;cases z⟩
  ·exact⟨_,e5,fun v z=>by rw[d5]at z;cases z⟩
  ·exact⟨_,e6,fun v z=>by rw[d6]at z;cases z⟩
 keep:=fun i h h' st k=>by
  obtain⟨h1,h2,⟨u,v,w',h3⟩,h4,h5,h6⟩:=st
  exact⟨k z (by simp) _ h1,k TI (by simp) _ h2,⟨u,v,w',k TO (by simp) _ h3⟩,h4.at fun o e=>k i1 (by simp) o e,h5.at fun o e=>k i2 (by simp) o e,h6.at fun o e=>k i3 (by simp) o e⟩
 item:=by
  intro X hP hw hK hc i pins s σ H E I hf st hg
  subst hP hw hK
  obtain⟨xs,ys,zs,x,y,u,hx,hy,hu,ex,ey,eu⟩:=hg
  obtain⟨h1,h2,⟨u1,u2,u3,h3⟩,h4,h5,h6⟩:=st
  obtain⟨its,rv,p,hz⟩:=I.list hx
  obtain⟨CC,KD,p2,EW⟩:=I.list hy
  obtain⟨Vc,Xe,p3,Vf⟩:=I.list hu
  obtain⟨w1,RG,r1⟩:=rv.get ex
  obtain⟨w2,Ws,r2⟩:=KD.get ey
  obtain⟨w3,ew3,r3⟩:=Xe.get eu
  have GU:∀ {l:Addr}{vs:List V},B' X.K H l vs->l∉[z,TO,i1,i2,i3]:=fun hl hm=>by
   have:∀ d∈[z,TO,i1,i2,i3],d∈[z,TI,TO,i1,i2,i3]:=fun d hd=>by simp only[yx,yB,zS]at hd ⊢;rcases hd with h|h|h|h|h <;> simp[h]
   exact cA I hl (hf _ (this _ hm)) rfl
  have ap:v3 z TI TO i1 i2 i3 a b c:=⟨D,GU hx,GU hy,GU hu⟩
  refine iS ap h1 h2 h3 h4 h5 h6 p.isList p2.isList p3.isList (x:=w1) (y:=w2) (u:=w3) (by simpa using RG) (by simpa using Ws) (by simpa using ew3) fun h' a1 a2 a3 a4 a5 a6 a7 a8=>?_
  refine⟨_,rfl,wpAny_letOwnedTupleGo_zip a1 fun Ic b1 sb=>?_⟩
  have hT:H s.heap.objs.size=none:=I.BR.fresh (yh _)
  have JB:∀ d∈[z,TI,TO,i1,i2,i3],d≠s.heap.objs.size:=fun d hd e=>by
   have:∃ o,s.heap.get? d=some o:=by
    simp only[yx,yB,zS]at hd
    obtain⟨o4,e4,_⟩:=h4
    obtain⟨o5,e5,_⟩:=h5
    obtain⟨o6,e6,_⟩:=h6
    rcases hd with rfl|rfl|rfl|rfl|rfl|rfl
    ·exact⟨_,h1⟩
    ·exact⟨_,h2⟩
    ·exact⟨_,h3⟩
    ·exact⟨_,e4⟩
    ·exact⟨_,e5⟩
    ·exact⟨_,e6⟩
   obtain⟨o,q⟩:=this
   exact absurd (yH q) (by rw[e];exact zu _)
  have D':=D
  simp only[zk,yx,yB,zS,not_or,B8,and_true,zT]at D'
  obtain⟨⟨Sg,Lk,z1,z2,z3⟩,⟨TITO,Zh,Zg,Zf⟩,⟨S3,S2,TU⟩,⟨OK,US⟩,UR⟩:=D'
  have kk:∀ d o,d∉[z,TI,TO,i1,i2,i3]->s.heap.get? d=some o->Ic.get? d=some o:=fun d o hd e=>by
   simp only[yx,yB,zS,not_or]at hd
   exact sb.extBut _ _ hd.1 (a8 d o hd.1 hd.2.2.1 hd.2.2.2.1 hd.2.2.2.2.1 hd.2.2.2.2.2 e)
  have I1:Inv X pins σ H { s with heap:=Ic }:=I.DE (t':=s.toks) (ch:=[z,TI,TO,i1,i2,i3]) hf kk
  have I2:Inv X pins σ (upd H s.heap.objs.size (.tup [x,y,u])) { s with heap:=Ic }:=by
   refine I1.Hc (I.EZ (yh _) hT) I.sz ⟨by show 3<=sizeLine;decide,[w1,w2,w3],.cons r1 (.cons r2 (.cons r3 .nil)),?_⟩
   exact⟨_,sb.extBut _ _ (Ne.symm (JB z (by simp))) a6,rfl,_,rfl⟩
  refine⟨.ref s.heap.objs.size,_,I2,rfl,⟨_,hT,rfl,x,y,u,fun X3 DT=>by rw[I.Dn DT hx];exact ex,fun Zo QG=>by rw[I.Dn QG hy];exact ey,fun zs' Vg=>by rw[I.Dn Vg hu];exact eu,rfl⟩,?_,fun d hd=>?_⟩
  ·exact⟨b1,sb.extBut _ _ (Ne.symm Sg) (a8 TI _ (Ne.symm Sg) TITO Zh Zg Zf h2),⟨_,_,_,sb.extBut _ _ (Ne.symm Lk) a2⟩,a3.extBut sb.extBut (Ne.symm z1),a4.extBut sb.extBut (Ne.symm z2),a5.extBut sb.extBut (Ne.symm z3)⟩
  ·rw[ae (JB d hd)]
   exact (hf d hd).1
 done:=by
  intro X hP hw hK hc i pins s σ H E I hf st hg
  subst hP hw hK
  obtain⟨⟨xs,hx,hl⟩,⟨ys,hy⟩,⟨zs,hu⟩⟩:=hg
  obtain⟨h1,h2,⟨u1,u2,u3,h3⟩,h4,h5,h6⟩:=st
  obtain⟨its,rv,p,hz⟩:=I.list hx
  have l1:=rv.length
  have GU:∀ {l:Addr}{vs:List V},B' X.K H l vs->l∉[z,TO,i1,i2,i3]:=fun hl hm=>by
   have:∀ d∈[z,TO,i1,i2,i3],d∈[z,TI,TO,i1,i2,i3]:=fun d hd=>by simp only[yx,yB,zS]at hd ⊢;rcases hd with h|h|h|h|h <;> simp[h]
   exact cA I hl (hf _ (this _ hm)) rfl
  have ap:v3 z TI TO i1 i2 i3 a b c:=⟨D,GU hx,GU hy,GU hu⟩
  refine jH (I.ok.hd hc) ap h1 h2 h4 p.isList (by simp;omega) fun h' kk=>⟨rfl,I.DE (t':=s.toks) (ch:=[z,TI,TO,i1,i2,i3]) hf fun d o hd e=>?_⟩
  simp only[yx,yB,zS,not_or]at hd
  exact kk d o hd.1 hd.2.2.2.1 e
 self:=fun _ _ _ _ _ st h=>wpAny_pyIter_zip st.1 h
noncomputable def Qx (K:PySem.W.Frag)(ta:TA):TI:=fun σ H R=>ta σ H fun vs H1=>∃ a b c,vs=[.ref a,.ref b,.ref c]/\(∃ xs,B' K H1 a xs)/\(∃ ys,B' K H1 b ys)/\(∃ zs,B' K H1 c zs)/\R (Oy K a b c) H1
theorem xc {X:Cx}(K:PySem.W.Frag){elts:List Expr}{x1:Nat}{DF:Pos}{e1 e2 e3:Expr}{ta:TA}{p pos:Pos} (hg:Gl X "zip") (hm:X.mg "zip"=none) (ha:PA X [e1,e2,e3] ta) (hK:X.K=K:=by rfl)
  (hs:starEach [e1,e2,e3] X.env=(false,eval e1 X.env)::starEach [e2,e3] X.env:=by rfl) (Jn:(backTo pos (starEach [e2,e3] X.env)).any (·.1)=false:=by rfl):
  PI X (.Tuple elts x1 DF) (.Call (.Name "zip" p) [e1,e2,e3] [] pos) (Qx K ta):=by
 subst hK
 intro pins s σ H R I h
 refine Call_ (dL I hg hm qS (zC (Ca (ha pos pins s σ H _ I h) fun us s1 j'=>?_) hs Jn))
 obtain⟨vs,H1,I1,r1,q1⟩:=j'
 obtain⟨a,b,c,e,⟨xs,hx⟩,⟨ys,hy⟩,⟨zs,hu⟩,q⟩:=q1
 subst e
 cases r1 with
 | cons r rr=>
  cases rr with
  | cons r' rr=>
   cases rr with
   | cons ZR rr=>
    cases rr
    cases r
    cases r'
    cases ZR
    obtain⟨its,rv,p1,hz⟩:=I1.list hx
    obtain⟨CC,KD,p2,EW⟩:=I1.list hy
    obtain⟨Vc,Xe,p3,Vf⟩:=I1.list hu
    refine sF p1.isList p2.isList p3.isList fun h' a1 a2 a3 a4 a5 a6 a7=>?_
    refine wpAny_pyIter_zip a1 ?_
    have I2:Inv X pins σ H1 { s1 with heap:=h' }:=I1.kept (t':=s1.toks) a7
    refine⟨_,[s1.heap.objs.size+5,s1.heap.objs.size+3,s1.heap.objs.size+4,s1.heap.objs.size,s1.heap.objs.size+1,s1.heap.objs.size+2],_,_,H1,rfl,I2,tZ a b c _ _ _ _ _ _ ?_,⟨a1,a2,⟨_,_,_,a3⟩,a4,a5,a6⟩,fun d hd=>?_,q⟩
    ·show List.Nodup (α:=Nat) [s1.heap.objs.size+5,s1.heap.objs.size+3,s1.heap.objs.size+4,s1.heap.objs.size,s1.heap.objs.size+1,s1.heap.objs.size+2]
     generalize (s1.heap.objs.size:Nat)=n
     simp[zk]
    ·have le:@LE.le Nat _ s1.heap.objs.size d:=by
      simp only[yx,yB,zS]at hd
      rcases hd with rfl|rfl|rfl|rfl|rfl|rfl <;> omega
     exact I1.EZ (H':=H1) (b:=d) le (I1.BR.fresh le)
section
variable {te : TE}{σ : St}{js : List Nat}{F : Addr -> Hp -> Prop}{H : Hp}
theorem sD {K:PySem.W.Frag}{a b c:Addr}{xs ys zs:List V} (g:Nat->Int) (ha:H a=some (.lst xs)) (hb:H b=some (.lst ys)) (hc:H c=some (.lst zs)) (h1:ys.length=xs.length) (h2:zs.length=xs.length) (hz:xs.length<=1000)
  (hs:∀ i x y z T H2,xs[i]?=some x->ys[i]?=some y->zs[i]?=some z->f' H H2->H2 T=none->te (some x::some y::some z::bD σ js) (upd H2 T (.tup [x,y,z])) fun v H5=>v=.int (g i)/\f' H2 H5)
  (hd:∀ l H',H l=none->f' H H'->H' l=some (.lst (((List.range xs.length).map g).map V.int))->F l H'):bh 3 js (mr K 3 (cm (aO 0) (cm (aO 1) (cm (aO 2) ox)))) fh te σ F (Oy K a b c) H:=by
 intro l BX
 refine⟨fun i m σ' H2=>m=xs.length - i/\i<=xs.length/\(∃ o1 o2 o3,σ'=o1::o2::o3::bD σ js)/\f' H H2/\H2 l=some (.lst (((List.range i).map g).map V.int)),⟨_,rfl,yR _,⟨none,none,none,rfl⟩,aq (f'.refl _) BX,a9⟩,?_⟩
 rintro i m σ' H2 ⟨rfl,hi,⟨o1,o2,o3,rfl⟩,e,hl⟩
 have q1:B' K H2 a xs:=B'.of (e _ _ ha)
 have q2:B' K H2 b ys:=B'.of (e _ _ hb)
 have q3:B' K H2 c zs:=B'.of (e _ _ hc)
 by_cases BU:i<xs.length
 ·refine .inr ⟨⟨xs,ys,zs,xs[i],ys[i]'(by omega),zs[i]'(by omega),q1,q2,q3,by simp,by simp,by simp⟩,fun x H3 y=>?_⟩
  obtain⟨T,hT,rfl,x1,x2,x3,y1,y2,y3,rfl⟩:=y
  have eT:f' H2 (upd H2 T (.tup [x1,x2,x3])):=aq (f'.refl _) hT
  refine⟨T,[x1,x2,x3],rfl,CT.of a9,rfl,_,[x2,x3],rfl,_,[x3],rfl,_,[],rfl,rfl,?_⟩
  refine⟨fun H4=>False,fun v H5=>v=.int (g i)/\f' H2 H5,fun H4 z=>z.elim,fun v H5 j'=>?_,hs i x1 x2 x3 T H2 (y1 xs q1) (y2 ys q2) (y3 zs q3) e hT⟩
  obtain⟨pv,e5⟩:=j'
  subst pv
  refine⟨_,e5 _ _ hl,by rw[y6,y6,zi];exact yP hi (yP hz (by decide)),_,?_,rfl,BU,⟨_,_,_,rfl⟩,ar (e.trans e5) BX,?_⟩
  ·omega
  ·rw[a9,Ak,yN,yN]
   rfl
 ·have ei:i=xs.length:=by omega
  subst ei
  exact .inl ⟨⟨⟨xs,q1,yh _⟩,⟨ys,q2⟩,⟨zs,q3⟩⟩,hd l H2 BX e hl⟩
end
noncomputable def Dy (K:PySem.W.Frag)(H:Hp):Nat->V->V->Prop
 | 0,x,y=>(∃ i,x=.int i/\y=.int i)\/∃ z,x=.str z/\y=.str z
 | k+1,x,y=>Dy K H k x y\/(∃ p q vs ws,x=.ref p/\y=.ref q/\B' K H p vs/\B' K H q ws/\Paired (Dy K H k) vs ws)\/∃ p q vs ws,x=.ref p/\y=.ref q/\CT K H p vs/\CT K H q ws/\Paired (Dy K H k) vs ws
section
variable {X : Cx}{pins : List (Addr×Obj)}{s : Shared}{σ : St}{H : Hp}
theorem qV {n:Nat}{e:Nat->Bool} (h:∀ j,e j=true):(List.range n).all e=true:=by
 rw[zF]
 exact fun j _=>h j
theorem Dy.items {A:Around}{k:Nat} (ih:∀ {A:Around}{x y:V}{v u:Value},Dy X.K H k x y->RelV x v->RelV y u->A.units+k<cLine->SeqAt.EqAt A s v u true)
  {vs ws:List V}{its CC:List Value} (r1:Vals vs its) (r2:Vals ws CC) (p:Paired (Dy X.K H k) vs ws) (hu:A.units+k<cLine):
  ∀ j (h1:j<its.toArray.size) (h2:j<CC.toArray.size),SeqAt.EqAt A s its.toArray[j] CC.toArray[j] true:=fun j h1 h2=>by
 rw[yL]at h1 h2
 obtain⟨x,ex,rx⟩:=r1.at' (i:=j) (u:=its[j]) (by simp)
 obtain⟨y,ey,ry⟩:=r2.at' (i:=j) (u:=CC[j]) (by simp)
 obtain⟨y',RF,l⟩:=Paired.at p ex
 rw[ey]at RF
 obtain rfl:=Option.some.inj RF
 have:=ih l rx ry hu
 simpa using this
theorem Dy.eq (I:Inv X pins σ H s):∀ (k:Nat) {A:Around}{x y:V}{v u:Value},Dy X.K H k x y->RelV x v->RelV y u->A.units+k<cLine->SeqAt.EqAt A s v u true
 | 0,A,x,y,v,u,h,rx,ry,hu=>by
  rcases h with⟨i,rfl,rfl⟩|⟨z,rfl,rfl⟩
  ·obtain⟨t,rfl⟩:=rx
   obtain⟨t',rfl⟩:=ry
   have:=GL.eq (K:=X.K) X A pins s σ H (.int i) (.int i) _ _ i i rfl I ⟨t,rfl⟩ ⟨t',rfl⟩ rfl rfl hu
   rwa [yo rfl]at this
  ·have:=IW.eq (K:=X.K) X A pins s σ H (.str z) (.str z) v u (Sum.inr z) (Sum.inr z) rfl I rx ry rfl rfl hu
   rwa [yo rfl]at this
 | k+1,A,x,y,v,u,h,rx,ry,hu=>by
  have ih:=@Dy.eq I k
  rcases h with h|⟨p,q,vs,ws,rfl,rfl,h1,h2,h3⟩|⟨p,q,vs,ws,rfl,rfl,h1,h2,h3⟩
  ·exact ih h rx ry (by omega)
  ·cases rx
   cases ry
   by_cases e:p=q
   ·subst e;exact SeqAt.EqAt.same _
   ·obtain⟨its,r1,pl,hz⟩:=I.list h1
    obtain⟨CC,r2,HV,EW⟩:=I.list h2
    have l1:=r1.length
    have l2:=r2.length
    have l3:=Paired.length h3
    refine SeqAt.EqAt.of_refs e ?_
    have:=SeqAt.RcAt.lists (A:=A) (e:=fun _=>true) pl.isList HV.isList (by simp;omega) (by omega) (Dy.items ih r1 r2 h3 (by rw[AN];omega))
    rwa [qV fun _=>rfl]at this
  ·cases rx
   cases ry
   by_cases e:p=q
   ·subst e;exact SeqAt.EqAt.same _
   ·obtain⟨its,r1,pl,hz⟩:=I.tuple h1
    obtain⟨CC,r2,HV,EW⟩:=I.tuple h2
    have l1:=r1.length
    have l2:=r2.length
    have l3:=Paired.length h3
    refine SeqAt.EqAt.of_refs e ?_
    have:=SeqAt.RcAt.tuples (A:=A) (e:=fun _=>true) pl HV (by omega) (Dy.items ih r1 r2 h3 (by rw[AN];omega))
    rw[qV fun _=>rfl]at this
    have e2:(its.toArray.size==CC.toArray.size)=true:=by simp;omega
    rwa [e2]at this
noncomputable def Eo (K:PySem.W.Frag)(H:Hp)(k:Nat)(x y:V):Prop:=∃ a b ka kb,x=.ref a/\y=.ref b/\H a=some (.dK ka)/\H b=some (.dK kb)/\Paired (fun (p q:Key×V)=>p.1=q.1/\Dy K H k p.2 q.2) ka kb/\(kb.map (·.1)).Nodup
theorem jS:∀ {kb:List (Key×V)}{vb:List (Key×Value)},KV kb vb->vb.map (·.1)=kb.map (·.1)
 | [],_,.nil=>rfl
 | _::_,_,.cons ⟨e,_⟩ r=>by rw[yJ,yJ,jS r,e]
theorem qZ {vb:List (Key×Value)}(nd:(vb.map (·.1)).Nodup){q:Key×Value}(h:q∈vb):valueAt vb q.1=some q.2:=by
 induction vb with
 | nil=>cases h
 | cons p vb ih=>
  rw[yJ,zk]at nd
  unfold valueAt
  rw[z5]
  rcases yx.mp h with rfl|h
  ·rw[yo rfl];rfl
  ·rw[yq (fun z:p.1=q.1=>nd.1 (z▸yO h))]
   exact ih nd.2 h
theorem j1 {A:Around}{k:Nat} (I:Inv X pins σ H s) (hu:A.units+k<cLine) {vb:List (Key×Value)} (nd:(vb.map (·.1)).Nodup):
  ∀ {ka kb:List (Key×V)}{va So:List (Key×Value)},KV ka va->KV kb So->Paired (fun (p q:Key×V)=>p.1=q.1/\Dy X.K H k p.2 q.2) ka kb->(∀ q∈So,q∈vb)->PySem.W.KeqHits A s vb va true:=by
 intro ka kb va So ra rb p Gu
 induction p generalizing va So with
 | nil=>
  unfold KV at ra
  cases ra
  exact .nil
 | @cons p q ka kb h r ih=>
  unfold KV at ra rb
  cases ra with
  | @cons _ pv _ va h1 ra=>
   cases rb with
   | @cons _ qv _ vb2 h2 rb=>
    have ih:=ih ra rb fun z hz=>Gu z (yE _ hz)
    obtain⟨pk,pw⟩:=pv
    have e1:p.1=pk:=h1.1
    have hv:=qZ nd (Gu qv yw)
    rw[<- h2.1,<- h.1,e1]at hv
    have:=PySem.W.KeqHits.hit hv (Dy.eq I k h.2 h1.2 h2.2 hu) ih
    simpa using this
theorem rP {k:Nat}(hu:X.A.units+(k+1)<cLine):Dq X (compareOp .Eq) (fun x y H Q=>Eo X.K H k x y/\Q (.bl true) H):=by
 intro pins s σ H x y v u Q I rx ry hw
 obtain⟨⟨a,b,ka,kb,rfl,rfl,ha,hb,hp,nd⟩,q⟩:=hw
 cases rx
 cases ry
 obtain⟨_,la,va,ra,da⟩:=(show BN X.prog X.w H s.heap a (.dK ka) from I.BR a _ ha)
 obtain⟨_,lb,vb,rb,db⟩:=(show BN X.prog X.w H s.heap b (.dK kb) from I.BR b _ hb)
 have Ql:(vb.map (·.1)).Nodup:=by
  rw[jS rb];exact nd
 refine PySem.W.keq_eq la lb da db (by omega) (fun _=>j1 (A:=X.A.in1) (k:=k) I (by show X.A.units+1+k<cLine;omega) Ql ra rb hp fun _ h=>h) ?_
 have:(va.length==vb.length)=true:=by
  rw[<- KV.length ra,<- KV.length rb,Paired.length hp];simp
 rw[this]
 exact⟨.bl _,H,I,rfl,q⟩
theorem rN {k:Nat}(hu:X.A.units+(k+1)<cLine):Dq X (compareOp .NotEq) (fun x y H Q=>Eo X.K H k x y/\Q (.bl false) H):=by
 intro pins s σ H x y v u Q I rx ry hw
 obtain⟨⟨a,b,ka,kb,rfl,rfl,ha,hb,hp,nd⟩,q⟩:=hw
 cases rx
 cases ry
 obtain⟨_,la,va,ra,da⟩:=(show BN X.prog X.w H s.heap a (.dK ka) from I.BR a _ ha)
 obtain⟨_,lb,vb,rb,db⟩:=(show BN X.prog X.w H s.heap b (.dK kb) from I.BR b _ hb)
 have Ql:(vb.map (·.1)).Nodup:=by
  rw[jS rb];exact nd
 refine PySem.W.keq_ne la lb da db (by omega) (fun _=>j1 (A:=X.A.in1) (k:=k) I (by show X.A.units+1+k<cLine;omega) Ql ra rb hp fun _ h=>h) ?_
 have:(va.length==vb.length)=true:=by
  rw[<- KV.length ra,<- KV.length rb,Paired.length hp];simp
 rw[this]
 exact⟨.bl _,H,I,rfl,q⟩
end
end L2
namespace L2
open PySem PySem.Spec PyProof.Rows
open PySem.AutoSeq1 (wpAny_loadPart')
noncomputable def xZ (prog:Program)(w:World)(A:Around)(s:Shared)(y x:Value):Prop:=∀ (E:Value->Shared->Prop)(Q:Bool->Shared->Prop),Q true s->wpAny (model prog w) A (eqBool y x) Q E s
section
variable {prog : Program}{w : World}
theorem v9 (l b:Addr)(items Cd:Array Value)(n n2:Nat)(dd O7:Option Addr)(sl Mj:Array (Option Value))(hsz:items.size=Cd.size):
  MeetsIn prog w (Builtin.«tuple.__eq__» ⟨[.ref l,.ref b],[]⟩)
   (fun A R s=>s.heap.get? l=some { cls:=.type "tuple",dict:=dd,data:=.seq items n,slots:=sl }/\s.heap.get? b=some { cls:=.type "tuple",dict:=O7,data:=.seq Cd n2,slots:=Mj }/\
    (∀ j (h1:j<items.size) (h2:j<Cd.size),xZ prog w A.in1 s items[j] Cd[j])/\R (.ok (.ret (.bool true))) s):=
 .of_wp fun A R s h=>by
  obtain⟨hp,g,d,tk,os⟩:=s;obtain⟨hl,hb,he,h⟩:=h
  have f2:=AutoSeq1.sub_tuple_tuple
  have hZ:(items.toList.zip Cd.toList).length=min items.size Cd.size:=by simp
  wp_walk using Bq hl,Bq hb,wpAny_forIn_list _ (fun rest b s'=>b.1=none/\s'=⟨hp,g,d,tk,os⟩/\∃ i,rest=(items.toList.zip Cd.toList).drop i) _
  case turn=>
   rintro⟨y,x⟩ rest b s' ⟨DC,rfl,i,hz⟩
   have BU:i<(items.toList.zip Cd.toList).length:=by
    rcases Nat.lt_or_ge i (items.toList.zip Cd.toList).length with h'|h'
    ·exact h'
    ·rw[List.drop_of_length_le h']at hz;cases hz
   have hm:i<min items.size Cd.size:=hZ▸BU
   have h1:i<items.size:=yG hm (Nat.min_le_left _ _)
   have h2:i<Cd.size:=yG hm (Nat.min_le_right _ _)
   rw[zI BU]at hz
   injection hz with QE JS
   have hy:y=items[i]:=by have:=congrArg Prod.fst QE;simpa using this
   have hx:x=Cd[i]:=by have:=congrArg Prod.snd QE;simpa using this
   subst hy hx
   refine y9 (he i h1 h2 _ _ ?_)
   wp_walk
   exact⟨rfl,rfl,i+1,JS⟩
  case fin=>
   rintro⟨b1,b2⟩ s' ⟨DC,rfl,i,hz⟩
   simp only at DC
   subst DC
   wp_walk
   exact⟨_,rfl,by simpa [Builtin.Tuple.tupleCompareSizes,hsz] using h⟩
  case h=>
   exact⟨rfl,rfl,0,rfl⟩
theorem v8 (l b:Addr)(items Cd:Array Value)(n n2:Nat)(dd O7:Option Addr)(sl Mj:Array (Option Value))(hsz:items.size=Cd.size):
  MeetsIn prog w (Builtin.«tuple.__ne__» ⟨[.ref l,.ref b],[]⟩)
   (fun A R s=>s.heap.get? l=some { cls:=.type "tuple",dict:=dd,data:=.seq items n,slots:=sl }/\s.heap.get? b=some { cls:=.type "tuple",dict:=O7,data:=.seq Cd n2,slots:=Mj }/\
    (∀ j (h1:j<items.size) (h2:j<Cd.size),xZ prog w A.in1 s items[j] Cd[j])/\R (.ok (.ret (.bool false))) s):=
 .of_wp fun A R s h=>by
  obtain⟨hp,g,d,tk,os⟩:=s;obtain⟨hl,hb,he,h⟩:=h
  have f2:=AutoSeq1.sub_tuple_tuple
  have hZ:(items.toList.zip Cd.toList).length=min items.size Cd.size:=by simp
  wp_walk using Bq hl,Bq hb,wpAny_forIn_list _ (fun rest b s'=>b.1=none/\s'=⟨hp,g,d,tk,os⟩/\∃ i,rest=(items.toList.zip Cd.toList).drop i) _
  case turn=>
   rintro⟨y,x⟩ rest b s' ⟨DC,rfl,i,hz⟩
   have BU:i<(items.toList.zip Cd.toList).length:=by
    rcases Nat.lt_or_ge i (items.toList.zip Cd.toList).length with h'|h'
    ·exact h'
    ·rw[List.drop_of_length_le h']at hz;cases hz
   have hm:i<min items.size Cd.size:=hZ▸BU
   have h1:i<items.size:=yG hm (Nat.min_le_left _ _)
   have h2:i<Cd.size:=yG hm (Nat.min_le_right _ _)
   rw[zI BU]at hz
   injection hz with QE JS
   have hy:y=items[i]:=by have:=congrArg Prod.fst QE;simpa using this
   have hx:x=Cd[i]:=by have:=congrArg Prod.snd QE;simpa using this
   subst hy hx
   refine y9 (he i h1 h2 _ _ ?_)
   wp_walk
   exact⟨rfl,rfl,i+1,JS⟩
  case fin=>
   rintro⟨b1,b2⟩ s' ⟨DC,rfl,i,hz⟩
   simp only at DC
   subst DC
   wp_walk
   exact⟨_,rfl,by simpa [Builtin.Tuple.tupleCompareSizes,hsz] using h⟩
  case h=>
   exact⟨rfl,rfl,0,rfl⟩
variable {X : Cx}{pins : List (Addr×Obj)}{s : Shared}{σ : St}{H : Hp}
theorem Eo.rc {k:Nat}{A:Around}{a b:Addr}{E:Value->Shared->Prop}{Q:Value->Shared->Prop} (I:Inv X pins σ H s) (h:Eo X.K H k (.ref a) (.ref b)) (hu:A.units+(k+1)<cLine) (q:Q (.bool true) s):wpAny (model X.prog X.w) A (compareOp .Eq (.ref a) (.ref b)) Q E s:=by
 obtain⟨a',b',ka,kb,e1,e2,ha,hb,hp,nd⟩:=h
 cases e1
 cases e2
 obtain⟨_,la,va,ra,da⟩:=(show BN X.prog X.w H s.heap a (.dK ka) from I.BR a _ ha)
 obtain⟨_,lb,vb,rb,db⟩:=(show BN X.prog X.w H s.heap b (.dK kb) from I.BR b _ hb)
 have Ql:(vb.map (·.1)).Nodup:=by rw[jS rb];exact nd
 refine PySem.W.keq_eq la lb da db (by omega) (fun _=>j1 (A:=A.in1) (k:=k) I (by show A.units+1+k<cLine;omega) Ql ra rb hp fun _ h=>h) ?_
 have:(va.length==vb.length)=true:=by
  rw[<- KV.length ra,<- KV.length rb,Paired.length hp];simp
 rw[this]
 exact q
noncomputable def HN (K:PySem.W.Frag)(H:Hp)(k:Nat)(x y:V):Prop:=Dy K H k x y\/Eo K H k x y
theorem HN.eq {k:Nat}{A:Around}{x y:V}{v u:Value} (I:Inv X pins σ H s) (h:HN X.K H k x y) (rx:RelV x v) (ry:RelV y u) (hu:A.units+(k+1)<cLine):xZ X.prog X.w A s v u:=by
 intro E Q q
 rcases h with h|h
 ·exact Dy.eq I k h rx ry (by omega) X.prog X.w E Q q
 ·obtain⟨a,b,ka,kb,rfl,rfl,r⟩:=id h
  cases rx
  cases ry
  by_cases e:a=b
  ·subst e;exact SeqAt.EqAt.same _ X.prog X.w E Q q
  ·unfold eqBool
   refine zY ?_
   refine wpAny_ite_split (fun LS=>absurd (by have:=eq_of_beq LS;injection this) e) (fun _=>?_)
   exact y9 (Eo.rc I h hu (Ac q))
theorem jp {k:Nat}{A:Around} (I:Inv X pins σ H s) {vs ws:List V}{its CC:List Value} (r1:Vals vs its) (r2:Vals ws CC) (p:Paired (HN X.K H k) vs ws) (hu:A.units+(k+1)<cLine):
  ∀ j (h1:j<its.toArray.size) (h2:j<CC.toArray.size),xZ X.prog X.w A s its.toArray[j] CC.toArray[j]:=fun j h1 h2=>by
 rw[yL]at h1 h2
 obtain⟨x,ex,rx⟩:=r1.at' (i:=j) (u:=its[j]) (by simp)
 obtain⟨y,ey,ry⟩:=r2.at' (i:=j) (u:=CC[j]) (by simp)
 obtain⟨y',RF,l⟩:=Paired.at p ex
 rw[ey]at RF
 obtain rfl:=Option.some.inj RF
 have:=HN.eq I l rx ry hu
 simpa using this
noncomputable def qX (K:PySem.W.Frag)(H:Hp)(k:Nat)(x y:V):Prop:=∃ p q vs ws,x=.ref p/\y=.ref q/\CT K H p vs/\CT K H q ws/\Paired (HN K H k) vs ws
theorem rO {k:Nat}(hu:X.A.units+(k+2)<cLine):Dq X (compareOp .Eq) (fun x y H Q=>qX X.K H k x y/\Q (.bl true) H):=by
 intro pins s σ H x y v u Q I rx ry hw
 obtain⟨⟨p,q',vs,ws,rfl,rfl,h1,h2,hp⟩,q⟩:=hw
 cases rx
 cases ry
 obtain⟨its,r1,pl,hz⟩:=I.tuple h1
 obtain⟨CC,r2,HV,EW⟩:=I.tuple h2
 have l1:=r1.length
 have l2:=r2.length
 have l3:=Paired.length hp
 obtain⟨⟨cls,dd,data,sl⟩,ho,hc,n,hd⟩:=id pl
 obtain⟨⟨WL,O7,data2,Mj⟩,Nw,GW,n2,hd2⟩:=id HV
 simp only at hc hd GW hd2
 subst hc hd GW hd2
 exact wpAny_richCompare_same_room (op:=.Eq) ⟨_,ho,rfl⟩ ⟨_,Nw,rfl⟩ F.slot_tuple_eq (call_meetsIn F.slot_tuple_eq ⟨_,ho,rfl⟩ F.entry_tuple_eq (F.args_tuple_eq_2 _ _) (v9 p q' its.toArray CC.toArray n n2 dd O7 sl Mj (by simp;omega))
  ⟨ho,Nw,jp I r1 r2 hp (by rw[AN];omega),show Value.bool true≠Value.notImplemented/\_ from ⟨(fun x=>nomatch x),⟨.bl _,H,I,rfl,q⟩⟩⟩) (by omega)
theorem rM {k:Nat}(hu:X.A.units+(k+2)<cLine):Dq X (compareOp .NotEq) (fun x y H Q=>qX X.K H k x y/\Q (.bl false) H):=by
 intro pins s σ H x y v u Q I rx ry hw
 obtain⟨⟨p,q',vs,ws,rfl,rfl,h1,h2,hp⟩,q⟩:=hw
 cases rx
 cases ry
 obtain⟨its,r1,pl,hz⟩:=I.tuple h1
 obtain⟨CC,r2,HV,EW⟩:=I.tuple h2
 have l1:=r1.length
 have l2:=r2.length
 have l3:=Paired.length hp
 obtain⟨⟨cls,dd,data,sl⟩,ho,hc,n,hd⟩:=id pl
 obtain⟨⟨WL,O7,data2,Mj⟩,Nw,GW,n2,hd2⟩:=id HV
 simp only at hc hd GW hd2
 subst hc hd GW hd2
 exact wpAny_richCompare_same_room (op:=.NotEq) ⟨_,ho,rfl⟩ ⟨_,Nw,rfl⟩ F.slot_tuple_ne (call_meetsIn F.slot_tuple_ne ⟨_,ho,rfl⟩ F.entry_tuple_ne (F.args_tuple_ne_2 _ _) (v8 p q' its.toArray CC.toArray n n2 dd O7 sl Mj (by simp;omega))
  ⟨ho,Nw,jp I r1 r2 hp (by rw[AN];omega),show Value.bool false≠Value.notImplemented/\_ from ⟨(fun x=>nomatch x),⟨.bl _,H,I,rfl,q⟩⟩⟩) (by omega)
theorem wr (K:PySem.W.Frag){k:Nat}(hu:X.A.units+(k+1)<cLine)(h:X.K=K:=by rfl):Dq X (compareOp .Eq) (fun x y H Q=>Eo K H k x y/\Q (.bl true) H):=h▸rP hu
theorem vP (K:PySem.W.Frag){k:Nat}(hu:X.A.units+(k+1)<cLine)(h:X.K=K:=by rfl):Dq X (compareOp .NotEq) (fun x y H Q=>Eo K H k x y/\Q (.bl false) H):=h▸rN hu
theorem wq (K:PySem.W.Frag){k:Nat}(hu:X.A.units+(k+2)<cLine)(h:X.K=K:=by rfl):Dq X (compareOp .Eq) (fun x y H Q=>qX K H k x y/\Q (.bl true) H):=h▸rO hu
theorem vO (K:PySem.W.Frag){k:Nat}(hu:X.A.units+(k+2)<cLine)(h:X.K=K:=by rfl):Dq X (compareOp .NotEq) (fun x y H Q=>qX K H k x y/\Q (.bl false) H):=h▸rM hu
end
end L2
namespace L2
open PySem PySem.Spec PyProof.Rows
noncomputable def U1 (P:Program)(w:World)(K:PySem.W.Frag)(mg:Str->Option Value)(base:Heap)(k:Nat)(C:Addr)(m:Str)(ps:List Str)(dvs:List V)(sp:Sp):Prop:=
 ∃ f fd ds,F8 K C/\sI K C m f/\Binds K fd ps ds/\Vals dvs ds/\BF P w K mg base Co k f fd ps sp
noncomputable def U2 (P:Program)(w:World)(K:PySem.W.Frag)(mg:Str->Option Value)(base:Heap)(k:Nat)(x:Str)(ps:List Str)(dvs:List V)(sp:Sp):Prop:=
 ∃ f fd ds,mg x=some (.ref f)/\PySem.W.keepIn K (.ref f)=true/\Binds K fd ps ds/\Vals dvs ds/\BF P w K mg base Co k f fd ps sp
section
variable {P : Program}{w : World}{K : PySem.W.Frag}{mg : Str -> Option Value}{base : Heap}
theorem F0.ok {x qual:Str}{st:Stmt}{f:Addr}{fd:FuncData}{N ps:List Str}{k:Nat}{sp:Sp} (F:F0 K x qual st f fd) (S:ai N ps (af st)) (len:∀ vs H Q E,sp vs H Q E->vs.length=ps.length)
  (E5:∀ (BJ:Value)(A:Around)(outer:List Env)(s:Shared)(H:Hp)(vs:List V)(Q:VK)(E:XK),Ck k (A.deeper (envOfC qual (af st) s.heap.objs.size f BJ))->sp vs H Q E->
   ∃ t,GA (lK Co P w K mg base N qual (af st) f BJ A outer s H E).JJ (aR st) t/\t { nx:=fun _ H'=>Q .non H',rt:=Q } (start N vs) H):BF P w K mg base Co (k+1) f fd ps sp:=by
 obtain⟨oc,od,dV,kV,doc,pm,an,BJ,ct,DS,rfl,lk,G8⟩:=F.ex
 refine wj lk G8 S len fun A outer s H vs Q E hr Jm=>?_
 obtain⟨t,h,q⟩:=E5 BJ A outer s H vs Q E hr Jm
 exact⟨t,h.JJ,q⟩
end
section
variable {X : Cx}{k : Nat}{C : Addr}{ps : List Str}{sp : Sp}{x m : Str}{p pos apos : Pos}{e o : Expr}{es : List Expr}{ta : TE}{t : TA}{dvs : List V}
theorem vD (D:U2 X.prog X.w X.K X.mg X.base k x ps dvs sp)(hr:Ck k X.A)(hg:Gl X x)
  (ha:PA X (e::es) t) (Gw:(x==("__debug__":Str))=false:=by decide) (he:starEach (e::es) X.env=(false,eval e X.env)::starEach es X.env:=by rfl) (En:(backTo pos (starEach es X.env)).any (·.1)=false:=by rfl):
  PE X (.Call (.Name x p) (e::es) [] pos) (oX sp dvs E0 t):=by
 obtain⟨f,fd,ds,hm,kp,b,hd,F⟩:=D
 exact sY F hr hg hm kp b hd jk ha Gw he En
theorem vz {pl:Sem Bool}(he:PE X o ta)(D:U1 X.prog X.w X.K X.mg X.base k C m ps dvs sp)(hr:Ck k X.A)(ha:PA X (e::es) t)
  (IS:starEach (e::es) X.env=(false,eval e X.env)::starEach es X.env:=by rfl) (En:(backTo pos (starEach es X.env)).any (·.1)=false:=by rfl)
  (ht:eval (.Call (.Attribute o m apos) (e::es) [] pos) X.env=(do
   let ov <- eval o X.env
   standAt apos.atName
   let (f,first) <- holding [ov] (getMethod ov m pl)
   callWith pos f first (backTo pos (starEach (e::es) X.env)) (backToKw pos (keywordEach [] X.env))):=by rfl):
  PE X (.Call (.Attribute o m apos) (e::es) [] pos) (mx C m sp dvs E0 ta t):=by
 obtain⟨f,fd,ds,cl,hm,b,hd,F⟩:=D
 exact sX he cl hm F hr b hd jk ha IS En ht
end
theorem CG {N P:List Str}{sc:Scope} (a:sc.kind=.function:=by rfl) (b:sc.isCoroutine=false:=by rfl) (c:sc.isGenerator=false:=by rfl) (d:N.Nodup:=by decide +kernel) (e:N.take P.length=P:=by rfl) (f:∀ x∈P,sc.names.lookup x=some .local\/sc.names.lookup x=some .cell:=by decide +kernel) (g:∀ y∈sc.names,y.2≠.free:=by decide +kernel):ai N P sc:=⟨a,b,c,d,e,f,g⟩
theorem Ck.m {j k:Nat}{A:Around} (r:Ck k A) (h:j<=k:=by decide):Ck j A:=r.mono h
section
variable {X : Cx}{pos pos' : Pos}
theorem pS (i:Nat){x:Str}{e:Expr}{te:TE} (hN:X.N.Nodup) (he:PE X e te) (hi:X.N[i]?=some x:=by rfl) (hx:Loc X.env.scope x:=by first|exact Or.inl rfl|exact Or.inr rfl) (hs:swapsWith e (some (.Name x pos')) pos.line X.env=pure false:=by rfl) (hf:X.fn x=true\/X.env.scope.names.lookup x=some .local:=by first|exact .inl rfl|exact .inr rfl|assumption):
  PS X (.Assign [.Name x pos'] e pos) (u7 te (aO i)):=Mt hN hi hx he hs hf
theorem pN (i:Nat){x:Str}(hN:X.N.Nodup)(hi:X.N[i]?=some x:=by rfl)(hx:Loc X.env.scope x:=by first|exact Or.inl rfl|exact Or.inr rfl)(hf:X.fn x=true\/X.env.scope.names.lookup x=some .local:=by first|exact .inl rfl|exact .inr rfl|assumption):PG X (.Name x pos) (aO i):=sW hN hi hx hf
theorem pC (i:Nat){x:Str}{scope:Scope}{N':List Str}{cells:List (Str×Addr)}{C:Addr}{s:Shared}{H:Hp}{fp:List Addr} (hN:N'.Nodup:=by decide +kernel) (hi:N'[i]?=some x:=by rfl) (hx:Loc (aH X scope N' cells C s H fp).env.scope x:=by first|exact Or.inl rfl|exact Or.inr rfl)
  (hf:(aH X scope N' cells C s H fp).fn x=true\/(aH X scope N' cells C s H fp).env.scope.names.lookup x=some .local:=by first|exact .inl rfl|exact .inr rfl|assumption):PG (aH X scope N' cells C s H fp) (.Name x pos) (aO i):=sW hN hi hx hf
theorem cS (nT:Nat)(js:List Nat)(N':List Str){scope:Scope}(h:gg X.env.scope X.N scope nT js N'=true:=by kernel_rfl):bO X scope nT js N':=iu rfl rfl h
variable {a b o i : Expr}{ta tb td ty : TE}
theorem pI {r:R2}(hr:Pg X r)(ha:PE X a ta)(hb:PE X b tb)(hs:tW b:=by exact fun _ _=>rfl):PE X (.Subscript a b pos) (Me r ta tb):=Q7 hr ha hb hs
theorem pD (hu:X.A.units+1<cLine)(ho:PE X o td)(hi:PE X i ty)(hs:Ow i:=by exact fun _ _=>rfl):PE X (.Subscript o i pos) (vd td ty):=xk hu ho hi hs
theorem pM {op:CmpOp}{r:R2} (ho:Dq X (compareOp op) r) (ha:PE X a ta) (hb:PE X b tb) (hm:behindInMarks op b=false:=by exact vN _):PE X (.Compare a [op] [b] pos) (Me r ta tb):=xm ho ha hb hm
theorem pT {op:CmpOp}{r:R2} (ho:Dq X (compareOp op) r) (ha:PE X a ta) (hb:PE X b tb) (hm:behindInMarks op b=false:=by exact vN _):PT X (.Compare a [op] [b] pos) (Lq (Me r ta tb)):=x9 ho ha hb hm
end
section
variable {P : Program}{w : World}{K : PySem.W.Frag}{mg : Str -> Option Value}{base : Heap}
theorem Cu.k {x qual:Str}{st:Stmt}{f:Addr}{fd:FuncData}{N ps:List Str}{k:Nat}{sp:Sp} (F:Cu K x qual st f fd) (S:ai N ps (af st))
  (E5:∀ (BJ:Value)(A:Around)(outer:List Env)(s:Shared)(H:Hp)(vs:List V)(Q:VK)(E:XK),Ck k (A.deeper (envOfC qual (af st) s.heap.objs.size f BJ))->sp vs H Q E->
   ∃ t,GA (lK Co P w K mg base N qual (af st) f BJ A outer s H E).JJ (aR st) t/\t { nx:=fun _ H'=>Q .non H',rt:=Q } (start N vs) H)
  (len:∀ vs H Q E,sp vs H Q E->vs.length=ps.length:=by intro _ _ _ _ h;repeat first|(obtain⟨rfl,_⟩:=h;rfl;done)|obtain⟨_,h⟩:=h):BF P w K mg base Co (k+1) f fd ps sp:=F.ok S len E5
theorem F0.k {x qual:Str}{st:Stmt}{f:Addr}{fd:FuncData}{N ps:List Str}{k:Nat}{sp:Sp} (F:F0 K x qual st f fd) (S:ai N ps (af st))
  (E5:∀ (BJ:Value)(A:Around)(outer:List Env)(s:Shared)(H:Hp)(vs:List V)(Q:VK)(E:XK),Ck k (A.deeper (envOfC qual (af st) s.heap.objs.size f BJ))->sp vs H Q E->
   ∃ t,GA (lK Co P w K mg base N qual (af st) f BJ A outer s H E).JJ (aR st) t/\t { nx:=fun _ H'=>Q .non H',rt:=Q } (start N vs) H)
  (len:∀ vs H Q E,sp vs H Q E->vs.length=ps.length:=by intro _ _ _ _ h;repeat first|(obtain⟨rfl,_⟩:=h;rfl;done)|obtain⟨_,h⟩:=h):BF P w K mg base Co (k+1) f fd ps sp:=F0.ok F S len E5
end
end L2
namespace My
structure S8 (n d : Int) : Prop where
  is : ∀ e : Int, 2 <= e -> e < d -> Int.fmod n e ≠ 0
noncomputable def Ee (n:Int):Bool:=@decide (2<=n/\∀ e:Int,2<=e->e * e<=n->Int.fmod n e≠0) (Classical.propDecidable _)
theorem Cq (n:Int):Ee n=true ↔ (2<=n/\∀ e:Int,2<=e->e * e<=n->Int.fmod n e≠0):=by
 unfold Ee
 exact @Aw _ (Classical.propDecidable _)
theorem w4 {p r:Int}(hp:Ee p=true)(h2:2<=r)(hr:r<p):Int.fmod p r≠0:=by
 intro h0
 obtain⟨_,h⟩:=(Cq p).mp hp
 have hq:p=r * Int.fdiv p r:=by
  have:=Int.fmod_def p r
  omega
 generalize Int.fdiv p r=q at hq
 have hq2:2<=q:=by
  rcases Int.lt_or_le q 2 with c|c
  ·exfalso
   have:r * q<=r * 1:=Bp (by omega) (by omega)
   omega
  ·exact c
 rcases Int.le_total r q with c|c
 ·have:r * r<=r * q:=Bp c (by omega)
  exact h r h2 (by omega) h0
 ·have:q * q<=r * q:=Bl c (by omega)
  refine h q hq2 (by omega) ?_
  rw[hq,Int.mul_fmod_left]
noncomputable def Z9 (p:Nat):Bool:=decide (2<=p)&&(List.range 1000).all fun e=>decide (e<2) || decide (p<e * e) || decide (p % e≠0)
theorem IL {p:Nat}(h:Z9 p=true)(hp:p<1000000):Ee (p:Int)=true:=by
 unfold Z9 at h
 rw[zg]at h
 obtain⟨h1,h2⟩:=h
 have h1:=yA h1
 rw[Cq]
 refine⟨by omega,fun e he Td h0=>?_⟩
 obtain⟨k,rfl⟩:∃ k:Nat,e=(k:Int):=⟨e.toNat,by omega⟩
 have hkk:k * k<=p:=by exact_mod_cast Td
 have hk:k<1000:=by
  rcases Nat.lt_or_ge k 1000 with c|c
  ·exact c
  ·have:1000 * 1000<=k * k:=Nat.mul_le_mul c c
   omega
 have:=(zF.mp h2) k (zz.mpr hk)
 simp only[Bool.or_eq_true,B5]at this
 rcases this with (c|c)|c
 ·omega
 ·omega
 ·apply c
  have:Int.fmod (p:Int) (k:Int)=((p % k:Nat):Int):=by
   rw[za _ (by omega)];rfl
  rw[this]at h0
  exact_mod_cast h0
theorem HX:Ee 999983=true:=IL (p:=999983) (by decide +kernel) (by decide)
structure Inv (p a rest made : Int) : Prop where
  eq : (made * a - rest) % p = 0
  lo : 0 <= made
  hi : made < p
theorem FG {p a r:Int}(hp:2<=p)(hr:Int.fmod a p=r):Inv p a r 1:=by
 refine⟨?_,by omega,by omega⟩
 rw[Int.one_mul,<- hr,za _ (by omega)]
 exact zG.mp (Int.emod_emod_of_dvd _ (Int.dvd_refl _)).symm
theorem tT {p a r m:Int}(h:Inv p a r m)(hp:2<=p)(hr:0<r):Inv p a (Int.fmod p r) (Int.fmod (m * (0 - Int.fdiv p r)) p):=by
 have e1:Int.fmod p r=p - r * Int.fdiv p r:=Int.fmod_def p r
 generalize Int.fdiv p r=q at *
 rw[e1]
 rw[za _ (by omega)]
 refine⟨?_,zo _ (by omega),zb _ (by omega)⟩
 have h0:=h.eq
 obtain⟨k,hk⟩:=Int.dvd_of_emod_eq_zero h0
 have e2:m * (0 - q) % p=m * (0 - q) - p * (m * (0 - q) / p):=Int.emod_def ..
 rw[e2]
 generalize m * (0 - q) / p=z
 apply zQ
 refine⟨- z * a - q * k - 1,?_⟩
 have e3:m * a=r+p * k:=by omega
 have:(m * (0 - q) - p * z) * a - (p - r * q)=- q * (m * a) - p * z * a - p+r * q:=by
  simp only[Int.sub_mul,Int.mul_sub,Int.mul_zero,Int.zero_sub,Int.neg_mul,Int.mul_neg]
  have:m * q * a=q * (m * a):=by rw[Ag m q,zA]
  omega
 rw[this,e3]
 simp only[Int.mul_sub,Int.mul_add,Int.mul_neg,Int.neg_mul,BB]
 have a1:p * z * a=p * (z * a):=zA ..
 have a2:q * (p * k)=p * (q * k):=by rw[<- zA,Ag q p,zA]
 have a3:q * r=r * q:=Ag ..
 omega
theorem tU {p r:Int}(hp:Ee p=true)(h1:0<r)(h2:r≠1)(h3:r<p):0<Int.fmod p r/\Int.fmod p r<r:=by
 have:=w4 hp (by omega) h3
 have a:=Int.fmod_nonneg_of_pos p h1
 have b:=Int.fmod_lt_of_pos p h1
 omega
end My
namespace Mx
noncomputable def dot:List Int->List Int->Int
 | a::x,b::y=>a * b+dot x y
 | _,_=>0
noncomputable def dW (p:Int):Int->List (Int×Int)->Int
 | t,[]=>t
 | t,(a,b)::r=>dW p ((t+a * b % p) % p) r
noncomputable def FA (p:Int)(x y:List Int):Int:=dW p 0 (x.zip y)
theorem jj (p:Int):∀ (x y:List Int)(t:Int),t % p=t->dW p t (x.zip y)=(t+dot x y) % p
 | [],_,t,h=>by simp[dW,dot,h]
 | _::_,[],t,h=>by simp[dW,dot,h]
 | a::x,b::y,t,_=>by
  show dW p ((t+a * b % p) % p) (x.zip y)=_
  rw[jj p x y _ (Int.emod_emod_of_dvd _ (Int.dvd_refl _))]
  show ((t+a * b % p) % p+dot x y) % p=(t+(a * b+dot x y)) % p
  rw[Int.emod_add_emod,Int.add_assoc,Int.add_comm t,Int.add_assoc,Int.emod_add_emod]
  congr 1
  omega
theorem Ed (p:Int)(x y:List Int):FA p x y=dot x y % p:=by
 unfold FA
 rw[jj p x y 0 (by simp),AM]
theorem Dp:∀ (x y:List Int),dot x y=dot y x
 | [],[]=>rfl
 | [],_::_=>rfl
 | _::_,[]=>rfl
 | a::x,b::y=>by show a * b+dot x y=b * a+dot y x;rw[Ag,Dp x y]
theorem jB (p:Int):∀ (x y:List Int),dot (x.map (· % p)) y % p=dot x y % p
 | [],_=>by simp[dot]
 | _::_,[]=>by simp[dot]
 | a::x,b::y=>by
  show (a % p * b+dot (x.map (· % p)) y) % p=(a * b+dot x y) % p
  rw[Int.add_emod,jB p x y,Int.mul_emod,Int.emod_emod_of_dvd _ (Int.dvd_refl _),<- Int.mul_emod,<- Int.add_emod]
theorem Gd (p:Int)(x y:List Int):dot x (y.map (· % p)) % p=dot x y % p:=by
 rw[Dp,jB,Dp]
noncomputable def col (t:List (List Int))(j:Nat):List Int:=t.map fun r=>r.getD j 0
noncomputable def BG (n i:Nat):List Int:=(List.range n).map fun j=>if j=i then 1 else 0
noncomputable def ones (n:Nat):List (List Int):=(List.range n).map (BG n)
theorem qF:∀ (n i s:Nat)(r:List Int),r.length=n->dot ((List.range' s n).map fun j=>if j=s+i then (1:Int) else 0) r=r.getD i 0
 | 0,i,s,r,h=>by
  have:r=[]:=List.length_eq_zero_iff.mp h
  subst this;simp[dot]
 | n+1,i,s,[],h=>by simp at h
 | n+1,0,s,a::r,h=>by
  rw[Bh]
  show (if s=s+0 then (1:Int) else 0) * a+dot _ r=a
  rw[if_pos (by omega)]
  have z:∀ (m t:Nat)(v:List Int),s<t->dot ((List.range' t m).map fun j=>if j=s+0 then (1:Int) else 0) v=0:=by
   intro m
   induction m with
   | zero=>intro t v _;simp[dot]
   | succ m ih=>
    intro t v ht
    rw[Bh]
    cases v with
    | nil=>simp[dot]
    | cons c v=>
     show (if t=s+0 then (1:Int) else 0) * c+dot _ v=0
     rw[if_neg (by omega),ih (t+1) v (by omega)];omega
  rw[z n (s+1) r (by omega)];omega
 | n+1,i+1,s,a::r,h=>by
  rw[Bh]
  show (if s=s+(i+1) then (1:Int) else 0) * a+dot _ r=_
  rw[if_neg (by omega)]
  have:=qF n i (s+1) r (by simpa using h)
  rw[show (fun j=>if j=s+(i+1) then (1:Int) else 0)=fun j=>if j=s+1+i then (1:Int) else 0 by funext j;rw[show s+(i+1)=s+1+i by omega]]
  rw[this]
  simp
theorem D7 (n i:Nat)(r:List Int)(h:r.length=n):dot (BG n i) r=r.getD i 0:=by
 have:=qF n i 0 r h
 unfold BG
 rw[List.range_eq_range']
 simpa using this
theorem Hv {p:Int}{r:List Int} (h:∀ x∈r,0<=x/\x<p):r.map (· % p)=r:=by
 have:r.map (· % p)=r.map id:=z7 fun x hx=>zw (h x hx).1 (h x hx).2
 rw[this,As]
noncomputable abbrev e (r:List Int)(j:Nat):Int:=r.getD j 0
noncomputable def Fo (p:Int)(r:List Int):Prop:=∀ x∈r,0<=x/\x<p
theorem Fo.at {p:Int}{r:List Int} (hp:0<p) (h:Fo p r) (j:Nat):0<=e r j/\e r j<p:=by
 unfold e
 rw[yc]
 cases hj:r[j]? with
 | none=>exact⟨Int.le_refl _,hp⟩
 | some x=>exact h x (yj hj)
noncomputable def scaled (p:Int)(r:List Int)(k:Int):List Int:=r.map fun x=>k * x % p
noncomputable def without (p:Int)(r lead:List Int)(q:Nat):List Int:=if e r q=0 then r else List.zipWith (fun m t=>(m - e r q * t % p) % p) r lead
noncomputable def Ct (rows:List (List Int))(start q:Nat):Option Nat:=(List.range' start (rows.length - start)).find? fun a=>decide (e (rows.getD a []) q≠0)
noncomputable def cleared (p:Int)(bk:Int->Int)(rows:List (List Int))(start a q:Nat):List (List Int):=
 let lead:=scaled p (rows.getD a []) (bk (e (rows.getD a []) q))
 let others:=(rows.take a++rows.drop (a+1)).map fun r=>without p r lead q
 others.take start++[lead]++others.drop start
noncomputable def step (p:Int)(bk:Int->Int)(st:List (List Int)×Nat)(q:Nat):List (List Int)×Nat:=
 match Ct st.1 st.2 q with
 | none=>st
 | some a=>(cleared p bk st.1 st.2 a q,st.2+1)
noncomputable def run (p:Int)(bk:Int->Int)(rows:List (List Int))(k:Nat):List (List Int)×Nat:=(List.range k).foldl (step p bk) (rows,0)
theorem ED (p:Int)(bk:Int->Int)(rows:List (List Int))(k:Nat):run p bk rows (k+1)=step p bk (run p bk rows k) k:=by
 unfold run
 rw[Ak,List.foldl_append]
 rfl
theorem qD {p:Int}{r:List Int}{k:Int} (j:Nat):e (scaled p r k) j=k * e r j % p:=by
 unfold e scaled
 rw[yc,yc,ye]
 cases r[j]? with
 | none=>simp
 | some x=>simp
theorem ni {p:Int}{r lead:List Int}{q:Nat} (hp:0<p) (hr:Fo p r) (hl:lead.length=r.length) (j:Nat):e (without p r lead q) j=(e r j - e r q * e lead j) % p:=by
 unfold without
 by_cases h:e r q=0
 ·rw[if_pos h,h,Int.zero_mul,Int.sub_zero]
  have:=hr.at hp j
  exact (zw this.1 this.2).symm
 ·rw[if_neg h]
  unfold e
  rw[yc,yc,List.getElem?_zipWith]
  rw[show lead.getD j 0=(lead[j]?).getD 0 from yc ..]
  by_cases hj:j<r.length
  ·have LM:j<lead.length:=by omega
   simp only[y8 hj,y8 LM,Option.getD_some]
   rw[Int.sub_emod_emod]
   simp[hj]
  ·have LM:¬ j<lead.length:=by omega
   have n1:r[j]?=none:=yp (by omega)
   have n2:lead[j]?=none:=yp (by omega)
   simp[n1,n2]
theorem Dh (p x:Int):p ∣ x % p - x:=by
 refine⟨-(x / p),?_⟩
 rw[Int.emod_def,Int.mul_neg]
 omega
theorem lI (p k:Int):∀ (r v:List Int),p ∣ dot (scaled p r k) v - k * dot r v
 | [],v=>by simp[scaled,dot]
 | x::r,[]=>by simp[scaled,dot]
 | x::r,y::v=>by
  have ih:=lI p k r v
  have h:=Dh p (k * x)
  show p ∣ (k * x % p * y+dot (scaled p r k) v) - k * (x * y+dot r v)
  have:(k * x % p * y+dot (scaled p r k) v) - k * (x * y+dot r v)=(k * x % p - k * x) * y+(dot (scaled p r k) v - k * dot r v):=by
   rw[Int.sub_mul,Int.mul_add,zA k x y]
   omega
  rw[this]
  exact AY (AX h) ih
theorem tI (p c:Int):∀ (r lead v:List Int),lead.length=r.length->p ∣ dot (List.zipWith (fun m t=>(m - c * t % p) % p) r lead) v - (dot r v - c * dot lead v)
 | [],[],v,_=>by simp[dot]
 | x::r,y::lead,[],_=>by simp[dot]
 | x::r,y::lead,z::v,h=>by
  have ih:=tI p c r lead v (by simpa using h)
  have h1:p ∣ (x - c * y % p) % p - (x - c * y):=by
   rw[Int.sub_emod_emod];exact Dh p _
  show p ∣ ((x - c * y % p) % p * z+dot _ v) - (x * z+dot r v - c * (y * z+dot lead v))
  have:((x - c * y % p) % p * z+dot (List.zipWith (fun m t=>(m - c * t % p) % p) r lead) v) - (x * z+dot r v - c * (y * z+dot lead v))=((x - c * y % p) % p - (x - c * y)) * z+(dot (List.zipWith (fun m t=>(m - c * t % p) % p) r lead) v - (dot r v - c * dot lead v)):=by
   rw[Int.sub_mul ((x - c * y % p) % p),Int.sub_mul x,Int.mul_add,zA c y z]
   omega
  rw[this]
  exact AY (AX h1) ih
theorem jA (p:Int)(r lead v:List Int)(q:Nat)(h:lead.length=r.length):p ∣ dot (without p r lead q) v - (dot r v - e r q * dot lead v):=by
 unfold without
 by_cases h0:e r q=0
 ·rw[if_pos h0,h0,Int.zero_mul,Int.sub_zero,Int.sub_self];exact Int.dvd_zero p
 ·rw[if_neg h0];exact tI p _ r lead v h
noncomputable def Kw (p:Int)(v:List Int)(rows:List (List Int)):Prop:=∀ r∈rows,p ∣ dot r v
structure Sh (p : Int) (w : Nat) (rows : List (List Int)) : Prop where
  Fe : ∀ r ∈ rows, r.length = w
  fit : ∀ r ∈ rows, Fo p r
noncomputable def Bk (p:Int)(bk:Int->Int):Prop:=∀ a,0<a->a<p->p ∣ a * bk a - 1
theorem D6 {p:Int}{bk:Int->Int}{rows:List (List Int)}{start a q:Nat}{r:List Int}:
  r∈cleared p bk rows start a q ↔ r=scaled p (rows.getD a []) (bk (e (rows.getD a []) q))\/∃ r0∈rows.take a++rows.drop (a+1),r=without p r0 (scaled p (rows.getD a []) (bk (e (rows.getD a []) q))) q:=by
 unfold cleared
 simp only[]
 generalize hl:scaled p (rows.getD a []) (bk (e (rows.getD a []) q))=lead
 generalize hm:(rows.take a++rows.drop (a+1)).map (fun r=>without p r lead q)=others
 have:r∈others.take start++[lead]++others.drop start ↔ r=lead\/r∈others:=by
  constructor
  ·intro h
   rcases yF.mp h with h|h
   ·rcases yF.mp h with h|h
    ·exact .inr (List.mem_of_mem_take h)
    ·exact .inl (by simpa using h)
   ·exact .inr (List.mem_of_mem_drop h)
  ·intro h
   rcases h with h|h
   ·subst h;simp
   ·have:r∈others.take start++others.drop start:=by rw[Bd];exact h
    rcases yF.mp this with h|h
    ·exact yY _ (yY _ h)
    ·exact yv _ h
 rw[this,<- hm]
 constructor
 ·rintro (h|h)
  ·exact .inl h
  ·obtain⟨r0,h1,h2⟩:=yD.mp h
   exact .inr ⟨r0,h1,h2.symm⟩
 ·rintro (h|⟨r0,h1,h2⟩)
  ·exact .inl h
  ·exact .inr (yD.mpr ⟨r0,h1,h2.symm⟩)
theorem uG {rows:List (List Int)}{a:Nat} (ha:a<rows.length) {r:List Int} (h:r∈rows):r=rows.getD a []\/r∈rows.take a++rows.drop (a+1):=by
 obtain⟨i,hi,rfl⟩:=zp h
 rcases Nat.lt_trichotomy i a with c|c|c
 ·right
  refine yY _ ?_
  rw[zH]
  exact⟨i,by omega,rfl⟩
 ·left;subst c;simp[hi]
 ·right
  refine yv _ ?_
  rw[List.mem_drop_iff_getElem]
  exact⟨i - (a+1),by omega,by congr 1;omega⟩
theorem Dg {rows:List (List Int)}{a:Nat}{r:List Int} (h:r∈rows.take a++rows.drop (a+1)):r∈rows:=by
 rcases yF.mp h with h|h
 ·exact List.mem_of_mem_take h
 ·exact List.mem_of_mem_drop h
theorem getD_mem {rows:List (List Int)}{a:Nat} (ha:a<rows.length):rows.getD a []∈rows:=by
 rw[yc,y8 ha];exact zm ha
theorem rp {p k:Int}{r:List Int} (hp:0<p):Fo p (scaled p r k):=by
 intro x hx
 obtain⟨y,_,rfl⟩:=yD.mp hx
 exact⟨zo _ (by omega),zb _ hp⟩
theorem oT {p:Int}{r lead:List Int}{q:Nat} (hp:0<p) (h:Fo p r):Fo p (without p r lead q):=by
 unfold without
 split
 ·exact h
 ·intro x hx
  obtain⟨i,hi,rfl⟩:=zp hx
  rw[List.getElem_zipWith]
  exact⟨zo _ (by omega),zb _ hp⟩
theorem oS {p:Int}{r lead:List Int}{q:Nat} (h:lead.length=r.length):(without p r lead q).length=r.length:=by
 unfold without
 split
 ·rfl
 ·rw[List.length_zipWith];omega
theorem Sh.cleared {p:Int}{bk:Int->Int}{w:Nat}{rows:List (List Int)}{start a q:Nat} (hp:0<p) (S:Sh p w rows) (ha:a<rows.length):Sh p w (cleared p bk rows start a q):=by
 have hl:(scaled p (rows.getD a []) (bk (e (rows.getD a []) q))).length=w:=by
  unfold scaled
  rw[y6];exact S.Fe _ (getD_mem ha)
 refine⟨fun r hr=>?_,fun r hr=>?_⟩
 ·rcases D6.mp hr with rfl|⟨r0,h0,rfl⟩
  ·exact hl
  ·have:=S.Fe r0 (Dg h0)
   rw[oS (by omega)];exact this
 ·rcases D6.mp hr with rfl|⟨r0,h0,rfl⟩
  ·exact rp hp
  ·exact oT hp (S.fit r0 (Dg h0))
theorem qu {p:Int}{bk:Int->Int}{w:Nat}{rows:List (List Int)}{start a q:Nat}{v:List Int} (hp:0<p) (hb:Bk p bk) (S:Sh p w rows) (ha:a<rows.length) (h0:e (rows.getD a []) q≠0):
  Kw p v (cleared p bk rows start a q) ↔ Kw p v rows:=by
 have hm:=getD_mem ha
 have hf:=(S.fit _ hm).at hp q
 generalize hx:e (rows.getD a []) q=x at *
 have DC:=hb x (by omega) hf.2
 have hl:=fun r (hr:r∈rows)=>show (scaled p (rows.getD a []) (bk x)).length=r.length by
  unfold scaled;rw[y6,S.Fe _ hm,S.Fe _ hr]
 have d1:=lI p (bk x) (rows.getD a []) v
 constructor
 ·intro K r hr
  have k1:p ∣ dot (scaled p (rows.getD a []) (bk x)) v:=K _ (D6.mpr (.inl (by rw[hx])))
  rcases uG ha hr with rfl|h
  ·
   have a1:p ∣ bk x * dot (rows.getD a []) v:=by
    have:=Int.dvd_sub k1 d1
    rwa [show dot (scaled p (rows.getD a []) (bk x)) v - (dot (scaled p (rows.getD a []) (bk x)) v - bk x * dot (rows.getD a []) v)=bk x * dot (rows.getD a []) v by omega]at this
   have a2:p ∣ (x * bk x - 1) * dot (rows.getD a []) v:=AX DC
   have a3:p ∣ x * (bk x * dot (rows.getD a []) v):=AR a1
   have:=Int.dvd_sub a3 a2
   rwa [show x * (bk x * dot (rows.getD a []) v) - (x * bk x - 1) * dot (rows.getD a []) v=dot (rows.getD a []) v by rw[Int.sub_mul,zA];omega]at this
  ·have k2:p ∣ dot (without p r (scaled p (rows.getD a []) (bk x)) q) v:=K _ (D6.mpr (.inr ⟨r,h,by rw[hx]⟩))
   have d2:=jA p r (scaled p (rows.getD a []) (bk x)) v q (hl r hr)
   have a1:=Int.dvd_sub k2 d2
   have a2:p ∣ e r q * dot (scaled p (rows.getD a []) (bk x)) v:=AR k1
   have:=AY a1 a2
   rwa [show dot (without p r (scaled p (rows.getD a []) (bk x)) q) v - (dot (without p r (scaled p (rows.getD a []) (bk x)) q) v - (dot r v - e r q * dot (scaled p (rows.getD a []) (bk x)) v))+e r q * dot (scaled p (rows.getD a []) (bk x)) v=dot r v by omega]at this
 ·intro K r hr
  have k1:p ∣ dot (scaled p (rows.getD a []) (bk x)) v:=by
   have a1:p ∣ bk x * dot (rows.getD a []) v:=AR (K _ hm)
   have:=AY d1 a1
   rwa [show dot (scaled p (rows.getD a []) (bk x)) v - bk x * dot (rows.getD a []) v+bk x * dot (rows.getD a []) v=dot (scaled p (rows.getD a []) (bk x)) v by omega]at this
  rcases D6.mp hr with rfl|⟨r0,h0,rfl⟩
  ·rw[hx];exact k1
  ·rw[hx]
   have Y8:=Dg h0
   have d2:=jA p r0 (scaled p (rows.getD a []) (bk x)) v q (hl r0 Y8)
   have a2:p ∣ dot r0 v - e r0 q * dot (scaled p (rows.getD a []) (bk x)) v:=Int.dvd_sub (K r0 Y8) (AR k1)
   have:=AY d2 a2
   rwa [show dot (without p r0 (scaled p (rows.getD a []) (bk x)) q) v - (dot r0 v - e r0 q * dot (scaled p (rows.getD a []) (bk x)) v)+(dot r0 v - e r0 q * dot (scaled p (rows.getD a []) (bk x)) v)=dot (without p r0 (scaled p (rows.getD a []) (bk x)) q) v by omega]at this
structure RR (p : Int) (w k : Nat) (rows : List (List Int)) (ps : List Nat) : Prop where
  sh : Sh p w rows
  len : ps.length <= rows.length
  lt : ∀ q ∈ ps, q < k
  inc : ps.Pairwise (· < ·)
  one : ∀ (i q : Nat), ps[i]? = some q -> e (rows.getD i []) q = 1
  Lj : ∀ (i j q : Nat), ps[j]? = some q -> i ≠ j -> e (rows.getD i []) q = 0
  lead : ∀ (i q q' : Nat), ps[i]? = some q -> q' < q -> e (rows.getD i []) q' = 0
  rest : ∀ (i q : Nat), ps.length <= i -> q < k -> e (rows.getD i []) q = 0
theorem ww (q:Nat):e [] q=0:=by simp[e]
theorem RR.start {p:Int}{w:Nat}{rows:List (List Int)} (S:Sh p w rows):RR p w 0 rows []:=
 ⟨S,yR _,(fun _ h=>nomatch h),List.Pairwise.nil,(fun i q h=>by simp at h),(fun i j q h=>by simp at h),(fun i q q' h=>by simp at h),fun i q _ h=>absurd h (Nat.not_lt_zero _)⟩
theorem nV {rows:List (List Int)}{start q:Nat} (h:Ct rows start q=none):∀ i,start<=i->e (rows.getD i []) q=0:=by
 intro i hi
 by_cases hl:i<rows.length
 ·unfold Ct at h
  rw[ze]at h
  have:=h i (by rw[List.mem_range'];exact⟨i - start,by omega,by omega⟩)
  simpa using this
 ·rw[yc,yp (by omega)];exact ww q
theorem EE {rows:List (List Int)}{start q a:Nat} (h:Ct rows start q=some a):start<=a/\a<rows.length/\e (rows.getD a []) q≠0:=by
 unfold Ct at h
 have h1:=AA h
 have h2:=zx h
 rw[List.mem_range']at h2
 obtain⟨i,hi,rfl⟩:=h2
 refine⟨by omega,by omega,by simpa using h1⟩
theorem fW {p:Int}{bk:Int->Int}{rows:List (List Int)}{start a q:Nat} (ha:a<rows.length) (hs:start<=a):(cleared p bk rows start a q).length=rows.length:=by
 unfold cleared
 simp only[yI,yM,AL,y6,zL,z4,Bs]
 omega
theorem cI {p:Int}{bk:Int->Int}{rows:List (List Int)}{start a q:Nat} (ha:a<rows.length) (hs:start<=a) (i:Nat) (hi:i<rows.length):
  ∃ lead,lead=scaled p (rows.getD a []) (bk (e (rows.getD a []) q))/\
   ((i<start/\(cleared p bk rows start a q).getD i []=without p (rows.getD i []) lead q)\/(i=start/\(cleared p bk rows start a q).getD i []=lead) \/
    (start<i/\∃ i',start<=i'/\i'<rows.length/\i'≠a/\(cleared p bk rows start a q).getD i []=without p (rows.getD i' []) lead q)):=by
 refine⟨_,rfl,?_⟩
 unfold cleared
 simp only[]
 generalize scaled p (rows.getD a []) (bk (e (rows.getD a []) q))=lead
 have OT:((rows.take a++rows.drop (a+1)).map fun r=>without p r lead q).length=rows.length - 1:=by
  simp only[y6,yI,yM,AL];omega
 have VE:∀ j,j<rows.length - 1->((rows.take a++rows.drop (a+1)).map fun r=>without p r lead q)[j]?=some (without p (rows.getD (if j<a then j else j+1) []) lead q):=by
  intro j hj
  rw[ye]
  by_cases c:j<a
  ·rw[yU (by rw[yM];omega),Aa c,if_pos c,y8 (by omega),yc,y8 (by omega)]
   rfl
  ·rw[yT (by rw[yM];omega),yM,List.getElem?_drop,if_neg c]
   have:a+1+(j - min a rows.length)=j+1:=by omega
   rw[this,y8 (by omega),yc,y8 (by omega)]
   rfl
 generalize ((rows.take a++rows.drop (a+1)).map fun r=>without p r lead q)=others at OT VE
 rw[yc]
 rcases Nat.lt_trichotomy i start with c|c|c
 ·left
  refine⟨c,?_⟩
  rw[An,yU (by rw[yM];omega),Aa c,VE i (by omega),if_pos (by omega)]
  rfl
 ·right;left
  refine⟨c,?_⟩
  subst c
  rw[An,yT (by rw[yM];omega),yM]
  have:i - min i others.length=0:=by omega
  rw[this]
  rfl
 ·right;right
  refine⟨c,if i - 1<a then i - 1 else i - 1+1,?_,?_,?_,?_⟩
  ·split <;> omega
  ·split <;> omega
  ·split <;> omega
  ·rw[yT (by rw[yI,yM,zL];omega),yI,yM,zL,List.getElem?_drop]
   have:start+(i - (min start others.length+1))=i - 1:=by omega
   rw[this,VE (i - 1) (by omega)]
   rfl
theorem RR.step {p:Int}{bk:Int->Int}{w k:Nat}{rows:List (List Int)}{ps:List Nat} (hp:1<p) (hb:Bk p bk) (R:RR p w k rows ps):
  ∃ JH,Mx.step p bk (rows,ps.length) k=((Mx.step p bk (rows,ps.length) k).1,JH.length)/\RR p w (k+1) (Mx.step p bk (rows,ps.length) k).1 JH/\(Mx.step p bk (rows,ps.length) k).1.length=rows.length/\∀ v,Kw p v (Mx.step p bk (rows,ps.length) k).1 ↔ Kw p v rows:=by
 unfold Mx.step
 simp only[]
 cases h:Ct rows ps.length k with
 | none=>
  have z:=nV h
  refine⟨ps,rfl,⟨R.sh,R.len,fun q hq=>B7 (R.lt q hq),R.inc,R.one,R.Lj,R.lead,fun i q hi hq=>?_⟩,rfl,fun v=>Iff.rfl⟩
  rcases Nat.lt_succ_iff_lt_or_eq.mp hq with c|c
  ·exact R.rest i q hi c
  ·subst c;exact z i hi
 | some a=>
  obtain⟨hs,ha,h0⟩:=EE h
  have OS:0<p:=by omega
  have hm:=getD_mem ha
  have hf:=(R.sh.fit _ hm).at OS k
  refine⟨ps++[k],by simp,?_,fW ha hs,fun v=>qu OS hb R.sh ha h0⟩
  have hlen:=fW (p:=p) (bk:=bk) (q:=k) ha hs
  have DC:=hb (e (rows.getD a []) k) (by omega) hf.2
  have l1:e (scaled p (rows.getD a []) (bk (e (rows.getD a []) k))) k=1:=by
   rw[qD,Ag]
   have:(e (rows.getD a []) k * bk (e (rows.getD a []) k)) % p=1 % p:=(zG).mpr (zQ DC)
   rw[this];exact zw (by omega) hp
  have l0:∀ q,q<k->e (scaled p (rows.getD a []) (bk (e (rows.getD a []) k))) q=0:=fun q hq=>by
   rw[qD,R.rest a q hs hq,Int.mul_zero,Int.zero_emod]
  have wz:∀ (i:Nat)(lead:List Int),i<rows.length->lead=scaled p (rows.getD a []) (bk (e (rows.getD a []) k))->
    e (without p (rows.getD i []) lead k) k=0/\∀ q,q<k->e (without p (rows.getD i []) lead k) q=e (rows.getD i []) q:=by
   intro i lead hi hl
   have T4:=getD_mem hi
   have Gs:lead.length=(rows.getD i []).length:=by rw[hl];unfold scaled;rw[y6,R.sh.Fe _ hm,R.sh.Fe _ T4]
   refine⟨?_,fun q hq=>?_⟩
   ·rw[ni OS (R.sh.fit _ T4) Gs,hl,l1,BB,Int.sub_self,Int.zero_emod]
   ·rw[ni OS (R.sh.fit _ T4) Gs,hl,l0 q hq,Int.mul_zero,Int.sub_zero]
    have:=(R.sh.fit _ T4).at OS q
    exact zw this.1 this.2
  have out:∀ i,¬ i<rows.length->(cleared p bk rows ps.length a k).getD i []=[]:=fun i hi=>by
   rw[yc,yp (by omega)];rfl
  have UB:∀ (i q:Nat),(ps++[k])[i]?=some q->(i<ps.length/\ps[i]?=some q)\/(i=ps.length/\q=k):=fun i q hq=>by
   by_cases c:i<ps.length
   ·rw[yU c]at hq;exact .inl ⟨c,hq⟩
   ·rw[yT (by omega)]at hq
    by_cases c2:i - ps.length=0
    ·rw[c2]at hq;simp at hq;exact .inr ⟨by omega,hq.symm⟩
    ·rw[yp (by simp;omega)]at hq;cases hq
  have UD:∀ (i q:Nat),ps[i]?=some q->q<k:=fun i q hq=>R.lt q (yj hq)
  refine⟨R.sh.cleared OS ha,by rw[hlen,yI,zL];omega,fun q hq=>?_,?_,fun i q hq=>?_,fun i j q hq T8=>?_,fun i q q' hq Gq=>?_,fun i q hi hq=>?_⟩
  ·rcases yF.mp hq with c|c
   ·exact B7 (R.lt q c)
   ·have:q=k:=by simpa using c
    omega
  ·rw[List.pairwise_append]
   refine⟨R.inc,List.pairwise_singleton _ _,fun x hx y hy=>?_⟩
   have:y=k:=by simpa using hy
   rw[this];exact R.lt x hx
  ·
   rcases UB i q hq with⟨c,hq⟩|⟨c,rfl⟩
   ·obtain⟨lead,hl,d⟩:=cI (p:=p) (bk:=bk) (q:=k) ha hs i (by omega)
    rcases d with⟨_,d⟩|⟨d,_⟩|⟨d,_⟩
    ·rw[d,(wz i lead (by omega) hl).2 q (UD i q hq)];exact R.one i q hq
    ·omega
    ·omega
   ·obtain⟨lead,hl,d⟩:=cI (p:=p) (bk:=bk) (q:=q) ha hs i (by omega)
    rcases d with⟨d,_⟩|⟨_,d⟩|⟨d,_⟩
    ·omega
    ·rw[d,hl];exact l1
    ·omega
  ·
   by_cases hi:i<rows.length
   ·obtain⟨lead,hl,d⟩:=cI (p:=p) (bk:=bk) (q:=k) ha hs i hi
    rcases UB j q hq with⟨c,hq⟩|⟨c,rfl⟩
    ·have hk:=UD j q hq
     rcases d with⟨_,d⟩|⟨d1,d⟩|⟨_,i',d1,d2,_,d⟩
     ·rw[d,(wz i lead hi hl).2 q hk];exact R.Lj i j q hq T8
     ·rw[d,hl];exact l0 q hk
     ·rw[d,(wz i' lead d2 hl).2 q hk];exact R.rest i' q d1 hk
    ·rcases d with⟨_,d⟩|⟨d1,d⟩|⟨_,i',d1,d2,_,d⟩
     ·rw[d];exact (wz i lead hi hl).1
     ·omega
     ·rw[d];exact (wz i' lead d2 hl).1
   ·rw[out i hi];exact ww q
  ·
   rcases UB i q hq with⟨c,hq⟩|⟨c,rfl⟩
   ·have hk:=UD i q hq
    obtain⟨lead,hl,d⟩:=cI (p:=p) (bk:=bk) (q:=k) ha hs i (by omega)
    rcases d with⟨_,d⟩|⟨d,_⟩|⟨d,_⟩
    ·rw[d,(wz i lead (by omega) hl).2 q' (by omega)];exact R.lead i q q' hq Gq
    ·omega
    ·omega
   ·obtain⟨lead,hl,d⟩:=cI (p:=p) (bk:=bk) (q:=q) ha hs i (by omega)
    rcases d with⟨d,_⟩|⟨_,d⟩|⟨d,_⟩
    ·omega
    ·rw[d,hl];exact l0 q' Gq
    ·omega
  ·
   rw[yI,zL]at hi
   by_cases Jr:i<rows.length
   ·obtain⟨lead,hl,d⟩:=cI (p:=p) (bk:=bk) (q:=k) ha hs i Jr
    rcases d with⟨d,_⟩|⟨d,_⟩|⟨_,i',d1,d2,_,d⟩
    ·omega
    ·omega
    ·rcases Nat.lt_succ_iff_lt_or_eq.mp hq with c|c
     ·rw[d,(wz i' lead d2 hl).2 q c];exact R.rest i' q d1 c
     ·subst c;rw[d];exact (wz i' lead d2 hl).1
   ·rw[out i Jr];exact ww q
theorem RR.run {p:Int}{bk:Int->Int}{w:Nat}{rows:List (List Int)} (hp:1<p) (hb:Bk p bk) (S:Sh p w rows):∀ k,∃ ps,(Mx.run p bk rows k).2=ps.length/\RR p w k (Mx.run p bk rows k).1 ps/\(Mx.run p bk rows k).1.length=rows.length/\∀ v,Kw p v (Mx.run p bk rows k).1 ↔ Kw p v rows
 | 0=>⟨[],rfl,RR.start S,rfl,fun v=>Iff.rfl⟩
 | k+1=>by
  obtain⟨ps,h1,h2,h3,h4⟩:=RR.run (bk:=bk) hp hb S k
  rw[ED]
  have e1:Mx.run p bk rows k=((Mx.run p bk rows k).1,ps.length):=by rw[<- h1]
  rw[e1]
  obtain⟨JH,g1,g2,g3,g4⟩:=h2.step hp hb
  exact⟨JH,by rw[g1],g2,g3.trans h3,fun v=>(g4 v).trans (h4 v)⟩
noncomputable def Ce (r:List Int)(m:Nat):Option Nat:=(List.range m).find? fun q=>decide (e r q≠0)
noncomputable def BM (rows:List (List Int))(m:Nat):List Nat:=(rows.map fun r=>Ce r m).filterMap id
theorem DQ {r:List Int}{m q:Nat} (hq:q<m) (h1:e r q≠0) (h0:∀ q',q'<q->e r q'=0):Ce r m=some q:=by
 unfold Ce
 rw[List.find?_range_eq_some]
 exact⟨by simpa using h1,zz.mpr hq,fun j hj=>by simpa using h0 j hj⟩
theorem DR {r:List Int}{m:Nat} (h0:∀ q,q<m->e r q=0):Ce r m=none:=by
 unfold Ce
 rw[ze]
 intro q hq
 simpa using h0 q (zz.mp hq)
theorem CJ {p:Int}{w m:Nat}{rows:List (List Int)}{ps:List Nat} (R:RR p w m rows ps):BM rows m=ps:=by
 have:rows.map (fun r=>Ce r m)=ps.map some++List.replicate (rows.length - ps.length) none:=by
  apply zq
  intro i
  rw[ye]
  have hl:=R.len
  by_cases hi:i<rows.length
  ·rw[y8 hi]
   have eg:rows.getD i []=rows[i]:=by rw[yc,y8 hi];rfl
   by_cases c:i<ps.length
   ·rw[yU (by simpa using c),ye,y8 c]
    have hq:ps[i]?=some ps[i]:=y8 c
    have:=DQ (r:=rows.getD i []) (R.lt _ (zm c)) (by rw[R.one i _ hq];decide) (fun q' Gq=>R.lead i _ q' hq Gq)
    rw[eg]at this
    show some (Ce rows[i] m)=some (some ps[i])
    rw[this]
   ·rw[yT (by simp;omega),List.getElem?_replicate,if_pos (by simp;omega)]
    have:=DR (r:=rows.getD i []) (m:=m) (fun q hq=>R.rest i q (by omega) hq)
    rw[eg]at this
    show some (Ce rows[i] m)=some none
    rw[this]
  ·rw[yp (by omega),yp (by simp;omega)]
   rfl
 unfold BM
 rw[this,List.filterMap_append]
 have a1:∀ l:List Nat,(l.map some).filterMap id=l:=fun l=>by
  rw[List.filterMap_map];simp
 have a2:∀ n,(List.replicate n (none:Option Nat)).filterMap id=[]:=fun n=>by
  induction n with
  | zero=>rfl
  | succ n ih=>rw[zX];exact ih
 rw[a1,a2,AB]
theorem ga:∀ (ps:List Nat)(s m:Nat),ps.Pairwise (·<·)->(∀ q∈ps,s<=q/\q<s+m)->ps.length<=m/\(ps.length=m->ps=List.range' s m)
 | [],s,m,_,_=>by
  refine⟨yR _,fun h=>?_⟩
  have:m=0:=h.symm
  subst this
  rfl
 | a::ps,s,0,_,h=>by have:=h a yw;omega
 | a::ps,s,m+1,hp,h=>by
  obtain⟨h1,h2⟩:=Ax.mp hp
  have ha:=h a yw
  have ih:=ga ps (s+1) m h2 (fun q hq=>⟨by have:=h1 q hq;omega,by have:=(h q (yE _ hq)).2;omega⟩)
  refine⟨by simp;exact ih.1,fun hl=>?_⟩
  have e1:=ih.2 (by simpa using hl)
  rw[Bh]
  have:a=s:=by
   rcases Nat.lt_or_ge s a with c|c
   ·exfalso
    have XI:=ga ps (s+2) (m - 1) h2 (fun q hq=>⟨by have:=h1 q hq;omega,by have:=(h q (yE _ hq)).2;have:=h1 q hq;omega⟩)
    have:ps.length=m:=by simpa using hl
    by_cases hm:m=0
    ·subst hm;have:=(h a yw).2;omega
    ·omega
   ·omega
  rw[this,e1]
theorem RR.all {p:Int}{w m:Nat}{rows:List (List Int)}{ps:List Nat} (R:RR p w m rows ps) (h:ps.length=m):ps=List.range m:=by
 have:=(ga ps 0 m R.inc (fun q hq=>⟨yR _,by have:=R.lt q hq;omega⟩)).2 h
 rw[this,List.range_eq_range']
theorem RR.EM {p:Int}{w m:Nat}{rows:List (List Int)}{ps:List Nat} (R:RR p w m rows ps):ps.length<=m:=
 (ga ps 0 m R.inc (fun q hq=>⟨yR _,by have:=R.lt q hq;omega⟩)).1
theorem oB {r:List Int}{m q:Nat} (h:q<m):e (r.take m) q=e r q:=by
 unfold e
 rw[yc,yc,Aa h]
theorem gp {rows:List (List Int)}{m a:Nat}:(rows.map (List.take m)).getD a []=(rows.getD a []).take m:=by
 rw[yc,yc,ye]
 cases rows[a]? with
 | none=>simp
 | some x=>rfl
theorem nU {rows:List (List Int)}{start m q:Nat} (h:q<m):Ct (rows.map (List.take m)) start q=Ct rows start q:=by
 unfold Ct
 rw[y6]
 congr 1
 funext a
 rw[gp,oB h]
theorem nD {p:Int}{r lead:List Int}{m q:Nat} (h:q<m):without p (r.take m) (lead.take m) q=(without p r lead q).take m:=by
 unfold without
 rw[oB h]
 split
 ·rfl
 ·rw[List.take_zipWith]
theorem p8 {p k:Int}{r:List Int}{m:Nat}:scaled p (r.take m) k=(scaled p r k).take m:=by
 unfold scaled;rw[BE]
theorem oH {p:Int}{bk:Int->Int}{rows:List (List Int)}{start a m q:Nat} (h:q<m):cleared p bk (rows.map (List.take m)) start a q=(cleared p bk rows start a q).map (List.take m):=by
 unfold cleared
 simp only[]
 rw[gp,oB h,p8]
 generalize scaled p (rows.getD a []) (bk (e (rows.getD a []) q))=lead
 have:((rows.map (List.take m)).take a++(rows.map (List.take m)).drop (a+1)).map (fun r=>without p r (lead.take m) q)=((rows.take a++rows.drop (a+1)).map fun r=>without p r lead q).map (List.take m):=by
  rw[<- BE,<- List.map_drop,<- yN,yt,yt]
  apply z7
  intro r _
  exact nD h
 rw[this]
 simp only[yN,BE,List.map_drop,yJ,zZ]
theorem Hr {p:Int}{bk:Int->Int}{rows:List (List Int)}{m:Nat}:∀ k,k<=m->run p bk (rows.map (List.take m)) k=((run p bk rows k).1.map (List.take m),(run p bk rows k).2)
 | 0,_=>rfl
 | k+1,h=>by
  rw[ED,ED,Hr k (by omega)]
  unfold step
  simp only[]
  rw[nU (by omega)]
  cases Ct (run p bk rows k).1 (run p bk rows k).2 k with
  | none=>rfl
  | some a=>simp only[];rw[oH (by omega)]
theorem lJ:∀ (x a y b:List Int),x.length=a.length->dot (x++y) (a++b)=dot x a+dot y b
 | [],[],y,b,_=>by simp[dot]
 | u::x,v::a,y,b,h=>by
  show u * v+dot (x++y) (a++b)=u * v+dot x a+dot y b
  rw[lJ x a y b (by simpa using h)]
  omega
theorem tK:∀ (x v:List Int),dot x (v.map fun t=>-t)=- dot x v
 | [],v=>by simp[dot]
 | a::x,[]=>by simp[dot]
 | a::x,b::v=>by
  show a * -b+dot x (v.map fun t=>-t)=-(a * b+dot x v)
  rw[tK x v,Int.mul_neg]
  omega
noncomputable def joined (t:List (List Int)):List (List Int):=List.zipWith (fun r o=>r++o) t (ones t.length)
theorem Cm (n i:Nat):(BG n i).length=n:=by simp[BG]
theorem jn {p:Int}(hp:1<p)(n i:Nat):Fo p (BG n i):=by
 intro x hx
 obtain⟨j,_,rfl⟩:=yD.mp hx
 split <;> omega
theorem EV (t:List (List Int))(i:Nat)(hi:i<t.length):(joined t)[i]?=some (t[i]++BG t.length i):=by
 unfold joined ones
 rw[List.getElem?_zipWith,y8 hi,ye,z8 hi]
 rfl
theorem Cv (t:List (List Int)):(joined t).length=t.length:=by simp[joined,ones]
theorem gO {t:List (List Int)}{r:List Int} (h:r∈joined t):∃ i,∃ (hi:i<t.length),r=t[i]++BG t.length i:=by
 obtain⟨i,hi,rfl⟩:=zp h
 have FW:i<t.length:=by rw[Cv]at hi;exact hi
 refine⟨i,FW,?_⟩
 have:=EV t i FW
 rw[y8 hi]at this
 exact Option.some.inj this
theorem EU {p:Int}{m:Nat}{t:List (List Int)} (hp:1<p) (S:Sh p m t):Sh p (m+t.length) (joined t):=by
 refine⟨fun r hr=>?_,fun r hr=>?_⟩
 ·obtain⟨i,hi,rfl⟩:=gO hr
  rw[yI,Cm,S.Fe _ (zm hi)]
 ·obtain⟨i,hi,rfl⟩:=gO hr
  intro x hx
  rcases yF.mp hx with h|h
  ·exact S.fit _ (zm hi) x h
  ·exact jn hp _ _ x h
theorem Hz {p:Int}{m:Nat}{t:List (List Int)} (S:Sh p m t):(joined t).map (List.take m)=t:=by
 apply zq
 intro i
 rw[ye]
 by_cases hi:i<t.length
 ·rw[EV t i hi,y8 hi]
  show some ((t[i]++BG t.length i).take m)=some t[i]
  rw[Bo (by rw[S.Fe _ (zm hi)];exact yh _),zy (by rw[S.Fe _ (zm hi)];exact yh _)]
 ·rw[yp (by rw[Cv];omega),yp (by omega)];rfl
noncomputable def Kl (t:List (List Int))(m j:Nat):List Int:=(BG m j).map (fun x=>-x)++col t j
theorem tJ {t:List (List Int)}{m n j:Nat}{r:List Int} (hr:r.length=m+n):dot r (Kl t m j)=dot (r.drop m) (col t j) - e r j % 1 * 0 - (if j<m then e r j else 0):=by
 have:r=r.take m++r.drop m:=(Bd m r).symm
 unfold Kl
 conv=>lhs;rw[this]
 rw[lJ _ _ _ _ (by rw[y6,Cm,yM];omega),tK,Dp,D7 m j _ (by rw[yM];omega)]
 by_cases c:j<m
 ·have:(r.take m).getD j 0=e r j:=oB c
  rw[this,if_pos c]
  omega
 ·rw[if_neg c]
  have:(r.take m).getD j 0=0:=by
   rw[yc,yp (by rw[yM];omega)];rfl
  rw[this]
  omega
theorem sq {p:Int}{m:Nat}{t:List (List Int)} (S:Sh p m t) (j:Nat) (hj:j<m):Kw p (Kl t m j) (joined t):=by
 intro r hr
 obtain⟨i,hi,rfl⟩:=gO hr
 have hw:=S.Fe _ (zm hi)
 rw[tJ (n:=t.length) (by rw[yI,Cm,hw]),if_pos hj]
 have e1:(t[i]++BG t.length i).drop m=BG t.length i:=by
  rw[List.drop_append_of_le_length (by omega),List.drop_of_length_le (by omega)];rfl
 have e2:e (t[i]++BG t.length i) j=e t[i] j:=by
  unfold e
  rw[yc,yc,yU (by omega)]
 rw[e1,e2,D7 _ _ _ (by simp[col])]
 have e3:(col t j).getD i 0=e t[i] j:=by
  unfold col
  simp[hi]
 rw[e3]
 exact⟨0,by omega⟩
theorem J5 {p:Int}{m:Nat}{t rows:List (List Int)}{ps:List Nat} (hp:1<p) (S:Sh p m t) (R:RR p (m+t.length) m rows ps) (JT:ps=List.range m) (hl:rows.length=t.length)
  (hk:∀ v,Kw p v rows ↔ Kw p v (joined t)) (i j:Nat) (hi:i<m) (hj:j<m):dot ((rows.getD i []).drop m) (col t j) % p=if i=j then 1 else 0:=by
 have En:ps.length=m:=by rw[JT];simp
 have VQ:i<rows.length:=by have:=R.len;omega
 have hm:=getD_mem VQ
 have k:=(hk (Kl t m j)).mpr (sq S j hj) _ hm
 rw[tJ (n:=t.length) (R.sh.Fe _ hm),if_pos hj]at k
 have pj:ps[j]?=some j:=by rw[JT];exact z8 hj
 have er:e (rows.getD i []) j=if i=j then 1 else 0:=by
  by_cases c:i=j
  ·subst c;rw[if_pos rfl];exact R.one i i pj
  ·rw[if_neg c];exact R.Lj i j j pj c
 rw[er]at k
 have k':p ∣ dot ((rows.getD i []).drop m) (col t j) - (if i=j then 1 else 0):=by
  rwa [show dot ((rows.getD i []).drop m) (col t j) - (if i=j then (1:Int) else 0) % 1 * 0 - (if i=j then 1 else 0)=dot ((rows.getD i []).drop m) (col t j) - (if i=j then 1 else 0) by omega]at k
 have:dot ((rows.getD i []).drop m) (col t j) % p=(if i=j then 1 else 0) % p:=zG.mpr (zQ k')
 rw[this]
 exact zw (by split <;> omega) (by split <;> omega)
noncomputable def D0 (p:Int)(u:Nat):List (List Int×Nat)->List Int->List Int
 | [],v=>v
 | (r,q)::rest,v=>D0 p u rest (v.set q ((0 - e r u) % p))
theorem Dx (p:Int)(u:Nat):∀ (l:List (List Int×Nat))(v:List Int),(D0 p u l v).length=v.length
 | [],v=>rfl
 | (r,q)::rest,v=>by show (D0 p u rest _).length=_;rw[Dx p u rest,List.length_set]
theorem gy (p:Int)(u:Nat):∀ (l:List (List Int×Nat))(v:List Int)(j:Nat),(∀ x∈l,x.2≠j)->e (D0 p u l v) j=e v j
 | [],v,j,_=>rfl
 | (r,q)::rest,v,j,h=>by
  show e (D0 p u rest _) j=_
  rw[gy p u rest _ j (fun x hx=>h x (yE _ hx))]
  have:=h (r,q) yw
  simp only[e,yc,List.getElem?_set_ne this]
theorem mM (p:Int)(u:Nat):∀ (l:List (List Int×Nat))(v:List Int)(r:List Int)(q:Nat),(r,q)∈l->(l.map (·.2)).Pairwise (·<·)->q<v.length->e (D0 p u l v) q=(0 - e r u) % p
 | (r',q')::rest,v,r,q,h,hp,hq=>by
  show e (D0 p u rest _) q=_
  obtain⟨h1,h2⟩:=Ax.mp hp
  rcases yx.mp h with c|c
  ·obtain⟨c1,c2⟩:=Prod.mk.inj c
   rw[<- c2,<- c1]
   rw[<- c2]at h1
   rw[gy p u rest _ q (fun x hx=>by have:q<x.2:=h1 x.2 (yD.mpr ⟨x,hx,rfl⟩);omega)]
   simp only[e,yc,List.getElem?_set_self hq]
   rfl
  ·exact mM p u rest _ r q c h2 (by rw[List.length_set];exact hq)
theorem kh {p:Int}(hp:0<p)(u:Nat):∀ (l:List (List Int×Nat))(v:List Int),Fo p v->Fo p (D0 p u l v)
 | [],v,h=>h
 | (r,q)::rest,v,h=>by
  show Fo p (D0 p u rest _)
  refine kh hp u rest _ fun x hx=>?_
  rcases List.mem_or_eq_of_mem_set hx with c|c
  ·exact h x c
  ·subst c;exact⟨zo _ (by omega),zb _ hp⟩
noncomputable def dQ (f:Nat->Int):Nat->Int
 | 0=>0
 | n+1=>dQ f n+f n
theorem jc (f:Nat->Int):∀ n,dQ f (n+1)=f 0+dQ (fun j=>f (j+1)) n
 | 0=>by simp[dQ]
 | n+1=>by
  rw[dQ,jc f n,dQ]
  omega
theorem nj:∀ (x v:List Int),x.length=v.length->dot x v=dQ (fun j=>e x j * e v j) x.length
 | [],[],_=>rfl
 | a::x,b::v,h=>by
  show a * b+dot x v=_
  rw[nj x v (by simpa using h),z4,jc]
  rfl
theorem gr {f:Nat->Int}:∀ n,(∀ j,j<n->f j=0)->dQ f n=0
 | 0,_=>rfl
 | n+1,h=>by rw[dQ,gr n (fun j hj=>h j (by omega)),h n (by omega)];rfl
theorem iC {f:Nat->Int}{a:Nat}:∀ n,a<n->(∀ j,j<n->j≠a->f j=0)->dQ f n=f a
 | n+1,ha,h=>by
  rw[dQ]
  by_cases c:a=n
  ·subst c;rw[gr a (fun j hj=>h j (by omega) (by omega))];omega
  ·rw[iC n (by omega) (fun j hj NC=>h j (by omega) NC),h n (by omega) (Ne.symm c)];omega
theorem mB {f:Nat->Int}{a b:Nat}:∀ n,a<n->b<n->a≠b->(∀ j,j<n->j≠a->j≠b->f j=0)->dQ f n=f a+f b
 | n+1,ha,hb,LS,h=>by
  rw[dQ]
  by_cases c:a=n
  ·subst c;rw[iC a (a:=b) (by omega) (fun j hj Rj=>h j (by omega) (by omega) Rj)];omega
  ·by_cases d:b=n
   ·subst d;rw[iC b (a:=a) (by omega) (fun j hj NC=>h j (by omega) NC (by omega))]
   ·rw[mB n (by omega) (by omega) LS (fun j hj NC Rj=>h j (by omega) NC Rj),h n (by omega) (Ne.symm c) (Ne.symm d)];omega
noncomputable def BY (p:Int)(rows:List (List Int))(ps:List Nat)(m u:Nat):List Int:=D0 p u (rows.zip ps) (BG m u)
theorem uS (m u j:Nat):e (BG m u) j=if j<m/\j=u then 1 else 0:=by
 unfold e BG
 rw[yc,ye]
 by_cases c:j<m
 ·rw[z8 c];simp[c]
 ·rw[yp (by simpa using c)];simp[c]
theorem J7 {p:Int}{m u:Nat}{rows:List (List Int)}{ps:List Nat} (hp:1<p) (R:RR p m m rows ps) (hu:u<m) (LH:u∉ps):
  Kw p (BY p rows ps m u) rows/\e (BY p rows ps m u) u=1/\(BY p rows ps m u).length=m/\Fo p (BY p rows ps m u):=by
 have EW:((rows.zip ps).map (·.2))=ps:=by rw[List.map_snd_zip];have:=R.len;omega
 have hlen:(BY p rows ps m u).length=m:=by unfold BY;rw[Dx,Cm]
 have UZ:∀ x∈rows.zip ps,x.2∈ps:=fun x hx=>(List.of_mem_zip hx).2
 have out:∀ j,j∉ps->e (BY p rows ps m u) j=if j<m/\j=u then 1 else 0:=fun j hj=>by
  unfold BY
  rw[gy p u _ _ j (fun x hx z=>hj (z▸UZ x hx)),uS]
 have inn:∀ (i q:Nat),ps[i]?=some q->e (BY p rows ps m u) q=(0 - e (rows.getD i []) u) % p:=fun i q hq=>by
  unfold BY
  have hi:i<ps.length:=(yb.mp hq).1
  have VQ:i<rows.length:=by have:=R.len;omega
  refine mM p u _ _ _ q ?_ (by rw[EW];exact R.inc) (by rw[Cm];exact R.lt q (yj hq))
  rw[zB]
  refine⟨i,?_⟩
  rw[Aj]
  refine⟨?_,hq⟩
  rw[yc,y8 VQ];rfl
 refine⟨fun r hr=>?_,by rw[out u LH,if_pos ⟨hu,rfl⟩],hlen,?_⟩
 ·obtain⟨i,hi,rfl⟩:=zp hr
  have eg:rows[i]=rows.getD i []:=by rw[yc,y8 hi];rfl
  rw[eg]
  have hw:=R.sh.Fe _ (getD_mem hi)
  rw[nj _ _ (by rw[hw,hlen]),hw]
  by_cases c:i<ps.length
  ·have hq:ps[i]?=some ps[i]:=y8 c
   have Vy:=R.lt _ (zm c)
   have Jc:ps[i]≠u:=fun z=>LH (z▸zm c)
   rw[mB m Vy hu Jc (fun j hj NC Rj=>?_)]
   ·rw[R.one i _ hq,inn i _ hq,out u LH,if_pos ⟨hu,rfl⟩,Int.one_mul,BB]
    have:=Dh p (0 - e (rows.getD i []) u)
    rwa [show (0 - e (rows.getD i []) u) % p - (0 - e (rows.getD i []) u)=(0 - e (rows.getD i []) u) % p+e (rows.getD i []) u by omega]at this
   ·by_cases LM:j∈ps
    ·obtain⟨i',FW,e'⟩:=zp LM
     have Gq:ps[i']?=some j:=by rw[y8 FW,e']
     have:i≠i':=fun z=>by subst z;exact NC e'.symm
     rw[R.Lj i i' j Gq this,Int.zero_mul]
    ·rw[out j LM,if_neg (fun z=>Rj z.2),Int.mul_zero]
  ·rw[gr m (fun j hj=>by rw[R.rest i j (by omega) hj,Int.zero_mul])]
   exact Int.dvd_zero p
 ·unfold BY
  exact kh (by omega) u _ _ (jn hp m u)
end Mx
namespace My
open Classical in
noncomputable def bk (p a:Int):Int:=if h:∃ z:Int,0<=z/\z<p/\p ∣ a * z - 1 then Classical.choose h else 0
theorem Kh {p a z:Int}(h0:0<=z)(h1:z<p)(h:p ∣ a * z - 1):bk p a=z:=by
 have hx:∃ z:Int,0<=z/\z<p/\p ∣ a * z - 1:=⟨z,h0,h1,h⟩
 unfold bk
 rw[dif_pos hx]
 obtain⟨y0,y1,y2⟩:=Classical.choose_spec hx
 generalize Classical.choose hx=y at *
 have d:p ∣ y - z:=by
  obtain⟨k,hk⟩:=h
  obtain⟨j,hj⟩:=y2
  refine⟨z * j - y * k,?_⟩
  have e1:a * z=p * k+1:=by omega
  have e2:a * y=p * j+1:=by omega
  have e3:y * (a * z)=z * (a * y):=by
   rw[<- zA,<- zA,Ag y a,Ag z a,zA,zA,Ag y z]
  rw[e1,e2,Int.mul_add,Int.mul_add,BB,BB]at e3
  rw[Int.mul_sub]
  have e4:p * (z * j)=z * (p * j):=by rw[<- zA,Ag p z,zA]
  have e5:p * (y * k)=y * (p * k):=by rw[<- zA,Ag p y,zA]
  omega
 have e:y % p=z % p:=zG.mpr (zQ d)
 rwa [zw y0 y1,zw h0 h1]at e
theorem IM {p a m:Int}(h:Inv p a 1 m):p ∣ a * m - 1:=by
 have:=Int.dvd_of_emod_eq_zero h.eq
 rwa [Ag m a]at this
theorem gP {p a:Int}(hP:Ee p=true)(hp:2<=p):∀ (n:Nat)(r m:Int),r.toNat<=n->0<r->r<p->Inv p a r m->∃ z:Int,0<=z/\z<p/\p ∣ a * z - 1
 | 0,r,m,h,h0,_,_=>by omega
 | n+1,r,m,h,h0,h1,I=>by
  by_cases c:r=1
  ·subst c
   exact⟨m,I.lo,I.hi,IM I⟩
  ·have l:=tU hP h0 c h1
   exact gP hP hp n _ _ (by omega) l.1 (by omega) (tT I hp h0)
theorem FH {p:Int}(hP:Ee p=true):Mx.Bk p (bk p):=by
 intro a h0 h1
 have hp:2<=p:=((Cq p).mp hP).1
 have hf:Int.fmod a p=a:=by rw[za _ (by omega)];exact zw (by omega) h1
 obtain⟨z,z0,z1,z2⟩:=gP hP hp a.toNat a 1 (yh _) h0 h1 (FG hp hf)
 rw[Kh z0 z1 z2]
 exact z2
theorem Kf {p a r m:Int}(h:Inv p a r m)(hp:2<=p)(hr:0<r):Inv p a (p % r) (m * (0 - p / r) % p):=by
 have:=tT h hp hr
 rwa [za _ (by omega),za _ (by omega),Int.fdiv_eq_ediv_of_nonneg _ (by omega)]at this
theorem Kg {p r:Int}(hp:Ee p=true)(h1:0<r)(h2:r≠1)(h3:r<p):0<p % r/\p % r<r:=by
 have:=tU hp h1 h2 h3
 rwa [za _ (by omega)]at this
theorem RT {p a:Int}(hP:Ee p=true)(h0:0<a)(h1:a<p):0<=bk p a/\bk p a<p:=by
 have hp:2<=p:=((Cq p).mp hP).1
 have hf:Int.fmod a p=a:=by rw[za _ (by omega)];exact zw (by omega) h1
 obtain⟨z,z0,z1,z2⟩:=gP hP hp a.toNat a 1 (yh _) h0 h1 (FG hp hf)
 rw[Kh z0 z1 z2]
 exact⟨z0,z1⟩
end My
namespace Mw
theorem Gy {α β:Type}[DecidableEq β](g:α->β):∀ (xs:List β)(ts:List α),xs.Nodup->(∀ t∈ts,g t∈xs)->(xs.flatMap fun x=>ts.filter fun t=>decide (g t=x)).Perm ts
 | [],ts,_,h=>by
  cases ts with
  | nil=>exact .nil
  | cons t _=>exact absurd (h t (by simp)) (by simp)
 | x::xs,ts,nd,h=>by
  have nd:=zk.mp nd
  rw[BA]
  have e:(xs.flatMap fun y=>ts.filter fun t=>decide (g t=y))=xs.flatMap fun y=>(ts.filter fun t=>!decide (g t=x)).filter fun t=>decide (g t=y):=by
   rw[List.flatMap_def,List.flatMap_def]
   congr 1
   refine z7 fun y hy=>?_
   rw[List.filter_filter]
   refine List.filter_congr fun t _=>?_
   by_cases c:g t=y
   ·have:¬ g t=x:=fun z=>nd.1 (by rw[<- z,c];exact hy)
    simp[c,this]
    intro z;exact this (c.trans z)
   ·simp[c]
  rw[e]
  have ih:=Gy g xs (ts.filter fun t=>!decide (g t=x)) nd.2 fun t ht=>by
   obtain⟨h1,h2⟩:=zd.mp ht
   have h3:=h t h1
   rcases yx.mp h3 with z|z
   ·simp[z]at h2
   ·exact z
  exact (List.Perm.append_left _ ih).trans (List.filter_append_perm _ _)
theorem Hg {β:Type}[DecidableEq β]:∀ (l1 l2:List β),l1.Nodup->(∀ x∈l1,x∈l2)->l2.length<=l1.length->∀ x∈l2,x∈l1
 | [],l2,_,_,hl,x,hx=>by
  cases l2 with
  | nil=>exact hx
  | cons _ _=>simp at hl
 | a::l1,l2,nd,sub,hl,x,hx=>by
  have nd:=zk.mp nd
  have ha:=sub a (by simp)
  by_cases c:x=a
  ·rw[c];simp
  ·refine yE _ (Hg l1 (l2.erase a) nd.2 (fun y hy=>?_) ?_ x ?_)
   ·have ne:y≠a:=fun z=>nd.1 (z▸hy)
    exact (AI ne).mpr (sub y (by simp[hy]))
   ·rw[AQ ha]
    simp at hl
    omega
   ·exact (AI c).mpr hx
end Mw
namespace K51
open PySem L2
open PyProof.Rows (boot_list boot_int boot_bool boot_tuple boot_str boot_dict boot_all)
noncomputable def top (i:Nat):Stmt:=PySem.Challenge.pw_mixposts_k51_the_judge.main.body.getD i (.Pass ⟨0,0,0,0⟩)
inductive Kd where
  | house | listener | post
deriving DecidableEq
structure Cl where
  CS : Addr
  post : Addr
  house : Addr
  FC : Addr
noncomputable def Cl.of (c:Cl):Kd->Addr
 | .house=>c.house
 | .listener=>c.FC
 | .post=>c.post
structure Cl.Ok (K : PySem.W.Frag) (c : Cl) : Prop where
  cn : F8 K c.CS
  cp : F8 K c.post
  ch : F8 K c.house
  cl : F8 K c.FC
  fp : CD K c.CS "kept_posts"
  ft : CD K c.CS "kept_ties"
  fn : CD K c.CS "next_number"
  np : CD K c.post "name"
  nh : CD K c.house "name"
  nl : CD K c.FC "name"
  ph : c.post ≠ c.house
  pl : c.post ≠ c.FC
  hl : c.house ≠ c.FC
noncomputable def j9 (c:Cl)(C:Addr):Prop:=∃ k,C=c.of k
theorem Cl.Ok.cls {K:PySem.W.Frag}{c:Cl} (o:Cl.Ok K c):∀ k,F8 K (c.of k)
 | .house=>o.ch
 | .listener=>o.cl
 | .post=>o.cp
theorem Cl.Ok.MX {K:PySem.W.Frag}{c:Cl} (o:Cl.Ok K c):∀ k,CD K (c.of k) "name"
 | .house=>o.nh
 | .listener=>o.nl
 | .post=>o.np
noncomputable abbrev Es:=Int×Str×Str×Int
structure NS where
  BV : List (Str × Kd)
  BL : List Es
  next : Int
noncomputable def CV (c:Cl)(H:Hp)(v:V)(p:Str×Kd):Prop:=∃ a dx,v=.ref a/\H a=some (.ins (c.of p.2) dx [("name",.str p.1)])
noncomputable def E8 (H:Hp)(v:V)(t:Es):Prop:=∃ a,v=.ref a/\H a=some (.tup [.int t.1,.str t.2.1,.str t.2.2.1,.int t.2.2.2])
structure BS (c : Cl) (H : Hp) (n dp dt : Addr) (S : NS) : Prop where
  ins : ∃ dx, H n = some (.ins c.CS dx [("kept_posts", .ref dp), ("kept_ties", .ref dt), ("next_number", .int S.next)])
  BV : ∃ kvs, H dp = some (.dK kvs) /\ Paired (fun (kv : Key × V) p => kv.1 = Sum.inr p.1 /\ CV c H kv.2 p) kvs S.BV
  BL : ∃ kvs, H dt = some (.dK kvs) /\ Paired (fun (kv : Key × V) (t : Es) => kv.1 = Sum.inl t.1 /\ E8 H kv.2 t) kvs S.BL
  ne : dp ≠ dt
theorem CV.mono {c:Cl}{H H':Hp}{v:V}{p:Str×Kd} (e:f' H H') (h:CV c H v p):CV c H' v p:=let ⟨a,dx,q1,q2⟩:=h;⟨a,dx,q1,e _ _ q2⟩
theorem E8.mono {H H':Hp}{v:V}{t:Es} (e:f' H H') (h:E8 H v t):E8 H' v t:=let ⟨a,q1,q2⟩:=h;⟨a,q1,e _ _ q2⟩
theorem BS.mono {c:Cl}{H H':Hp}{n dp dt:Addr}{S:NS} (e:f' H H') (h:BS c H n dp dt S):BS c H' n dp dt S:=by
 obtain⟨⟨dx,h1⟩,⟨kp,h2,p2⟩,⟨kt,h3,p3⟩,h4⟩:=h
 exact⟨⟨dx,e _ _ h1⟩,⟨kp,e _ _ h2,Paired.Cp p2 fun _ _ j'=>(by obtain⟨a,b⟩:=j';exact⟨a,b.mono e⟩)⟩,⟨kt,e _ _ h3,Paired.Cp p3 fun _ _ j'=>(by obtain⟨a,b⟩:=j';exact⟨a,b.mono e⟩)⟩,h4⟩
noncomputable def S':Str:="abcdefghijklmnopqrstuvwxyz"
noncomputable def tu (x:Str):Bool:=!(Builtin.Str.occurrences S' x 0 S'.length 1).isEmpty
noncomputable def eV (x:Str):Bool:=decide (1<=x.length)&&decide (x.length<=8)&&(List.range x.cps.size).all fun i=>tu (sgn x i)
structure Oi (mg : Str -> Option Value) : Prop where
  Ci : mg "len" = none
  BQ : mg "isinstance" = none
  Qn : mg "str" = none
  Gp : mg "all" = none
  D9 : mg "list" = none
structure Ol (mg : Str -> Option Value) : Prop where
  let_ : ∃ t, mg "LETTERS" = some (.str S' t)
  lon : ∃ t, mg "LONGEST_NAME" = some (.int 8 t)
  mop : ∃ t, mg "MOST_POSTS" = some (.int 20 t)
  mol : ∃ t, mg "MOST_LISTENERS" = some (.int 8 t)
structure RY (K : PySem.W.Frag) : Prop where
  ss : PySem.W.kitOne K (.type "str") (.type "str") = some true
theorem uW {js:List Nat}{te:TE}{σ:St}{H:Hp}{F:Addr->Hp->Prop}{x:Str} (g:Nat->V) (hz:x.cps.size<=1000)
  (hs:∀ i H2,i<x.cps.size->f' H H2->te (some (.str (sgn x i))::bD σ js) H2 fun v H5=>v=g i/\f' H2 H5)
  (hd:∀ l H',H l=none->f' H H'->H' l=some (.lst ((List.range x.cps.size).map g))->F l H'):bh 1 js (aO 0) fh te σ F (WV x) H:=by
 intro l BX
 refine⟨fun i m σ' H2=>m=x.cps.size - i/\i<=x.cps.size/\(∃ o,σ'=o::bD σ js)/\f' H H2/\H2 l=some (.lst ((List.range i).map g)),⟨x.cps.size,by simp,yR _,⟨none,rfl⟩,aq (f'.refl _) BX,a9⟩,?_⟩
 rintro i m σ' H2 ⟨rfl,hi,⟨o,rfl⟩,e,hl⟩
 by_cases BU:i<x.cps.size
 ·refine .inr ⟨BU,fun v H3 y=>?_⟩
  obtain⟨rfl,rfl⟩:=y
  refine⟨fun _=>False,fun v H5=>v=g i/\f' H3 H5,fun H4 p4=>p4.elim,fun v H5 j'=>?_,hs i H3 BU e⟩
  obtain⟨ev,e5⟩:=j'
  subst ev
  refine⟨_,e5 _ _ hl,by simp only[y6,zi];exact yG BU (yV hz (by decide)),_,?_,rfl,BU,⟨_,rfl⟩,ar (e.trans e5) BX,?_⟩
  ·omega
  ·rw[a9,Ak,yN];rfl
 ·have ei:i=x.cps.size:=by omega
  subst ei
  exact .inl ⟨rfl,hd l H2 BX e hl⟩
variable {P : Program}{w : World}{K : PySem.W.Frag}{mg : Str -> Option Value}{base : Heap}
noncomputable def k9:Sp:=fun vs H Q _=>∃ x:Str,vs=[.str x]/\x.length<=1000/\∀ H',f' H H'->Q (.bl (eV x)) H'
noncomputable abbrev iM:Stmt:=top 21
theorem Fw:ai ["name"] ["name"] (af iM):=CG
theorem rV {f:Addr}{fd:FuncData} (F:Cu K "is_name" "is_name" iM f fd) (T:Oi mg) (TG:Ol mg) (TK:RY K):BF P w K mg base Co 1 f fd ["name"] k9:=by
 obtain⟨tl,Ia⟩:=TG.let_
 obtain⟨tn,Fi⟩:=TG.lon
 refine F.k Fw fun BJ A outer s H vs Q E hr h=>?_
 ·obtain⟨x,rfl,hx,q⟩:=h
  have ND:=Fw.nd
  refine⟨_,(aa (aK (bZ (bG (aw (ow K) rfl T.BQ aS (a0 (pv 0) (a0 (cY (v:=.ty "str") rfl T.Qn boot_str rfl) ab)))))
  (ad (am bM))
  ay)
 (ad (am (fK (kO mS mS ag (aw oK rfl T.Ci boot_len (a0 (pv 0) ab)) (eO (v:=.int 8) rfl Fi ⟨_,rfl⟩)) (fI (aw (j7 K rfl) rfl T.Gp boot_all (a0 (aV rfl (cS 1 [] ["sign"]) (MA (pv 0))
  (fun _ _ _ _ _=>(pC 0))
  (fun _ _ _ _ _=>aG)
  (fun _ _ _ _ _=>(pM uu (pv 0) (eO (v:=.str S') rfl Ia ⟨_,rfl⟩) (by with_unfolding_all rfl)))) ab))))))),?_⟩
  have QH:x.cps.size=x.length:=rfl
  refine⟨_,rfl,.str x,_,_,_,rfl,.str x,TK.ss,_,rfl,ba ?_⟩
  have qb:eV x=(decide (1<=x.length)&&decide (x.length<=8)&&((List.range x.cps.size).map fun i=>tu (sgn x i)).all id):=by
   unfold eV
   rw[List.all_map]
   rfl
  refine⟨_,rfl,x,rfl,yV hx (by decide),?_⟩
  refine⟨_,_,rfl,rfl,_,rfl,bH (fun h1=>?_) (fun h1=>?_)⟩
  ·have h1:1<=x.length:=by have:=yA h1;omega
   refine⟨_,_,rfl,rfl,_,rfl,bH (fun h2=>?_) (fun h2=>?_)⟩
   ·have h2:x.length<=8:=by have:=yA h2;omega
    refine⟨_,rfl,x,rfl,uW (fun i=>.bl (tu (sgn x i))) (by omega) (fun i H2 hi e=>⟨_,rfl,_,S',rfl,rfl,rfl,f'.refl _⟩) (fun l H' BX e hl=>?_)⟩
    refine⟨l,(List.range x.cps.size).map fun i=>tu (sgn x i),rfl,B'.of (by rw[yt];exact hl),?_⟩
    have:=q H' e
    rw[qb,yo h1,yo h2]at this
    exact this
   ·have h2:¬ x.length<=8:=fun z=>h2 (yo (by omega))
    have:=q H (f'.refl _)
    rw[qb,yq h2,Bool.and_false,AJ]at this
    exact this
  ·have h1:¬ 1<=x.length:=fun z=>h1 (yo (by omega))
   have:=q H (f'.refl _)
   rw[qb,yq h1,AJ,AJ]at this
   exact⟨_,rfl,ba this⟩
noncomputable def dU (b:V):Sp:=fun vs H Q _=>∃ v,vs=[v]/\Q b H
noncomputable abbrev cV:Stmt:=aQ (top 26) 3
theorem m8:ai ["self"] ["self"] (af cV):=CG
theorem gl {f:Addr}{fd:FuncData} (F:Cu K "reads" "Post.reads" cV f fd):BF P w K mg base Co 1 f fd ["self"] (dU (.bl false)):=by
 refine F.k m8 fun BJ A outer s H vs Q E hr h=>?_
 ·obtain⟨v,rfl,q⟩:=h
  exact⟨_,(ad (am bM)),q⟩
noncomputable abbrev cF:Stmt:=aQ (top 28) 1
theorem i6:ai ["self"] ["self"] (af cF):=CG
theorem ik {f:Addr}{fd:FuncData} (F:Cu K "reads" "Listener.reads" cF f fd):BF P w K mg base Co 1 f fd ["self"] (dU (.bl true)):=by
 refine F.k i6 fun BJ A outer s H vs Q E hr h=>?_
 ·obtain⟨v,rfl,q⟩:=h
  exact⟨_,(ad (am bM)),q⟩
noncomputable abbrev cW:Stmt:=aQ (top 26) 4
theorem m9:ai ["self"] ["self"] (af cW):=CG
theorem gn {f:Addr}{fd:FuncData} (F:Cu K "hears" "Post.hears" cW f fd):BF P w K mg base Co 1 f fd ["self"] (dU (.bl true)):=by
 refine F.k m9 fun BJ A outer s H vs Q E hr h=>?_
 ·obtain⟨v,rfl,q⟩:=h
  exact⟨_,(ad (am bM)),q⟩
noncomputable abbrev dF:Stmt:=aQ (top 27) 1
theorem kq:ai ["self"] ["self"] (af dF):=CG
theorem lg {f:Addr}{fd:FuncData} (F:Cu K "hears" "House.hears" dF f fd):BF P w K mg base Co 1 f fd ["self"] (dU (.bl false)):=by
 refine F.k kq fun BJ A outer s H vs Q E hr h=>?_
 ·obtain⟨v,rfl,q⟩:=h
  exact⟨_,(ad (am bM)),q⟩
noncomputable def KH:Kd->Bool
 | .listener=>true
 | _=>false
noncomputable def HB:Kd->Bool
 | .house=>false
 | _=>true
noncomputable def bW (c:Cl)(C:Addr):Sp:=dU (.bl (decide (C=c.FC)))
noncomputable def bX (c:Cl)(C:Addr):Sp:=dU (.bl (!decide (C=c.house)))
theorem fG {c:Cl}(O:Cl.Ok K c):∀ k,decide (c.of k=c.FC)=KH k
 | .listener=>yo rfl
 | .house=>yq O.hl
 | .post=>yq O.pl
theorem fV {c:Cl}(O:Cl.Ok K c):∀ k,(!decide (c.of k=c.house))=HB k
 | .house=>by rw[show decide (c.of .house=c.house)=true from yo rfl];rfl
 | .listener=>by rw[show decide (c.of .listener=c.house)=false from yq O.hl.symm];rfl
 | .post=>by rw[show decide (c.of .post=c.house)=false from yq O.ph];rfl
noncomputable def hW (c:Cl):Sp:=fun vs H Q _=>∃ (x:Addr)(k:Kd)(dx:Addr)(n:Str),vs=[.ref x,.str n]/\H x=some (.ins (c.of k) dx [])/\Q .non (upd H x (.ins (c.of k) dx [("name",.str n)]))
noncomputable abbrev bK:Stmt:=aQ (top 26) 0
theorem iH:ai ["self","name"] ["self","name"] (af bK):=CG
theorem eP {c:Cl}{f:Addr}{fd:FuncData} (F:Cu K "__init__" "Post.__init__" bK f fd) (O:Cl.Ok K c):BF P w K mg base Co 1 f fd ["self","name"] (hW c):=by
 refine F.k iH fun BJ A outer s H vs Q E hr h=>?_
 ·obtain⟨x,k,dx,n,rfl,hx,q⟩:=h
  refine⟨_,(ad (iU (pv 0) (pv 1) rfl)),?_⟩
  exact⟨_,rfl,_,rfl,x,c.of k,dx,_,rfl,hx,O.cls k,O.MX k,by decide,q⟩
noncomputable def oZ (c:Cl):Sp:=fun vs H Q _=>∃ (x dx:Addr),vs=[.ref x]/\H x=some (.ins c.CS dx [])/\∀ d1 d2 H',H d1=none->H d2=none->d1≠d2->(∀ a o,a≠x->H a=some o->H' a=some o)->
 H' x=some (.ins c.CS dx [("kept_posts",.ref d1),("kept_ties",.ref d2),("next_number",.int 0)])->H' d1=some (.dK [])->H' d2=some (.dK [])->Q .non H'
noncomputable abbrev dh:Stmt:=aQ (top 29) 0
theorem jF:ai ["self"] ["self"] (af dh):=CG
theorem qe {c:Cl}{f:Addr}{fd:FuncData} (F:Cu K "__init__" "Net.__init__" dh f fd) (O:Cl.Ok K c):BF P w K mg base Co 1 f fd ["self"] (oZ c):=by
 refine F.k jF fun BJ A outer s H vs Q E hr h=>?_
 ·obtain⟨x,dx,rfl,hx,q⟩:=h
  refine⟨_,(aa (iU (pv 0) ee rfl)
 (aa (iU (pv 0) ee rfl)
 (ad (iU (pv 0) ag rfl)))),?_⟩
  intro d1 h1
  have n1:x≠d1:=ah hx h1
  refine⟨_,rfl,x,c.CS,dx,_,rfl,by rw[ae n1];exact hx,O.cn,O.fp,by decide,?_⟩
  intro d2 h2
  have n2:x≠d2:=ah (o:=.ins c.CS dx [("kept_posts",.ref d1)]) a9 h2
  have n3:d1≠d2:=ah (H:=upd (upd H d1 (.dK [])) x (.ins c.CS dx [("kept_posts",.ref d1)])) (o:=.dK []) (by rw[ae n1.symm];exact a9) h2
  refine⟨_,rfl,x,c.CS,dx,_,rfl,by rw[ae n2];exact a9,O.cn,O.ft,(by show 1<1000;decide),?_⟩
  refine⟨_,rfl,x,c.CS,dx,_,rfl,a9,O.cn,O.fn,(by show 2<1000;decide),?_⟩
  have Gx:H d2=none:=by
   rw[ae n2.symm,ae n3.symm]at h2
   exact h2
  refine q d1 d2 _ h1 Gx n3 (fun a o na ha=>?_) a9 ?_ ?_
  ·rw[ae na,ae na,ae (ah ha Gx),ae na,ae (ah ha h1)]
   exact ha
  ·rw[ae n1.symm,ae n1.symm,ae n3,ae n1.symm]
   exact a9
  ·rw[ae n2.symm,ae n2.symm]
   exact a9
noncomputable def NS.names (S:NS):List Str:=S.BV.map (·.1)
theorem gX {c:Cl}{H:Hp}{x:Str}:∀ {kvs:List (Key×V)}{ps:List (Str×Kd)},Paired (fun (kv:Key×V) p=>kv.1=Sum.inr p.1/\CV c H kv.2 p) kvs ps->((bd kvs (Sum.inr x)).isSome=true ↔ x∈ps.map (·.1))
 | _,_,.nil=>by simp[bd]
 | kv::kvs,p::ps,.cons ⟨e,_⟩ r=>by
  by_cases h:p.1=x
  ·rw[c7 (by rw[e,h])]
   simp[h]
  ·rw[bS (by rw[e];exact fun z=>h (Sum.inr.inj z)),gX r]
   simp[Ne.symm h]
noncomputable def nH (c:Cl):Sp:=fun vs H Q E=>∃ (n dp dt:Addr)(S:NS)(x:Str),vs=[.ref n,.str x]/\BS c H n dp dt S/\x.length<=1000/\
 eV x=true/\¬ x∈S.names/\∀ H',f' H H'->Q .non H'
noncomputable abbrev bT:Stmt:=aQ (top 29) 4
theorem CZ:ai ["self","name"] ["self","name"] (af bT):=CG
theorem fj {c:Cl}{f:Addr}{fd:FuncData} (F:Cu K "check_new_name" "Net.check_new_name" bT f fd) (O:Cl.Ok K c) (F5:Df P w K mg base 1 "is_name" ["name"] k9):BF P w K mg base Co 2 f fd ["self","name"] (nH c):=by
 refine F.k CZ fun BJ A outer s H vs Q E hr h=>?_
 ·obtain⟨n,dp,dt,S,x,rfl,N,hx,q1,q2,q3⟩:=h
  have ND:=CZ.nd
  refine⟨_,(aa (aK (bZ (bG (ak F5 hr.m rfl (a0 (pv 1) ab))))
  (ad bB)
  ay)
 (ad (aK (iT (vE (bc hr) (pv 1) (eW K (pv 0) rfl)))
  (ad bB)
  ay))),?_⟩
  refine⟨_,rfl,x,rfl,hx,fun H1 e1=>⟨_,rfl,?_⟩⟩
  rw[q1]
  refine ba ?_
  obtain⟨dx,h1⟩:=(N.mono e1).ins
  obtain⟨kvs,hd,hp⟩:=(N.mono e1).BV
  refine⟨_,rfl,_,rfl,n,c.CS,dx,_,_,rfl,h1,O.cn,O.fp,rfl,dp,_,rfl,CQ.k (k:=Sum.inr x) hd,_,rfl,?_⟩
  cases hs:(bd kvs (Sum.inr x)).isSome with
  | true=>exact absurd ((gX (x:=x) hp).mp hs) q2
  | false=>exact ba (q3 H1 e1)
noncomputable def NS.DO (S:NS):List Str:=(S.BV.filter fun p=>KH p.2).map (·.1)
noncomputable def cR (c:Cl):Sp:=fun vs H Q _=>∃ (n dp dt:Addr)(S:NS),vs=[.ref n]/\BS c H n dp dt S/\S.BV.length<=1000/\∀ l H',f' H H'->H l=none->H' l=some (.lst (S.DO.map V.str))->Q (.ref l) H'
noncomputable abbrev cL:Stmt:=aQ (top 29) 12
theorem iI:ai ["self"] ["self"] (af cL):=CG
theorem iX {c:Cl}{f:Addr}{fd:FuncData} (F:Cu K "listeners" "Net.listeners" cL f fd) (O:Cl.Ok K c) (Ef:∀ C,j9 c C->Dm P w K mg base 1 C "reads" ["self"] (bW c C)):BF P w K mg base Co 2 f fd ["self"] (cR c):=by
 refine F.k iI fun BJ A outer s H vs Q E hr h=>?_
 ·obtain⟨n,dp,dt,S,rfl,N,hz,q⟩:=h
  refine⟨_,(ad (am (fJ rfl (cS 1 [] ["post"]) (jP (eW K (pv 0) rfl))
  (fun _ _ _ _ _=>(pC 0))
  (fun _ _ _ _ _=>(cJ (bG (g7 (pv 0) Ef hr.m))))
  (fun _ _ _ _ _=>(eW K (pv 0) rfl))))),?_⟩
  obtain⟨dx,h1⟩:=N.ins
  obtain⟨kvs,hd,hp⟩:=N.BV
  have hl:=Paired.length hp
  refine⟨_,rfl,n,c.CS,dx,_,_,rfl,h1,O.cn,O.fp,rfl,dp,kvs,rfl,hd,fun o M hM=>?_⟩
  rw[sr]
  refine lN (fun i=>KH (S.BV.getD i ("",.post)).2) (fun i=>.str (S.BV.getD i ("",.post)).1) a9 (by omega) (fun i kv H2 ek e2=>?_) (fun l H' h0 e' EK=>?_)
  ·obtain⟨p,ep,_,a,Ji,ea,ha⟩:=Paired.at hp ek
   have gd:S.BV.getD i ("",.post)=p:=by rw[yc,ep];rfl
   have Rx:H2 a=some (.ins (c.of p.2) Ji [("name",.str p.1)]):=e2 _ _ (by rw[ae (aY ha hd (fun z=>nomatch z))];exact ha)
   rw[gd]
   refine⟨_,rfl,a,c.of p.2,Ji,_,ea,⟨_,rfl⟩,Rx,rfl,_,rfl,_,rfl,?_⟩
   rw[fG O]
   refine bH (fun h=>?_) (fun h=>⟨by simpa using h,f'.refl _⟩)
   exact⟨_,rfl,a,c.of p.2,Ji,_,_,ea,Rx,O.cls _,O.MX _,rfl,h,rfl,f'.refl _⟩
  ·refine⟨dp,o,kvs,hM,e' _ _ a9,q l _ (ce hd e') ?_ ?_⟩
   ·have nl:l≠dp:=fun z=>by rw[z,a9]at h0;cases h0
    rw[ae nl]at h0
    exact h0
   ·have nl:l≠dp:=fun z=>by rw[z,a9]at h0;cases h0
    rw[ae nl,EK,hl]
    congr 2
    rw[dX S.BV (fun p=>KH p.2) (fun p=>V.str p.1) _ _ fun i p ep=>by
     have gd:S.BV.getD i ("",.post)=p:=by rw[yc,ep];rfl
     rw[gd];exact⟨rfl,rfl⟩]
    unfold NS.DO
    rw[yt]
    rfl
noncomputable def NS.Cb (S:NS):Option (Str×Kd):=S.BV.find? fun p=>!HB p.2
noncomputable def aM:Option (Str×Kd)->V
 | none=>.non
 | some p=>.str p.1
noncomputable def i4 (c:Cl):Sp:=fun vs H Q _=>∃ (n dp dt:Addr)(S:NS),vs=[.ref n]/\BS c H n dp dt S/\Q (aM S.Cb) H
noncomputable abbrev gI:Stmt:=aQ (top 29) 13
theorem Fc:ai ["self","post"] ["self"] (af gI):=CG
theorem qf {c:Cl}{f:Addr}{fd:FuncData} (F:Cu K "home" "Net.home" gI f fd) (O:Cl.Ok K c) (Eg:∀ C,j9 c C->Dm P w K mg base 1 C "hears" ["self"] (bX c C)):BF P w K mg base Co 2 f fd ["self"] (i4 c):=by
 refine F.k Fc fun BJ A outer s H vs Q E hr h=>?_
 ·obtain⟨n,dp,dt,S,rfl,N,q⟩:=h
  have ND:=Fc.nd
  refine⟨_,(aa (jO yS rfl (jP (eW K (pv 0) rfl)) (pN 1 ND)
  (ad (aK (bZ (bG (g7 (pv 1) Eg hr.m)))
  (ad (am (eW K (pv 1) rfl)))
  ay)))
 (ad (am cv))),?_⟩
  obtain⟨dx,h1⟩:=N.ins
  obtain⟨kvs,hd,hp⟩:=N.BV
  have hl:=Paired.length hp
  refine⟨_,rfl,n,c.CS,dx,_,_,rfl,h1,O.cn,O.fp,rfl,dp,kvs,rfl,hd,fun o M hM=>?_⟩
  rw[sr]
  refine ip (kvs:=kvs) (fun i σ H2=>∃ ov,σ=[some (.ref n),ov]/\H2=upd H dp (.frz o (.dK kvs))/\∀ p∈S.BV.take i,HB p.2=true) ⟨none,rfl,rfl,by simp⟩ (fun i σ H2 _ j'=>(by obtain⟨_,_,e,_⟩:=j';rw[e];exact a9)) (fun i kv σ H2 ek j'=>?_) (fun σ H2 j'=>?_)
  ·obtain⟨ov,es,e,hh⟩:=j'
   subst es e
   obtain⟨p,ep,_,a,Ji,ea,ha⟩:=Paired.at hp ek
   have Rx:upd H dp (.frz o (.dK kvs)) a=some (.ins (c.of p.2) Ji [("name",.str p.1)]):=by rw[ae (aY ha hd (fun z=>nomatch z))];exact ha
   refine⟨_,rfl,a,c.of p.2,Ji,_,ea,⟨_,rfl⟩,Rx,rfl,_,rfl,_,rfl,?_⟩
   rw[fV O]
   cases hb:HB p.2 with
   | false=>
    refine cw ⟨_,rfl,a,c.of p.2,Ji,_,_,ea,Rx,O.cls _,O.MX _,rfl,dp,o,kvs,hM,a9,?_⟩
    have:S.Cb=some p:=by
     unfold NS.Cb
     rw[List.find?_eq_some_iff_getElem]
     obtain⟨hi,e2⟩:=yb.mp ep
     refine⟨by rw[hb];rfl,i,hi,e2,fun j hj=>?_⟩
     rw[hh _ (zH.mpr ⟨j,by omega,rfl⟩)]
     rfl
    rw[this]at q
    rw[mw hd]
    exact q
   | true=>
    refine ba ⟨_,rfl,rfl,fun p' JU=>?_⟩
    rw[z6,ep]at JU
    rcases yF.mp JU with z|z
    ·exact hh p' z
    ·have:p'=p:=by simpa using z
     rw[this];exact hb
  ·obtain⟨ov,es,e,hh⟩:=j'
   subst es e
   refine⟨dp,o,kvs,hM,a9,?_⟩
   have:S.Cb=none:=by
    unfold NS.Cb
    rw[ze]
    intro p VA
    rw[hl,zh]at hh
    rw[hh p VA]
    simp
   rw[this]at q
   rw[mw hd]
   exact q
noncomputable def HS (d:Addr)(H H':Hp):Prop:=∀ a o,a≠d->H a=some o->H' a=some o
theorem HS.of {d:Addr}{H H':Hp} (e:f' H H'):HS d H H':=fun a o _ h=>e a o h
theorem HS.trans {d:Addr}{H H1 H2:Hp} (a:HS d H H1) (b:HS d H1 H2):HS d H H2:=fun c o n h=>b c o n (a c o n h)
noncomputable def NS.put (S:NS)(x:Str)(k:Kd):NS:={ S with BV:=S.BV++[(x,k)] }
theorem BS.put {c:Cl}{H H':Hp}{n dp dt a:Addr}{S:NS}{p:Str×Kd}{kvs:List (Key×V)} (N:BS c H n dp dt S) (hd:H dp=some (.dK kvs)) (hp:Paired (fun (kv:Key×V) p=>kv.1=Sum.inr p.1/\CV c H kv.2 p) kvs S.BV) (pa:CV c H (.ref a) p) (e:HS dp H H')
  (EL:H' dp=some (.dK (kvs++[(Sum.inr p.1,.ref a)]))):BS c H' n dp dt (S.put p.1 p.2):=by
 obtain⟨⟨dx,h1⟩,_,⟨kt,h3,p3⟩,h4⟩:=N
 have IH:∀ {v:V}{q:Str×Kd},CV c H v q->CV c H' v q:=fun j'=>by obtain⟨b,TF,eb,hb⟩:=j';exact⟨b,TF,eb,e _ _ (aY hb hd (fun z=>nomatch z)) hb⟩
 have Cn:∀ {v:V}{t:Es},E8 H v t->E8 H' v t:=fun j'=>by obtain⟨b,eb,hb⟩:=j';exact⟨b,eb,e _ _ (aY hb hd (fun z=>nomatch z)) hb⟩
 exact⟨⟨dx,e _ _ (aY h1 hd (fun z=>nomatch z)) h1⟩,⟨_,EL,Paired.El (Paired.Cp hp fun _ _ j'=>(by obtain⟨x,y⟩:=j';exact⟨x,IH y⟩)) ⟨rfl,IH pa⟩⟩,⟨kt,e _ _ (Ne.symm h4) h3,Paired.Cp p3 fun _ _ j'=>(by obtain⟨x,y⟩:=j';exact⟨x,Cn y⟩)⟩,h4⟩
noncomputable def xP (S:NS)(k:Kd):Bool:=decide (20<=S.BV.length) || (KH k&&decide (8<=S.DO.length))
noncomputable def dR (c:Cl):Sp:=fun vs H Q E=>∃ (n dp dt a:Addr)(S:NS)(p:Str×Kd),vs=[.ref n,.ref a]/\BS c H n dp dt S/\CV c H (.ref a) p/\¬ p.1∈S.names/\S.BV.length<=1000/\
 xP S p.2=false/\∀ H',HS dp H H'->BS c H' n dp dt (S.put p.1 p.2)->Q .non H'
noncomputable abbrev eE:Stmt:=aQ (top 29) 5
theorem Em:ai ["self","post"] ["self","post"] (af eE):=CG
theorem mj {c:Cl}{f:Addr}{fd:FuncData} (F:Cu K "put_in" "Net.put_in" eE f fd) (O:Cl.Ok K c) (T:Oi mg) (TG:Ol mg) (Ef:∀ C,j9 c C->Dm P w K mg base 1 C "reads" ["self"] (bW c C))
  (BK:Dm P w K mg base 2 c.CS "listeners" ["self"] (cR c)):BF P w K mg base Co 3 f fd ["self","post"] (dR c):=by
 obtain⟨tl,FZ⟩:=TG.mop
 obtain⟨tn,EG⟩:=TG.mol
 refine F.k Em fun BJ A outer s H vs Q E hr h=>?_
 ·obtain⟨n,dp,dt,a,S,p,rfl,N,pa,GH,hz,q1,q2⟩:=h
  have ND:=Em.nd
  obtain⟨dx,h1⟩:=id N.ins
  obtain⟨kvs,hd,hp⟩:=id N.BV
  obtain⟨a',Ji,ea,ha⟩:=id pa
  cases ea
  have hl:=Paired.length hp
  refine⟨_,(aa (aK (pT t3 (aw fX rfl T.Ci boot_len (a0 (eW K (pv 0) rfl) ab)) (eO (v:=.int 20) rfl FZ ⟨_,rfl⟩))
  (ad bB)
  ay)
 (aa (aK (PW.pt (gK (bG (g7 (pv 1) Ef hr.m)) (eM (pT t3 (aw (dJ K) rfl T.Ci boot_len (a0 (bo (pv 0) BK hr.m) ab)) (eO (v:=.int 8) rfl EG ⟨_,rfl⟩)))))
  (ad bB)
  ay)
 (ad (dw (bc hr) (eW K (pv 0) rfl) (eW K (pv 1) rfl) (pv 1) rfl)))),?_⟩
  have store:∀ H1,f' H H1->∃ Zd H4,V.ref dp=V.ref Zd/\F7 H1 Zd (.str p.1) (.ref a) H4/\Q .non H4:=fun H1 e1=>by
   have hv:bd kvs (Sum.inr p.1)=none:=by
    cases hs:bd kvs (Sum.inr p.1) with
    | none=>rfl
    | some v=>exact absurd ((gX (x:=p.1) hp).mp (by rw[hs];rfl)) GH
   refine⟨dp,_,rfl,F7.k (k:=Sum.inr p.1) (e1 _ _ hd) (by show kvs.length<2 ^ 24;omega),?_⟩
   have b1:HS dp H (upd H1 dp (.dK (cM kvs (Sum.inr p.1) (.ref a)))):=fun b o nb hb=>by rw[ae nb];exact e1 _ _ hb
   exact q2 _ b1 (N.put hd hp pa b1 (by rw[a9,dj _ hv]))
  unfold xP at q1
  rw[Bool.or_eq_false_iff,Bool.and_eq_false_iff]at q1
  obtain⟨g0,g2⟩:=q1
  have g0:=Av g0
  refine⟨_,rfl,n,c.CS,dx,_,_,rfl,h1,O.cn,O.fp,rfl,dp,kvs,rfl,hd,_,_,rfl,rfl,_,rfl,bH (fun g1=>?_) (fun g1=>?_)⟩
  ·have g1:20<=S.BV.length:=by have:=yA g1;omega
   exact absurd g1 g0
  ·refine⟨_,rfl,a,c.of p.2,Ji,_,rfl,⟨_,rfl⟩,ha,rfl,_,rfl,_,rfl,?_⟩
   rw[fG O]
   cases hb:KH p.2 with
   | false=>
    refine ba (ba ?_)
    refine⟨_,rfl,_,rfl,n,c.CS,dx,_,_,rfl,h1,O.cn,O.fp,rfl,_,rfl,a,c.of p.2,Ji,_,_,rfl,ha,O.cls _,O.MX _,rfl,?_⟩
    exact store H (f'.refl _)
   | true=>
    refine cw ⟨_,rfl,n,dx,_,rfl,h1,rfl,n,dp,dt,S,rfl,N,hz,fun l H1 e1 h0 DU=>?_⟩
    refine⟨l,_,rfl,.inl (B'.of DU),_,_,rfl,rfl,_,rfl,bH (fun g3=>?_) (fun g3=>?_)⟩
    ·have g3:8<=S.DO.length:=by have:=yA g3;rw[y6]at this;omega
     rcases g2 with z|z
     ·rw[hb]at z;cases z
     ·exact absurd g3 (Av z)
    ·refine⟨_,rfl,_,rfl,n,c.CS,dx,_,_,rfl,e1 _ _ h1,O.cn,O.fp,rfl,_,rfl,a,c.of p.2,Ji,_,_,rfl,e1 _ _ ha,O.cls _,O.MX _,rfl,?_⟩
     exact store H1 e1
noncomputable def may (S:NS)(x:Str)(k:Kd):Prop:=eV x=true/\¬ x∈S.names/\¬ (HB k=false/\S.Cb.isSome=true)/\xP S k=false
noncomputable def iD (c:Cl)(k:Kd):Sp:=fun vs H Q E=>∃ (n dp dt:Addr)(S:NS)(x:Str),vs=[.ref n,.str x]/\BS c H n dp dt S/\x.length<=1000/\S.BV.length<=1000/\may S x k/\∀ H',HS dp H H'->BS c H' n dp dt (S.put x k)->Q .non H'
theorem made {c:Cl}{H:Hp}{n dp dt:Addr}{S:NS}{x:Str}{k:Kd}{Q:VK}{E:XK} (N:BS c H n dp dt S) (hz:S.BV.length<=1000) (hm:may S x k) (q2:∀ H',HS dp H H'->BS c H' n dp dt (S.put x k)->Q .non H') (y dy:Addr) (ny:H y=none) (MV:H dy=none) (ne:dy≠y):
  dR c [.ref n,.ref y] (upd (upd (upd H dy (.own y)) y (.ins (c.of k) dy [])) y (.ins (c.of k) dy [("name",.str x)])) Q E:=by
 have e1:f' H (upd (upd (upd H dy (.own y)) y (.ins (c.of k) dy [])) y (.ins (c.of k) dy [("name",.str x)])):=ar (ar (aq (f'.refl _) MV) ny) ny
 exact⟨n,dp,dt,y,S,(x,k),rfl,N.mono e1,⟨y,dy,rfl,a9⟩,hm.2.1,hz,hm.2.2.2,fun H' b' N'=>q2 H' ((HS.of e1).trans b') N'⟩
noncomputable abbrev gG:Stmt:=aQ (top 29) 2
theorem pf:ai ["self","name"] ["self","name"] (af gG):=CG
theorem qc {c:Cl}{f:Addr}{fd:FuncData} (F:Cu K "post" "Net.post" gG f fd) (O:Cl.Ok K c) (BH:Dm P w K mg base 2 c.CS "check_new_name" ["self","name"] (nH c)) (Cj:Dm P w K mg base 3 c.CS "put_in" ["self","post"] (dR c))
  (Iq:Dk P w K mg base 1 "Post" c.post ["self","name"] (hW c)):BF P w K mg base Co 4 f fd ["self","name"] (iD c .post):=by
 refine F.k pf fun BJ A outer s H vs Q E hr h=>?_
 ·obtain⟨n,dp,dt,S,x,rfl,N,hx,hz,hm,q2⟩:=h
  obtain⟨dx,h1⟩:=id N.ins
  refine⟨_,(aa (b8 (aE (pv 0) BH hr.m (a0 (pv 1) ab)))
 (ad (b8 (aE (pv 0) Cj hr.m (a0 (dZ Iq hr.m rfl (a0 (pv 1) ab)) ab))))),?_⟩
  refine⟨_,rfl,n,dx,_,rfl,h1,rfl,_,rfl,n,dp,dt,S,x,rfl,N,hx,hm.1,hm.2.1,fun H1 e1=>?_⟩
  refine⟨_,rfl,n,dx,_,rfl,e1 _ _ h1,rfl,_,rfl,fun y dy ny MV ne=>⟨y,.post,dy,x,rfl,a9,rfl,?_⟩⟩
  exact made (E:=E0) (N.mono e1) hz hm (fun H' b' N'=>q2 H' ((HS.of e1).trans b') N') y dy ny MV ne
noncomputable abbrev dg:Stmt:=aQ (top 29) 3
theorem jE:ai ["self","name"] ["self","name"] (af dg):=CG
theorem jK {c:Cl}{f:Addr}{fd:FuncData} (F:Cu K "listener" "Net.listener" dg f fd) (O:Cl.Ok K c) (BH:Dm P w K mg base 2 c.CS "check_new_name" ["self","name"] (nH c)) (Cj:Dm P w K mg base 3 c.CS "put_in" ["self","post"] (dR c))
  (Ez:Dk P w K mg base 1 "Listener" c.FC ["self","name"] (hW c)):BF P w K mg base Co 4 f fd ["self","name"] (iD c .listener):=by
 refine F.k jE fun BJ A outer s H vs Q E hr h=>?_
 ·obtain⟨n,dp,dt,S,x,rfl,N,hx,hz,hm,q2⟩:=h
  obtain⟨dx,h1⟩:=id N.ins
  refine⟨_,(aa (b8 (aE (pv 0) BH hr.m (a0 (pv 1) ab)))
 (ad (b8 (aE (pv 0) Cj hr.m (a0 (dZ Ez hr.m rfl (a0 (pv 1) ab)) ab))))),?_⟩
  refine⟨_,rfl,n,dx,_,rfl,h1,rfl,_,rfl,n,dp,dt,S,x,rfl,N,hx,hm.1,hm.2.1,fun H1 e1=>?_⟩
  refine⟨_,rfl,n,dx,_,rfl,e1 _ _ h1,rfl,_,rfl,fun y dy ny MV ne=>⟨y,.listener,dy,x,rfl,a9,rfl,?_⟩⟩
  exact made (E:=E0) (N.mono e1) hz hm (fun H' b' N'=>q2 H' ((HS.of e1).trans b') N') y dy ny MV ne
noncomputable abbrev fF:Stmt:=aQ (top 29) 1
theorem nL:ai ["self","name"] ["self","name"] (af fF):=CG
theorem om {c:Cl}{f:Addr}{fd:FuncData} (F:Cu K "house" "Net.house" fF f fd) (O:Cl.Ok K c) (BH:Dm P w K mg base 2 c.CS "check_new_name" ["self","name"] (nH c)) (Cj:Dm P w K mg base 3 c.CS "put_in" ["self","post"] (dR c))
  (Cg:Dm P w K mg base 2 c.CS "home" ["self"] (i4 c)) (GR:Dk P w K mg base 1 "House" c.house ["self","name"] (hW c)):BF P w K mg base Co 4 f fd ["self","name"] (iD c .house):=by
 refine F.k nL fun BJ A outer s H vs Q E hr h=>?_
 ·obtain⟨n,dp,dt,S,x,rfl,N,hx,hz,hm,q2⟩:=h
  obtain⟨dx,h1⟩:=id N.ins
  refine⟨_,(aa (b8 (aE (pv 0) BH hr.m (a0 (pv 1) ab)))
 (aa (aK (pT ia (bo (pv 0) Cg hr.m) cv)
  (ad bB)
  ay)
 (ad (b8 (aE (pv 0) Cj hr.m (a0 (dZ GR hr.m rfl (a0 (pv 1) ab)) ab)))))),?_⟩
  refine⟨_,rfl,n,dx,_,rfl,h1,rfl,_,rfl,n,dp,dt,S,x,rfl,N,hx,hm.1,hm.2.1,fun H1 e1=>?_⟩
  refine⟨_,rfl,n,dx,_,rfl,e1 _ _ h1,rfl,n,dp,dt,S,rfl,N.mono e1,rfl,_,rfl,?_⟩
  cases hs:S.Cb with
  | some p=>exact absurd ⟨rfl,by rw[hs];rfl⟩ hm.2.2.1
  | none=>
   refine jt rfl ?_
   refine⟨_,rfl,n,dx,_,rfl,e1 _ _ h1,rfl,_,rfl,fun y dy ny MV ne=>⟨y,.house,dy,x,rfl,a9,rfl,?_⟩⟩
   exact made (E:=E0) (N.mono e1) hz hm (fun H' b' N'=>q2 H' ((HS.of e1).trans b') N') y dy ny MV ne
structure xU (mg : Str -> Option Value) : Prop where
  BQ : mg "isinstance" = none
  Ht : mg "int" = none
  GG : mg "bool" = none
  Ci : mg "len" = none
structure Oj (mg : Str -> Option Value) : Prop where
  mot : ∃ t, mg "MOST_TIES" = some (.int 40 t)
  lod : ∃ t, mg "LONGEST_DELAY" = some (.int 99 t)
structure RZ (K : PySem.W.Frag) : Prop where
  ii : PySem.W.kitOne K (.type "int") (.type "int") = some true
  ib : PySem.W.kitOne K (.type "int") (.type "bool") = some false
noncomputable def fv:Sp:=fun vs H Q _=>∃ i:Int,vs=[.int i]/\Q (.bl true) H
noncomputable abbrev gC:Stmt:=top 22
theorem pb:ai ["number"] ["number"] (af gC):=CG
theorem pX {f:Addr}{fd:FuncData} (F:Cu K "is_whole" "is_whole" gC f fd) (T:xU mg) (TI:RZ K):BF P w K mg base Co 1 f fd ["number"] fv:=by
 refine F.k pb fun BJ A outer s H vs Q E hr h=>?_
 ·obtain⟨i,rfl,q⟩:=h
  refine⟨_,(ad (am (fK (aw (ow K) rfl T.BQ aS (a0 (pv 0) (a0 (cY (v:=.ty "int") rfl T.Ht boot_int rfl) ab))) (fI (MF (aw (ow K) rfl T.BQ aS (a0 (pv 0) (a0 (cY (v:=.ty "bool") rfl T.GG boot_bool rfl) ab)))))))),?_⟩
  exact⟨_,rfl,.int i,_,_,_,rfl,.int i,TI.ii,_,rfl,cw ⟨_,rfl,.int i,_,_,_,rfl,.int i,TI.ib,_,rfl,q⟩⟩
noncomputable def io (i:Int):Bool:=decide (1<=i)&&decide (i<=99)
noncomputable def jf:Sp:=fun vs H Q _=>∃ i:Int,vs=[.int i]/\Q (.bl (io i)) H
noncomputable abbrev gE:Stmt:=top 23
theorem pd:ai ["number"] ["number"] (af gE):=CG
theorem pZ {f:Addr}{fd:FuncData} (F:Cu K "is_delay" "is_delay" gE f fd) (TH:Oj mg) (D3:Df P w K mg base 1 "is_whole" ["number"] fv):BF P w K mg base Co 2 f fd ["number"] jf:=by
 obtain⟨tl,EX⟩:=TH.lod
 refine F.k pd fun BJ A outer s H vs Q E hr h=>?_
 ·obtain⟨i,rfl,q⟩:=h
  refine⟨_,(ad (am (fK (ak D3 hr.m rfl (a0 (pv 0) ab)) (fI (kO mS mS ag (pv 0) (eO (v:=.int 99) rfl EX ⟨_,rfl⟩)))))),?_⟩
  refine⟨_,rfl,i,rfl,_,rfl,cw ⟨_,rfl,_,_,rfl,rfl,_,rfl,bH (fun h1=>⟨_,_,rfl,rfl,?_⟩) (fun h1=>?_)⟩⟩
  ·have h1:1<=i:=yA h1
   unfold io at q
   rw[yo h1,Bool.true_and]at q
   exact q
  ·have h1:¬ 1<=i:=fun z=>h1 (yo z)
   unfold io at q
   rw[yq h1,AJ]at q
   exact q
noncomputable def wH (H:Hp)(l:Addr)(ts:List Es):Prop:=∃ xs,H l=some (.lst xs)/\Paired (E8 H) xs ts
theorem mR {F:V->Es->Prop}:∀ {vs:List V}{ts:List Es},vs.length=ts.length->(∀ (i:Nat) v t,vs[i]?=some v->ts[i]?=some t->F v t)->Paired F vs ts
 | [],[],_,_=>.nil
 | v::vs,t::ts,h,k=>.cons (k 0 v t rfl rfl) (mR (by simpa using h) fun i v' t' h1 h2=>k (i+1) v' t' (by simpa using h1) (by simpa using h2))
 | [],_::_,h,_=>by cases h
 | _::_,[],h,_=>by cases h
noncomputable def hU (c:Cl):Sp:=fun vs H Q _=>∃ (n dp dt:Addr)(S:NS),vs=[.ref n]/\BS c H n dp dt S/\S.BL.length<=1000/\∀ l H',f' H H'->H l=none->wH H' l S.BL->Q (.ref l) H'
noncomputable abbrev gF:Stmt:=aQ (top 29) 14
theorem pe:ai ["self"] ["self"] (af gF):=CG
theorem qa {c:Cl}{f:Addr}{fd:FuncData} (F:Cu K "ties" "Net.ties" gF f fd) (O:Cl.Ok K c):BF P w K mg base Co 1 f fd ["self"] (hU c):=by
 refine F.k pe fun BJ A outer s H vs Q E hr h=>?_
 ·obtain⟨n,dp,dt,S,rfl,N,hz,q⟩:=h
  refine⟨_,(ad (am (fJ rfl (cS 4 [] ["number","one","other","delay"]) (jP (eW K (pv 0) rfl))
  (fun _ _ _ _ _=>(dl K (n:=4) rfl (aj (pC 0) (aj (pC 1) (aj (pC 2) (aj (pC 3) aX))))))
  (fun _ _ _ _ _=>aG)
  (fun _ _ _ _ _=>(bv (a0 (pv 0) (a0 (pv 1) (a0 (pv 2) (a0 (pv 3) ab))))))))),?_⟩
  obtain⟨dx,h1⟩:=N.ins
  obtain⟨kvs,hd,hp⟩:=N.BL
  have hl:=Paired.length hp
  refine⟨_,rfl,n,c.CS,dx,_,_,rfl,h1,O.cn,O.ft,rfl,dt,kvs,rfl,hd,fun o M hM=>?_⟩
  rw[sr]
  have row:∀ (i:Nat)(kv:Key×V),kvs[i]?=some kv->∃ t p,S.BL[i]?=some t/\kv.2=.ref p/\upd H dt (.frz o (.dK kvs)) p=some (.tup [.int t.1,.str t.2.1,.str t.2.2.1,.int t.2.2.2]):=fun i kv ek=>by
   obtain⟨t,et,_,p,ep,JU⟩:=Paired.at hp ek
   exact⟨t,p,et,ep,by rw[ae (aY JU hd (fun z=>nomatch z))];exact JU⟩
  refine qP (fun i H v=>∃ t,S.BL[i]?=some t/\E8 H v t) (fun i H H' v e j'=>(by obtain⟨t,a,b⟩:=j';exact⟨t,a,b.mono e⟩)) a9 (by omega) (fun i kv ek=>?_) (fun i kv p x1 x2 x3 x4 H2 ek ep JU e2=>?_) (fun l H' vs h0 e' EK vl hv=>?_) (fun i H v l j' IP z=>?_) (fun i H v l ys j' nv=>?_)
  ·obtain⟨t,p,_,ep,JU⟩:=row i kv ek
   exact⟨p,_,_,_,_,ep,JU⟩
  ·obtain⟨t,p',et,O5,QZ⟩:=row i kv ek
   rw[ep]at O5
   cases O5
   rw[JU]at QZ
   cases QZ
   refine⟨_,rfl,_,rfl,_,rfl,_,rfl,(by show 4<=sizeLine;decide),fun a H5 e5 YI ha=>⟨⟨t,et,a,rfl,ha⟩,e5⟩⟩
  ·refine⟨dt,o,kvs,hM,e' _ _ a9,q l _ (ce hd e') ?_ ?_⟩
   ·have nl:l≠dt:=fun z=>by rw[z,a9]at h0;cases h0
    rw[ae nl]at h0
    exact h0
   ·have nl:l≠dt:=fun z=>by rw[z,a9]at h0;cases h0
    refine⟨vs,by rw[ae nl];exact EK,mR (by omega) fun i v t QJ ht=>?_⟩
    obtain⟨⟨t',et,b,eb,hb⟩,_⟩:=hv i v QJ
    rw[ht]at et
    cases et
    exact⟨b,eb,by rw[ae (aY hb (e' _ _ a9) (fun z=>nomatch z))];exact hb⟩
  ·obtain⟨t,_,b,eb,hb⟩:=j'
   obtain⟨ys,hy⟩:=IP
   rw[eb]at z
   cases z
   rw[hb]at hy
   cases hy
  ·obtain⟨t,a,b,eb,hb⟩:=j'
   exact⟨t,a,b,eb,by rw[ae (fun z=>nv (by rw[eb,z]))];exact hb⟩
inductive fg (ts : List Es) (x : Str) : Str -> Prop
  | refl : fg ts x x
  | step {t : Es} : t ∈ ts -> fg ts x t.2.1 -> fg ts x t.2.2.1
noncomputable def fO (R:List Str):HO:=.dK (R.map fun y=>((Sum.inr y:Key),V.bl true))
theorem g9 (R:List Str)(y:Str):(bd (R.map fun y=>((Sum.inr y:Key),V.bl true)) (Sum.inr y)).isSome=true ↔ y∈R:=by
 induction R with
 | nil=>simp[bd]
 | cons r R ih=>
  rw[yJ]
  by_cases h:r=y
  ·rw[c7 (by rw[h])]
   simp[h]
  ·rw[bS (fun z=>h (Sum.inr.inj z)),ih]
   simp[Ne.symm h]
theorem rZ {R:List Str}{y:Str} (h:¬ y∈R):bd (R.map fun y=>((Sum.inr y:Key),V.bl true)) (Sum.inr y)=none:=by
 cases hs:bd (R.map fun y=>((Sum.inr y:Key),V.bl true)) (Sum.inr y) with
 | none=>rfl
 | some v=>exact absurd ((g9 R y).mp (by rw[hs];rfl)) h
noncomputable def ef (ts:List Es)(R:List Str):Nat:=(ts.filter fun t=>decide (¬ t.2.2.1∈R)).length
theorem xp (ts:List Es)(R:List Str)(y:Str):ef ts (R++[y])<=ef ts R:=by
 unfold ef
 induction ts with
 | nil=>exact yh _
 | cons t ts ih=>
  simp only[List.filter_cons,yF,yK]
  by_cases h:t.2.2.1∈R
  ·simp only[h,true_or,AZ,decide_false,zE,Aq]
   simpa using ih
  ·by_cases h2:t.2.2.1=y
   ·simp only[h,h2,or_true,AZ,decide_false,zE,Aq,zT,By,B0]
    rw[<- h2]
    simp only[h,zT,By,B0,z4]
    simp only[yF,yK]at ih
    rw[<- h2]at ih
    omega
   ·simp only[h,h2,or_self,zT,By,B0,z4]
    simp only[yF,yK]at ih
    omega
theorem xo {ts:List Es}{R:List Str}{t:Es} (ht:t∈ts) (h:¬ t.2.2.1∈R):ef ts (R++[t.2.2.1])+1<=ef ts R:=by
 induction ts with
 | nil=>cases ht
 | cons u ts ih=>
  have keep:=xp ts R t.2.2.1
  by_cases hu:u=t
  ·subst hu
   unfold ef at keep ⊢
   simp only[List.filter_cons,yF,yK,or_true,AZ,decide_false,zE,Aq,h,zT,By,B0,z4]at keep ⊢
   omega
  ·have SW:t∈ts:=by
    rcases yx.mp ht with z|z
    ·exact absurd z.symm hu
    ·exact z
   have ih:=ih SW
   unfold ef at ih ⊢
   simp only[List.filter_cons,yF,yK]at ih ⊢
   by_cases h1:u.2.2.1∈R
   ·simp only[h1,true_or,AZ,decide_false,zE,Aq]
    exact ih
   ·by_cases h2:u.2.2.1=t.2.2.1
    ·simp only[h2,h,or_true,AZ,decide_false,zE,Aq,zT,By,B0,z4]
     omega
    ·simp only[h1,h2,or_self,zT,By,B0,z4]
     omega
noncomputable def mH:Sp:=fun vs H Q _=>∃ (l:Addr)(ts:List Es)(x:Str),vs=[.ref l,.str x]/\wH H l ts/\ts.length<=1000/\∀ d H' R,f' H H'->H d=none->H' d=some (fO R)->(∀ y,y∈R ↔ fg ts x y)->Q (.ref d) H'
noncomputable abbrev ky:Stmt:=top 24
theorem Gh:ai ["ties","start","reached","waiting","name","number","one","other","delay"] ["ties","start"] (af ky):=CG
theorem uA {f:Addr}{fd:FuncData} (F:Cu K "led_to" "led_to" ky f fd) (T:xU mg):BF P w K mg base Co 1 f fd ["ties","start"] mH:=by
 refine F.k Gh fun BJ A outer s H vs Q E hr h=>?_
 ·obtain⟨l,ts,x,rfl,⟨xs,hl,hp⟩,hz,q⟩:=h
  have ND:=Gh.nd
  have Ja:=Paired.length hp
  refine⟨_,(aa (pS 2 ND (xj (vt (pv 1) bM xb) rfl rfl (fun z=>nomatch z) (by decide)))
 (aa (pS 3 ND (MG (a0 (pv 1) ab)))
 (aa (i7 yS (pT kW (aw (dJ K) rfl T.Ci boot_len (a0 (pv 3) ab)) ag)
  (aa (pS 4 ND (RS K zt PySem.F.slot_list_pop PySem.F.type_list_pop MY (pv 3)))
 (ad (bi yS rfl (bQ K (pv 0)) (dl K (n:=4) rfl (aj (pN 5 ND) (aj (pN 6 ND) (aj (pN 7 ND) (aj (pN 8 ND) aX)))))
  (ad (dk (PW.pt (gK (pT bP (pv 6) (pv 4)) (eM (iT (g8 (bc hr) (pv 7) (pv 2))))))
  (aa (dw (bc hr) (pv 2) (pv 7) bM rfl)
 (ad (b8 (Oe K zt zO zN cg (pv 3) (a0 (pv 7) ab)))))
  ay))))))
 (ad (am (pv 2)))))),?_⟩
  intro d hd
  refine⟨_,rfl,a9,[(Sum.inr x,.bl true)],rfl,(by show 1<=15;decide),?_⟩
  have e0:upd (upd H d (.dK [])) d (.dK (dH [] [(Sum.inr x,.bl true)]))=upd H d (fO [x]):=by rw[wN];rfl
  rw[e0]
  refine⟨_,rfl,(by show 1<=sizeLine;decide),fun wl LG=>?_⟩
  have Qe:wl≠d:=fun z=>by rw[z,a9]at LG;cases LG
  have Np:H wl=none:=by rw[ae Qe]at LG;exact LG
  have s0:f' H (upd (upd H d (fO [x])) wl (.lst [.str x])):=ar (aq (f'.refl _) hd) Np
  refine⟨fun m σ H2=>∃ (R Wt:List Str)(o4 o5 o6 o7 o8:Option V),σ=[some (.ref l),some (.str x),some (.ref d),some (.ref wl),o4,o5,o6,o7,o8]/\f' H H2/\H2 d=some (fO R)/\H2 wl=some (.lst (Wt.map V.str))/\
   x∈R/\(∀ y∈R,fg ts x y)/\(∀ y∈Wt,y∈R)/\(∀ t∈ts,t.2.1∈R->¬ t.2.1∈Wt->t.2.2.1∈R)/\R.length+ef ts R<=1+ts.length/\Wt.length<=R.length/\m=2 * ef ts R+Wt.length,
   ⟨_,[x],[x],none,none,none,none,none,rfl,s0,by rw[ae Qe.symm];exact a9,a9,by simp,fun y hy=>by rw[yK.mp hy];exact .refl,fun y hy=>hy,fun t _ h1 h2=>absurd h1 h2,?_,yh _,rfl⟩,?_⟩
  ·have:ef ts [x]<=ts.length:=zj _ _
   show 1+ef ts [x]<=1+ts.length
   omega
  rintro m σ H2 ⟨R,Wt,o4,o5,o6,o7,o8,rfl,e2,hd2,Vj,xR,ld,wR,cls,bnd,X4,rfl⟩
  refine⟨_,rfl,wl,_,rfl,.inl (B'.of Vj),_,_,rfl,rfl,_,rfl,bH (fun hc=>?_) (fun hc=>?_)⟩
  ·have hc:0<Wt.length:=by have:=yA hc;rw[y6]at this;omega
   obtain⟨W',nm,rfl⟩:∃ W' nm,Wt=W'++[nm]:=⟨Wt.dropLast,Wt.getLast (List.ne_nil_of_length_pos hc),(List.dropLast_concat_getLast _).symm⟩
   have nmR:nm∈R:=wR nm (by simp)
   refine⟨fun σ' H'=>∃ m',m'<2 * ef ts R+(W'++[nm]).length/\∃ (R Wt:List Str)(o4 o5 o6 o7 o8:Option V),σ'=[some (.ref l),some (.str x),some (.ref d),some (.ref wl),o4,o5,o6,o7,o8]/\f' H H'/\H' d=some (fO R)/\H' wl=some (.lst (Wt.map V.str))/\
    x∈R/\(∀ y∈R,fg ts x y)/\(∀ y∈Wt,y∈R)/\(∀ t∈ts,t.2.1∈R->¬ t.2.1∈Wt->t.2.2.1∈R)/\R.length+ef ts R<=1+ts.length/\Wt.length<=R.length/\m'=2 * ef ts R+Wt.length,fun σ' H' h=>h,?_⟩
   refine⟨_,rfl,.inl ⟨rfl,_,B'.of Vj⟩,wl,_,.str nm,rfl,rfl,Vj,?_,?_⟩
   ·rw[yN,yI]
    simp
   have Rn:((W'++[nm]).map V.str).dropLast=W'.map V.str:=by rw[yN];simp
   rw[Rn]
   have e3:f' H (upd H2 wl (.lst (W'.map V.str))):=ar e2 Np
   refine⟨_,rfl,l,rfl,⟨_,B'.of (e3 _ _ hl)⟩,bC (K:=K) (xs:=xs) (fun j σ H3=>∃ (R' W1:List Str)(o5 o6 o7 o8:Option V),σ=[some (.ref l),some (.str x),some (.ref d),some (.ref wl),some (.str nm),o5,o6,o7,o8]/\f' H H3/\H3 d=some (fO R')/\H3 wl=some (.lst (W1.map V.str))/\
    x∈R'/\nm∈R'/\(∀ y∈R',fg ts x y)/\(∀ y∈W1,y∈R')/\(∀ t∈ts,t.2.1∈R'->¬ t.2.1∈W1->t.2.1≠nm->t.2.2.1∈R')/\(∀ t∈ts.take j,t.2.1=nm->t.2.2.1∈R')/\R'.length+ef ts R'<=1+ts.length/\W1.length<=R'.length/\2 * ef ts R'+W1.length<2 * ef ts R+(W'++[nm]).length)
    ⟨R,W',_,_,_,_,rfl,e3,by rw[ae Qe.symm];exact hd2,a9,xR,nmR,ld,fun y hy=>wR y (by simp[hy]),fun t ht h1 h2 h3=>cls t ht h1 (fun z=>by rcases yF.mp z with z|z;exact h2 z;exact h3 (by simpa using z)),fun t ht=>by simp at ht,bnd,?_,?_⟩ (fun j σ H3 _ h=>?_) (fun j v σ H3 ex h=>?_) (fun σ H3 h=>?_)⟩
   ·rw[yI]at X4
    simp at X4
    omega
   ·rw[yI];simp
   ·obtain⟨_,_,_,_,_,_,_,GN,_⟩:=h
    exact B'.of (GN _ _ hl)
   ·obtain⟨R',W1,o5,o6,o7,o8,rfl,e4,Rt,SV,Sm,SN,Qs,Sn,Lb,HJ,Od,M',UT⟩:=h
    obtain⟨t,et,p,rfl,JU⟩:=Paired.at hp ex
    have tm:t∈ts:=yj et
    have tk:ts.take (j+1)=ts.take j++[t]:=by rw[z6,et];rfl
    refine⟨p,_,rfl,CT.of (e4 _ _ JU),rfl,_,_,rfl,_,_,rfl,_,_,rfl,_,[],rfl,rfl,?_⟩
    have Fg:∀ H5,H5=H3->(t.2.1=nm->t.2.2.1∈R')->∃ (R' W1:List Str)(o5 o6 o7 o8:Option V),([some (.ref l),some (.str x),some (.ref d),some (.ref wl),some (.str nm),some (.int t.1),some (.str t.2.1),some (.str t.2.2.1),some (.int t.2.2.2)]:St)=[some (.ref l),some (.str x),some (.ref d),some (.ref wl),some (.str nm),o5,o6,o7,o8]/\f' H H5/\H5 d=some (fO R')/\H5 wl=some (.lst (W1.map V.str))/\
      x∈R'/\nm∈R'/\(∀ y∈R',fg ts x y)/\(∀ y∈W1,y∈R')/\(∀ t∈ts,t.2.1∈R'->¬ t.2.1∈W1->t.2.1≠nm->t.2.2.1∈R')/\(∀ t∈ts.take (j+1),t.2.1=nm->t.2.2.1∈R')/\R'.length+ef ts R'<=1+ts.length/\W1.length<=R'.length/\2 * ef ts R'+W1.length<2 * ef ts R+(W'++[nm]).length:=fun H5 eH ht=>by
     subst eH
     refine⟨R',W1,_,_,_,_,rfl,e4,Rt,SV,Sm,SN,Qs,Sn,Lb,fun u hu QK=>?_,Od,M',UT⟩
     rw[tk]at hu
     rcases yF.mp hu with z|z
     ·exact HJ u z QK
     ·rw[yK.mp z]at QK ⊢
      exact ht QK
    refine⟨_,fun σ' H' h=>h,?_⟩
    refine⟨_,rfl,_,rfl,rfl,_,rfl,bH (fun h1=>?_) (fun h1=>ba (Fg H3 rfl fun z=>absurd (yo (by rw[z])) h1))⟩
    have h1:t.2.1=nm:=by have:=yA h1;injection this
    refine⟨_,rfl,_,rfl,d,_,rfl,CQ.k (k:=Sum.inr t.2.2.1) Rt,_,rfl,?_⟩
    cases hs:(bd (R'.map fun y=>((Sum.inr y:Key),V.bl true)) (Sum.inr t.2.2.1)).isSome with
    | true=>exact ba (Fg H3 rfl fun _=>(g9 R' _).mp hs)
    | false=>
     have GU:¬ t.2.2.1∈R':=fun z=>by rw[(g9 R' _).mpr z]at hs;cases hs
     refine cw ?_
     refine⟨_,rfl,_,rfl,d,_,rfl,F7.k (k:=Sum.inr t.2.2.1) Rt (by rw[y6];show R'.length<2 ^ 24;omega),?_⟩
     rw[dj _ (rZ GU)]
     have XT:upd H3 d (.dK ((R'.map fun y=>((Sum.inr y:Key),V.bl true))++[(Sum.inr t.2.2.1,.bl true)])) wl=some (.lst (W1.map V.str)):=by rw[ae Qe];exact SV
     refine⟨_,rfl,.inl ⟨rfl,_,B'.of XT⟩,_,rfl,wl,_,_,rfl,rfl,XT,by rw[y6];show W1.length<2 ^ 24;omega,?_⟩
     have ol:=xo tm GU
     refine⟨R'++[t.2.2.1],W1++[t.2.2.1],_,_,_,_,rfl,ar (ar e4 hd) Np,?_,?_,by simp[Sm],by simp[SN],fun y hy=>?_,fun y hy=>?_,fun u hu Vn QL hu3=>?_,fun u hu QK=>?_,?_,?_,?_⟩
     ·rw[ae Qe.symm,a9]
      unfold fO
      rw[yN]
      rfl
     ·rw[a9,yN]
      rfl
     ·rcases yF.mp hy with z|z
      ·exact Qs y z
      ·rw[yK.mp z]
       exact .step tm (h1▸Qs nm SN)
     ·rcases yF.mp hy with z|z
      ·exact yY _ (Sn y z)
      ·exact yv _ z
     ·have Vm:u.2.1∈R':=by
       rcases yF.mp Vn with z|z
       ·exact z
       ·exact absurd (yv _ z) QL
      exact yY _ (Lb u hu Vm (fun z=>QL (yY _ z)) hu3)
     ·rw[tk]at hu
      rcases yF.mp hu with z|z
      ·exact yY _ (HJ u z QK)
      ·rw[yK.mp z]
       simp
     ·rw[yI]
      show R'.length+1+_<=_
      omega
     ·rw[yI,yI]
      show W1.length+1<=R'.length+1
      omega
     ·have:(W1++[t.2.2.1]).length=W1.length+1:=by simp
      rw[this]
      omega
   ·obtain⟨R',W1,o5,o6,o7,o8,rfl,e4,Rt,SV,Sm,SN,Qs,Sn,Lb,HJ,Od,M',UT⟩:=h
    rw[Ja,zh]at HJ
    refine⟨_,UT,R',W1,_,_,_,_,_,rfl,e4,Rt,SV,Sm,Qs,Sn,fun t ht h1 h2=>?_,Od,M',rfl⟩
    by_cases h3:t.2.1=nm
    ·exact HJ t ht h3
    ·exact Lb t ht h1 h2 h3
  ·have hc:Wt=[]:=by
    cases Wt with
    | nil=>rfl
    | cons y Wt=>exact absurd (yo (by rw[y6,z4];omega)) hc
   subst hc
   refine⟨_,rfl,q d H2 R e2 hd hd2 fun y=>⟨ld y,fun h=>?_⟩⟩
   induction h with
   | refl=>exact xR
   | step ht _ ih=>exact cls _ ht ih (by simp)
noncomputable def hV (c:Cl):Sp:=fun vs H Q _=>∃ (n dp dt:Addr)(S:NS)(x:Str),vs=[.ref n,.str x]/\BS c H n dp dt S/\x∈S.names/\Q .non H
noncomputable abbrev cq:Stmt:=aQ (top 29) 8
theorem gz:ai ["self","name"] ["self","name"] (af cq):=CG
theorem gM {c:Cl}{f:Addr}{fd:FuncData} (F:Cu K "check_there" "Net.check_there" cq f fd) (O:Cl.Ok K c):BF P w K mg base Co 1 f fd ["self","name"] (hV c):=by
 refine F.k gz fun BJ A outer s H vs Q E hr h=>?_
 ·obtain⟨n,dp,dt,S,x,rfl,N,hx,q⟩:=h
  obtain⟨dx,h1⟩:=N.ins
  obtain⟨kvs,hd,hp⟩:=N.BV
  refine⟨_,(ad (aK (iT (g8 (bc hr) (pv 1) (eW K (pv 0) rfl)))
  (ad bB)
  ay)),?_⟩
  refine⟨_,rfl,_,rfl,n,c.CS,dx,_,_,rfl,h1,O.cn,O.fp,rfl,dp,_,rfl,CQ.k (k:=Sum.inr x) hd,_,rfl,?_⟩
  rw[(gX (x:=x) hp).mpr hx]
  exact ba q
theorem oU {c:Cl}{H:Hp}{x:Str}:∀ {kvs:List (Key×V)}{ps:List (Str×Kd)},Paired (fun (kv:Key×V) p=>kv.1=Sum.inr p.1/\CV c H kv.2 p) kvs ps->x∈ps.map (·.1)->∃ v p,bd kvs (Sum.inr x)=some v/\p∈ps/\p.1=x/\CV c H v p/\ps.find? (fun p=>decide (p.1=x))=some p
 | _,_,.nil,h=>by simp at h
 | kv::kvs,p::ps,.cons ⟨e,pa⟩ r,h=>by
  by_cases hx:p.1=x
  ·exact⟨kv.2,p,c7 (by rw[e,hx]),by simp,hx,pa,by rw[z5,yo hx]⟩
  ·have h':x∈ps.map (·.1):=by
    rcases yD.mp h with⟨q,hq,e2⟩
    rcases yx.mp hq with z|z
    ·rw[z]at e2;exact absurd e2 hx
    ·exact yD.mpr ⟨q,z,e2⟩
   obtain⟨v,q,a1,a2,a3,a4,a5⟩:=oU r h'
   exact⟨v,q,by rw[bS (by rw[e];exact fun z=>hx (Sum.inr.inj z))];exact a1,by simp[a2],a3,a4,by rw[z5,yq hx];exact a5⟩
noncomputable def NS.kind (S:NS)(x:Str):Kd:=((S.BV.find? fun p=>decide (p.1=x)).map (·.2)).getD .post
noncomputable def sQ (c:Cl):Sp:=fun vs H Q E=>∃ (n dp dt:Addr)(S:NS)(x y:Str),vs=[.ref n,.str x,.str y]/\BS c H n dp dt S/\x∈S.names/\y∈S.names/\S.BL.length<=1000/\
 HB (S.kind y)=true/\¬ fg S.BL y x/\∀ H',f' H H'->Q .non H'
noncomputable abbrev cE:Stmt:=aQ (top 29) 7
theorem i5:ai ["self","one","other"] ["self","one","other"] (af cE):=CG
theorem ig {c:Cl}{f:Addr}{fd:FuncData} (F:Cu K "check_ends" "Net.check_ends" cE f fd) (O:Cl.Ok K c) (Eg:∀ C,j9 c C->Dm P w K mg base 1 C "hears" ["self"] (bX c C))
  (BI:Dm P w K mg base 1 c.CS "check_there" ["self","name"] (hV c)) (Cf:Dm P w K mg base 1 c.CS "ties" ["self"] (hU c)) (FN:Df P w K mg base 1 "led_to" ["ties","start"] mH):BF P w K mg base Co 2 f fd ["self","one","other"] (sQ c):=by
 refine F.k i5 fun BJ A outer s H vs Q E hr h=>?_
 ·obtain⟨n,dp,dt,S,x,y,rfl,N,hx,hy,hz,q1,q2,q3⟩:=h
  obtain⟨dx,h1⟩:=id N.ins
  obtain⟨kvs,hd,hp⟩:=id N.BV
  refine⟨_,(aa (b8 (aE (pv 0) BI hr.m (a0 (pv 1) ab)))
 (aa (b8 (aE (pv 0) BI hr.m (a0 (pv 2) ab)))
 (aa (aK (bZ (bG (g7 (pD (bc hr) (eW K (pv 0) rfl) (pv 2)) Eg hr.m)))
  (ad bB)
  ay)
 (ad (aK (iT (vE (bc hr) (pv 1) (ak FN hr.m rfl (a0 (bo (pv 0) Cf hr.m) (a0 (pv 2) ab)))))
  (ad bB)
  ay))))),?_⟩
  refine⟨_,rfl,n,dx,_,rfl,h1,rfl,_,rfl,n,dp,dt,S,x,rfl,N,hx,?_⟩
  refine⟨_,rfl,n,dx,_,rfl,h1,rfl,_,rfl,n,dp,dt,S,y,rfl,N,hy,?_⟩
  obtain⟨v,p,hv,_,_,⟨a,Ji,rfl,ha⟩,hf⟩:=oU hp hy
  have hk:S.kind y=p.2:=by unfold NS.kind;rw[hf];rfl
  refine⟨_,rfl,n,c.CS,dx,_,_,rfl,h1,O.cn,O.fp,rfl,_,rfl,dp,_,rfl,hv▸CQ.k (k:=Sum.inr y) hd,a,c.of p.2,Ji,_,rfl,⟨_,rfl⟩,ha,rfl,_,rfl,_,rfl,?_⟩
  rw[fV O,<- hk]
  rw[q1]
  refine ba ?_
  refine⟨_,rfl,_,rfl,n,dx,_,rfl,h1,rfl,n,dp,dt,S,rfl,N,hz,fun l H1 e1 Wo DU=>?_⟩
  refine⟨_,rfl,l,S.BL,y,rfl,DU,hz,fun d H2 R e2 Tq hd2 hR=>?_⟩
  refine⟨d,_,rfl,CQ.k (k:=Sum.inr x) hd2,_,rfl,?_⟩
  cases hs:(bd (R.map fun y=>((Sum.inr y:Key),V.bl true)) (Sum.inr x)).isSome with
  | true=>exact absurd ((hR x).mp ((g9 R x).mp hs)) q2
  | false=>exact ba (q3 H2 (e1.trans e2))
noncomputable def NS.Kl (S:NS)(x y:Str)(d:Int):NS:={ S with BL:=S.BL++[(S.next,x,y,d)],next:=S.next+1 }
noncomputable def OD (n d:Addr)(H H':Hp):Prop:=∀ a o,a≠n->a≠d->H a=some o->H' a=some o
theorem sJ {H:Hp}{k:Int}:∀ {kvs:List (Key×V)}{ts:List Es},Paired (fun (kv:Key×V) (t:Es)=>kv.1=Sum.inl t.1/\E8 H kv.2 t) kvs ts->((bd kvs (Sum.inl k)).isSome=true ↔ k∈ts.map (·.1))
 | _,_,.nil=>by simp[bd]
 | kv::kvs,t::ts,.cons ⟨e,_⟩ r=>by
  by_cases h:t.1=k
  ·rw[c7 (by rw[e,h])]
   simp[h]
  ·rw[bS (by rw[e];exact fun z=>h (Sum.inl.inj z)),sJ r]
   simp[Ne.symm h]
noncomputable def rj (c:Cl):Sp:=fun vs H Q E=>∃ (n dp dt:Addr)(S:NS)(x y:Str)(d:Int),vs=[.ref n,.str x,.str y,.int d]/\BS c H n dp dt S/\x∈S.names/\y∈S.names/\S.BL.length<=1000/\(∀ t∈S.BL,t.1<S.next)/\
 HB (S.kind y)=true/\¬ fg S.BL y x/\io d=true/\S.BL.length<40/\∀ H',OD n dt H H'->BS c H' n dp dt (S.Kl x y d)->Q (.int S.next) H'
noncomputable abbrev iP:Stmt:=aQ (top 29) 6
theorem Fz:ai ["self","one","other","delay","number"] ["self","one","other","delay"] (af iP):=CG
theorem rY {c:Cl}{f:Addr}{fd:FuncData} (F:F0 K "tie" "Net.tie" iP f fd) (O:Cl.Ok K c) (T:xU mg) (TH:Oj mg) (D4:Dm P w K mg base 2 c.CS "check_ends" ["self","one","other"] (sQ c)) (Ew:Df P w K mg base 2 "is_delay" ["number"] jf):
  BF P w K mg base Co 3 f fd ["self","one","other","delay"] (rj c):=by
 obtain⟨tl,GI⟩:=TH.mot
 refine F.k Fz fun BJ A outer s H vs Q E hr h=>?_
 ·obtain⟨n,dp,dt,S,x,y,d,rfl,N,hx,hy,hz,VG,hb,hL,hi,g,q5⟩:=h
  have ND:=Fz.nd
  obtain⟨dx,h1⟩:=id N.ins
  obtain⟨kvs,hd,hp⟩:=id N.BL
  have hl:=Paired.length hp
  refine⟨_,(aa (b8 (aE (pv 0) D4 hr.m (a0 (pv 1) (a0 (pv 2) ab))))
 (aa (aK (bZ (bG (ak Ew hr.m rfl (a0 (pv 3) ab))))
  (ad bB)
  ay)
 (aa (aK (pT t3 (aw fX rfl T.Ci boot_len (a0 (eW K (pv 0) rfl) ab)) (eO (v:=.int 40) rfl GI ⟨_,rfl⟩))
  (ad bB)
  ay)
 (aa (pS 4 ND (eW K (pv 0) rfl))
 (aa (dw (bc hr) (eW K (pv 0) rfl) (pv 4) (bv (a0 (pv 4) (a0 (pv 1) (a0 (pv 2) (a0 (pv 3) ab))))) rfl)
 (aa (iU (pv 0) (aB cH (pv 4) ag) rfl)
 (ad (am (pv 4))))))))),?_⟩
  refine⟨_,rfl,n,dx,_,rfl,h1,rfl,_,rfl,_,rfl,n,dp,dt,S,x,y,rfl,N,hx,hy,hz,hb,hL,fun H1 e1=>?_⟩
  refine⟨_,rfl,d,rfl,_,rfl,?_⟩
  rw[hi]
  refine ba ?_
  refine⟨_,rfl,n,c.CS,dx,_,_,rfl,e1 _ _ h1,O.cn,O.ft,rfl,dt,kvs,rfl,e1 _ _ hd,_,_,rfl,rfl,_,rfl,bH (fun z=>?_) (fun _=>?_)⟩
  ·have:=yA z
   omega
  refine⟨_,rfl,n,c.CS,dx,_,_,rfl,e1 _ _ h1,O.cn,O.fn,rfl,?_⟩
  refine⟨_,rfl,_,rfl,_,rfl,_,rfl,(by show 4<=sizeLine;decide),fun tp H2 e2 Tq Kp=>?_⟩
  have Jw:=e1.trans e2
  have hv:bd kvs (Sum.inl S.next)=none:=by
   cases hs:bd kvs (Sum.inl S.next) with
   | none=>rfl
   | some v=>
    obtain⟨t,ht,et⟩:=yD.mp ((sJ (k:=S.next) hp).mp (by rw[hs];rfl))
    have:=VG t ht
    omega
  have Xo:n≠dt:=aY h1 hd (fun z=>nomatch z)
  refine⟨_,rfl,n,c.CS,dx,_,_,rfl,Jw _ _ h1,O.cn,O.ft,rfl,_,rfl,dt,_,rfl,F7.k (k:=Sum.inl S.next) (Jw _ _ hd) (by show kvs.length<2 ^ 24;omega),?_⟩
  rw[dj _ hv]
  refine⟨_,rfl,_,_,rfl,rfl,_,rfl,n,c.CS,dx,_,rfl,by rw[ae Xo];exact Jw _ _ h1,O.cn,O.fn,(by show 3<1000;decide),?_⟩
  have b2:OD n dt H (upd (upd H2 dt (.dK (kvs++[(Sum.inl S.next,.ref tp)]))) n (.ins c.CS dx [("kept_posts",.ref dp),("kept_ties",.ref dt),("next_number",.int (S.next+1))])):=fun a o na nd ha=>by
   rw[ae na,ae nd];exact Jw _ _ ha
  refine⟨_,rfl,q5 _ b2 ?_⟩
  obtain⟨_,⟨kp,h2,p2⟩,_,h4⟩:=N
  have IH:∀ {v:V}{q:Str×Kd},CV c H v q->v≠.ref n->CV c _ v q:=fun {v q} j' Jc=>by obtain⟨b,TF,eb,hb⟩:=j';exact⟨b,TF,eb,b2 b _ (fun z=>Jc (by rw[eb,z])) (aY hb hd (fun z=>nomatch z)) hb⟩
  have Cn:∀ {v:V}{t:Es},E8 H v t->E8 _ v t:=fun {v t} j'=>by obtain⟨b,eb,hb⟩:=j';exact⟨b,eb,b2 b _ (aY hb h1 (fun z=>nomatch z)) (aY hb hd (fun z=>nomatch z)) hb⟩
  have ntp:tp≠n:=(ah (e1 _ _ h1) Tq).symm
  have ntd:tp≠dt:=(ah (e1 _ _ hd) Tq).symm
  refine⟨⟨dx,a9⟩,⟨kp,b2 dp _ (aY h2 h1 (fun z=>nomatch z)) h4 h2,Paired.Cp p2 fun kv p ⟨a1,a2⟩=>⟨a1,IH a2 ?_⟩⟩,⟨kvs++[(Sum.inl S.next,.ref tp)],by rw[ae Xo.symm];exact a9,Paired.El (Paired.Cp hp fun _ _ j'=>(by obtain⟨a1,a2⟩:=j';exact⟨a1,Cn a2⟩)) ⟨rfl,tp,rfl,?_⟩⟩,h4⟩
  ·obtain⟨b,TF,eb,DC⟩:=a2
   rintro z
   rw[z]at eb
   cases eb
   rw[h1]at DC
   injection DC with DC
   injection DC with _ _ DC
   cases DC
  ·rw[ae ntp,ae ntd]
   exact Kp
noncomputable def NS.into (S:NS)(x:Str):List Int:=(S.BL.filter fun t=>decide (t.2.2.1=x)).map (·.1)
noncomputable def NS.Dc (S:NS)(x:Str):List Int:=(S.BL.filter fun t=>decide (t.2.1=x)).map (·.1)
theorem eC {α β:Type}{d:α} (f:α->Bool) (g:α->β) (xs:List α):((List.range xs.length).filter fun i=>f (xs.getD i d)).map (fun i=>g (xs.getD i d))=(xs.filter f).map g:=by
 have e:(List.range xs.length).map (fun i=>xs.getD i d)=xs:=by
  have:=rG (xs:=xs) (d:=d) (f:=id)
  simpa using this
 conv=>rhs;rw[<- e,List.filter_map,yt]
 rfl
noncomputable def fZ (c:Cl)(f:NS->Str->List Int):Sp:=fun vs H Q _=>∃ (n dp dt:Addr)(S:NS)(x:Str),vs=[.ref n,.str x]/\BS c H n dp dt S/\x∈S.names/\S.BL.length<=1000/\∀ l H',f' H H'->H l=none->H' l=some (.lst ((f S x).map V.int))->Q (.ref l) H'
noncomputable abbrev gH:Stmt:=aQ (top 29) 15
theorem pi:ai ["self","name"] ["self","name"] (af gH):=CG
theorem qd {c:Cl}{f:Addr}{fd:FuncData} (F:Cu K "into" "Net.into" gH f fd) (O:Cl.Ok K c) (BI:Dm P w K mg base 1 c.CS "check_there" ["self","name"] (hV c)) (Cf:Dm P w K mg base 1 c.CS "ties" ["self"] (hU c)):
  BF P w K mg base Co 2 f fd ["self","name"] (fZ c NS.into):=by
 refine F.k pi fun BJ A outer s H vs Q E hr h=>?_
 ·obtain⟨n,dp,dt,S,x,rfl,N,hx,hz,q⟩:=h
  obtain⟨dx,h1⟩:=id N.ins
  refine⟨_,(aa (b8 (aE (pv 0) BI hr.m (a0 (pv 1) ab)))
 (ad (am (aV rfl (cS 4 [1] ["number","one","other","delay","name"]) (bQ K (bo (pv 0) Cf hr.m))
  (fun _ _ _ _ _=>(dl K (n:=4) rfl (aj (pC 0) (aj (pC 1) (aj (pC 2) (aj (pC 3) aX))))))
  (fun _ _ _ _ _=>(cJ (pT bP (pv 2) (pv 4))))
  (fun _ _ _ _ _=>(pv 0)))))),?_⟩
  refine⟨_,rfl,n,dx,_,rfl,h1,rfl,_,rfl,n,dp,dt,S,x,rfl,N,hx,?_⟩
  refine⟨_,rfl,n,dx,_,rfl,h1,rfl,n,dp,dt,S,rfl,N,hz,fun l1 H1 e1 Wo t1=>?_⟩
  obtain⟨xs,a1,a2⟩:=t1
  have hl:=Paired.length a2
  refine⟨l1,rfl,⟨_,B'.of a1⟩,jD (fun i=>decide ((S.BL.getD i (0,"","",0)).2.2.1=x)) (fun i=>.int (S.BL.getD i (0,"","",0)).1) a1 (by omega) (fun i v ev=>?_) (fun i p x1 x2 x3 x4 H2 ev hp e2=>?_) (fun l H' h0 e' EK=>?_)⟩
  ·obtain⟨t,et,b,rfl,hb⟩:=Paired.at a2 ev
   exact⟨b,_,_,_,_,rfl,hb⟩
  ·obtain⟨t,et,b,eb,hb⟩:=Paired.at a2 ev
   cases eb
   rw[hb]at hp
   injection hp with hp
   injection hp with hp
   injection hp with g1 hp
   injection hp with g2 hp
   injection hp with g3 hp
   subst g1 g2 g3
   have eg:S.BL.getD i (0,"","",0)=t:=by rw[yc,et];rfl
   rw[eg]
   refine⟨_,rfl,_,rfl,rfl,_,rfl,bH (fun g=>?_) (fun g=>?_)⟩
   ·exact⟨_,rfl,yo (by have:=yA g;injection this),rfl,f'.refl _⟩
   ·exact⟨yq (fun z=>g (yo (by rw[z]))),f'.refl _⟩
  ·refine q l H' (e1.trans e') ?_ ?_
   ·cases DT:H l with
    | none=>rfl
    | some o=>rw[e1 _ _ DT]at h0;cases h0
   ·rw[EK,hl]
    unfold NS.into
    rw[yt]
    exact congrArg (fun z=>some (HO.lst z)) (eC (fun t=>decide (t.2.2.1=x)) (fun t=>V.int t.1) S.BL)
noncomputable abbrev eF:Stmt:=aQ (top 29) 16
theorem md:ai ["self","name"] ["self","name"] (af eF):=CG
theorem ml {c:Cl}{f:Addr}{fd:FuncData} (F:Cu K "out_of" "Net.out_of" eF f fd) (O:Cl.Ok K c) (BI:Dm P w K mg base 1 c.CS "check_there" ["self","name"] (hV c)) (Cf:Dm P w K mg base 1 c.CS "ties" ["self"] (hU c)):
  BF P w K mg base Co 2 f fd ["self","name"] (fZ c NS.Dc):=by
 refine F.k md fun BJ A outer s H vs Q E hr h=>?_
 ·obtain⟨n,dp,dt,S,x,rfl,N,hx,hz,q⟩:=h
  obtain⟨dx,h1⟩:=id N.ins
  refine⟨_,(aa (b8 (aE (pv 0) BI hr.m (a0 (pv 1) ab)))
 (ad (am (aV rfl (cS 4 [1] ["number","one","other","delay","name"]) (bQ K (bo (pv 0) Cf hr.m))
  (fun _ _ _ _ _=>(dl K (n:=4) rfl (aj (pC 0) (aj (pC 1) (aj (pC 2) (aj (pC 3) aX))))))
  (fun _ _ _ _ _=>(cJ (pT bP (pv 1) (pv 4))))
  (fun _ _ _ _ _=>(pv 0)))))),?_⟩
  refine⟨_,rfl,n,dx,_,rfl,h1,rfl,_,rfl,n,dp,dt,S,x,rfl,N,hx,?_⟩
  refine⟨_,rfl,n,dx,_,rfl,h1,rfl,n,dp,dt,S,rfl,N,hz,fun l1 H1 e1 Wo t1=>?_⟩
  obtain⟨xs,a1,a2⟩:=t1
  have hl:=Paired.length a2
  refine⟨l1,rfl,⟨_,B'.of a1⟩,jD (fun i=>decide ((S.BL.getD i (0,"","",0)).2.1=x)) (fun i=>.int (S.BL.getD i (0,"","",0)).1) a1 (by omega) (fun i v ev=>?_) (fun i p x1 x2 x3 x4 H2 ev hp e2=>?_) (fun l H' h0 e' EK=>?_)⟩
  ·obtain⟨t,et,b,rfl,hb⟩:=Paired.at a2 ev
   exact⟨b,_,_,_,_,rfl,hb⟩
  ·obtain⟨t,et,b,eb,hb⟩:=Paired.at a2 ev
   cases eb
   rw[hb]at hp
   injection hp with hp
   injection hp with hp
   injection hp with g1 hp
   injection hp with g2 hp
   subst g1 g2
   have eg:S.BL.getD i (0,"","",0)=t:=by rw[yc,et];rfl
   rw[eg]
   refine⟨_,rfl,_,rfl,rfl,_,rfl,bH (fun g=>?_) (fun g=>?_)⟩
   ·exact⟨_,rfl,yo (by have:=yA g;injection this),rfl,f'.refl _⟩
   ·exact⟨yq (fun z=>g (yo (by rw[z]))),f'.refl _⟩
  ·refine q l H' (e1.trans e') ?_ ?_
   ·cases DT:H l with
    | none=>rfl
    | some o=>rw[e1 _ _ DT]at h0;cases h0
   ·rw[EK,hl]
    unfold NS.Dc
    rw[yt]
    exact congrArg (fun z=>some (HO.lst z)) (eC (fun t=>decide (t.2.1=x)) (fun t=>V.int t.1) S.BL)
theorem lE (x:Str):∀ zs:List Str,Jl (.str x) (zs.map V.str)=decide (x∈zs)
 | []=>by simp[Jl]
 | z::zs=>by
  have ih:=lE x zs
  unfold Jl at ih ⊢
  rw[yJ,AE,ih]
  have:IX (V.str x) (V.str z)=(x==z):=rfl
  rw[zr]
  simp[IX]
  exact⟨fun h=>h.imp Eq.symm id,fun h=>h.imp Eq.symm id⟩
theorem n8 (zs:List Str):(zs.map V.str).all ff=true:=by
 rw[List.all_map,zF]
 intro z _
 rfl
structure Oh (mg : Str -> Option Value) : Prop where
  Ci : mg "len" = none
  Gp : mg "all" = none
  Dl : mg "dict" = none
noncomputable def cu (ts:List Str)(b:Str×List Str):Bool:=!decide (b.1∈ts)&&b.2.all fun y=>decide (y∈ts)
noncomputable def bu (bs:List (Str×List Str))(ts:List Str):Option Str:=(bs.find? (cu ts)).map (·.1)
noncomputable def Mq:Option Str->V
 | none=>.non
 | some x=>.str x
noncomputable def qY (H:Hp)(d:Addr)(bs:List (Str×List Str)):Prop:=∃ kvs,H d=some (.dK kvs)/\Paired (fun (kv:Key×V) (b:Str×List Str)=>kv.1=Sum.inr b.1/\∃ l,kv.2=.ref l/\H l=some (.lst (b.2.map V.str))) kvs bs
theorem jV {H:Hp}{x:Str}:∀ {kvs:List (Key×V)}{bs:List (Str×List Str)},Paired (fun (kv:Key×V) (b:Str×List Str)=>kv.1=Sum.inr b.1/\∃ l,kv.2=.ref l/\H l=some (.lst (b.2.map V.str))) kvs bs->(bs.map (·.1)).Nodup->∀ {i:Nat}{b:Str×List Str},bs[i]?=some b->b.1=x->∃ l,bd kvs (Sum.inr x)=some (.ref l)/\kvs[i]?=some (Sum.inr x,.ref l)/\H l=some (.lst (b.2.map V.str))
 | _,_,.nil,_,i,b,h,_=>by simp at h
 | kv::kvs,b0::bs,.cons ⟨e,l,el,hl⟩ r,nd,i,b,h,hx=>by
  have nd:=zk.mp (show (b0.1::bs.map (·.1)).Nodup from nd)
  cases i with
  | zero=>
   have h:b0=b:=by simpa using h
   subst h
   refine⟨l,by rw[c7 (by rw[e,hx]),el],?_,hl⟩
   show some kv=_
   rw[<- hx,<- e,<- el]
  | succ i=>
   have h:bs[i]?=some b:=by simpa using h
   obtain⟨l',h1,h2,h3⟩:=jV r nd.2 h hx
   refine⟨l',?_,by simpa using h2,h3⟩
   rw[bS (by rw[e];exact fun z=>nd.1 (by rw[Sum.inr.inj z,<- hx];exact yO (yj h)))]
   exact h1
noncomputable def fw:Sp:=fun vs H Q _=>∃ (d t:Addr)(bs:List (Str×List Str))(ts:List Str),vs=[.ref d,.ref t]/\qY H d bs/\H t=some (.lst (ts.map V.str))/\(bs.map (·.1)).Nodup/\(∀ b∈bs,b.2.length<=1000)/\∀ H',f' H H'->Q (Mq (bu bs ts)) H'
noncomputable abbrev dC:Stmt:=top 25
theorem DZ:ai ["begins","told","name"] ["begins","told"] (af dC):=CG
theorem kZ {f:Addr}{fd:FuncData} (F:Cu K "first_ready" "first_ready" dC f fd) (T:Oh mg):BF P w K mg base Co 1 f fd ["begins","told"] fw:=by
 refine F.k DZ fun BJ A outer s H vs Q E hr h=>?_
 ·obtain⟨d,t,bs,ts,rfl,⟨kvs,hd,hp⟩,ht,nd,hb,q⟩:=h
  have ND:=DZ.nd
  have hl:=Paired.length hp
  refine⟨_,(aa (jO yS rfl (i8 (pv 0)) (pN 2 ND)
  (ad (aK (PW.pt (gK (pT (oo K) (pv 2) (pv 1) (by with_unfolding_all rfl)) (eM (bG (aw (j7 K rfl) rfl T.Gp boot_all (a0 (aV rfl (cS 1 [1] ["one","told"]) (bQ K (pD (bc hr) (pv 0) (pv 2)))
  (fun _ _ _ _ _=>(pC 0))
  (fun _ _ _ _ _=>aG)
  (fun _ _ _ _ _=>(pM (XH K) (pv 0) (pv 1) (by with_unfolding_all rfl)))) ab))))))
  (ad (am (pv 2)))
  ay)))
 (ad (am cv))),?_⟩
  refine⟨_,rfl,d,kvs,rfl,hd,fun o M hM=>?_⟩
  rw[su]
  refine ip (kvs:=kvs) (fun i σ H2=>∃ ov,σ=[some (.ref d),some (.ref t),ov]/\f' (upd H d (.frz o (.dK kvs))) H2/\∀ b∈bs.take i,cu ts b=false) ⟨none,rfl,f'.refl _,by simp⟩ (fun i σ H2 _ j'=>(by obtain⟨_,_,e,_⟩:=j';exact e _ _ a9)) (fun i kv σ H2 ek j'=>?_) (fun σ H2 j'=>?_)
  ·obtain⟨ov,es,e,hh⟩:=j'
   subst es
   obtain⟨b,eb,La,l,el,EK⟩:=Paired.at hp ek
   obtain⟨l2,hv,Ny,DP⟩:=jV hp nd eb rfl
   have Xp:∀ {x:Addr}{xs:List V},H x=some (.lst xs)->upd H d (.frz o (.dK kvs)) x=some (.lst xs):=fun {x xs} hx=>by rw[ae (aY hx hd (fun z=>nomatch z))];exact hx
   have Y1:=e _ _ (Xp ht)
   have Jd:=e _ _ (Xp DP)
   have bl:=hb b (yj eb)
   have Qt:kV kv.1=.str b.1:=by rw[La];rfl
   rw[Qt]
   have tk:bs.take (i+1)=bs.take i++[b]:=by rw[z6,eb];rfl
   have skip:∀ H3,f' H2 H3->cu ts b=false->∃ ov,([some (.ref d),some (.ref t),some (.str b.1)]:St)=[some (.ref d),some (.ref t),ov]/\f' (upd H d (.frz o (.dK kvs))) H3/\∀ b∈bs.take (i+1),cu ts b=false:=fun H3 e3 CI=>by
    refine⟨_,rfl,e.trans e3,fun b' DC=>?_⟩
    rw[tk]at DC
    rcases yF.mp DC with z|z
    ·exact hh b' z
    ·rw[yK.mp z];exact CI
   refine⟨_,rfl,_,rfl,t,_,rfl,.inl (B'.of Y1),rfl,n8 ts,_,rfl,?_⟩
   rw[if_pos rfl,lE]
   by_cases Gu:b.1∈ts
   ·rw[yo Gu]
    exact ba (ba (skip H2 (f'.refl _) (by unfold cu;rw[yo Gu];rfl)))
   ·rw[yq Gu]
    refine cw ?_
    refine⟨_,rfl,_,rfl,d,.ref l2,rfl,?_,l2,rfl,⟨_,B'.of Jd⟩,gS (fun j=>.bl (decide (b.2.getD j ""∈ts))) Jd (by rw[y6];exact bl) (fun j x H3 ex e3=>?_) (fun lp H3 YK e3 Jp=>?_)⟩
    ·exact hv▸.inl ⟨kvs,Sum.inr b.1,.inr ⟨o,e _ _ a9⟩,rfl,rfl⟩
    ·obtain⟨y,ey,rfl⟩:∃ y,b.2[j]?=some y/\x=.str y:=by
      rw[ye]at ex
      cases hm:b.2[j]? with
      | none=>rw[hm]at ex;cases ex
      | some m=>rw[hm]at ex;exact⟨m,rfl,by simpa using ex.symm⟩
     have gd:b.2.getD j ""=y:=by rw[yc,ey];rfl
     refine⟨_,rfl,_,rfl,t,_,rfl,.inl (B'.of (e3 _ _ Y1)),rfl,n8 ts,?_,f'.refl _⟩
     rw[if_neg yQ,lE,gd]
    ·have HH:(List.range (b.2.map V.str).length).map (fun j=>V.bl (decide (b.2.getD j ""∈ts)))=(b.2.map fun y=>decide (y∈ts)).map V.bl:=by
      rw[y6,yt]
      apply List.ext_getElem
      ·simp
      ·intro j h1 h2
       simp at h1
       simp[yc,h1]
     rw[HH]at Jp
     refine⟨lp,_,rfl,B'.of Jp,_,rfl,?_⟩
     have Y5:cu ts b=((b.2.map fun y=>decide (y∈ts)).all id):=by
      unfold cu
      rw[yq Gu,List.all_map]
      rfl
     cases Y7:(b.2.map fun y=>decide (y∈ts)).all id with
     | false=>exact ba (skip H3 e3 (by rw[Y5,Y7]))
     | true=>
      refine cw ⟨_,rfl,d,o,kvs,hM,e3 _ _ (e _ _ a9),?_⟩
      have:bu bs ts=some b.1:=by
       unfold bu
       have:bs.find? (cu ts)=some b:=by
        rw[List.find?_eq_some_iff_getElem]
        obtain⟨hi,e2⟩:=yb.mp eb
        refine⟨by rw[Y5,Y7],i,hi,e2,fun j hj=>?_⟩
        rw[hh _ (zH.mpr ⟨j,by omega,rfl⟩)]
        rfl
       rw[this]
       rfl
      have q':=q _ (ce hd (e.trans e3))
      rw[this]at q'
      exact q'
  ·obtain⟨ov,es,e,hh⟩:=j'
   subst es
   refine⟨d,o,kvs,hM,e _ _ a9,?_⟩
   have:bu bs ts=none:=by
    unfold bu
    have:bs.find? (cu ts)=none:=by
     rw[ze]
     intro b W9
     rw[hl,zh]at hh
     rw[hh b W9]
     exact yQ
    rw[this]
    rfl
   have q':=q _ (ce hd e)
   rw[this]at q'
   exact q'
end K51
namespace L2
open PySem PySem.Spec PyProof.Rows
section
variable {K : PySem.W.Frag}{js : List Nat}{te : TE}{σ : St}{F : Addr -> Hp -> Prop}{H : Hp}
theorem sE {pr:Key×V->V}{o:Obj}{d:Addr}{kvs:List (Key×V)} (HQ:H d=some (.frz o (.dK kvs))) (hz:kvs.length<=1000)
  (hs:∀ (i:Nat)(kv:Key×V) H2,kvs[i]?=some kv->f' H H2->te (some (pr kv)::bD σ js) H2 fun v H5=>f' H2 H5/\∃ t e,v=.ref t/\H2 t=none/\H2 e=none/\H5 t=some (.tup [pr kv,.ref e])/\H5 e=some (.lst []))
  (hd:∀ l H' (ts ls:List Addr),H l=none->f' H H'->H' l=some (.lst (ts.map V.ref))->ts.length=kvs.length->ls.length=kvs.length->ls.Nodup->(∀ (i:Nat) kv t e,kvs[i]?=some kv->ts[i]?=some t->ls[i]?=some e->H' t=some (.tup [pr kv,.ref e])/\H' e=some (.lst [])/\H e=none/\e≠l)->F l H'):bh 1 js (aO 0) fh te σ F (Lg pr o d) H:=by
 intro l BX
 refine⟨fun i m σ' H2=>m=kvs.length - i/\i<=kvs.length/\(∃ o1,σ'=o1::bD σ js)/\f' H H2/\∃ ts ls:List Addr,ts.length=i/\ls.length=i/\H2 l=some (.lst (ts.map V.ref))/\ls.Nodup/\∀ (j:Nat) kv t e,kvs[j]?=some kv->ts[j]?=some t->ls[j]?=some e->H2 t=some (.tup [pr kv,.ref e])/\H2 e=some (.lst [])/\H e=none/\e≠l,
  ⟨kvs.length,by simp,yR _,⟨none,rfl⟩,aq (f'.refl _) BX,[],[],rfl,rfl,a9,B8,fun j kv t e _ h=>by simp at h⟩,?_⟩
 rintro i m σ' H2 ⟨rfl,hi,⟨o1,rfl⟩,e,ts,ls,IQ,Gs,hl,nd,hp⟩
 have q:=e _ _ HQ
 by_cases BU:i<kvs.length
 ·refine .inr ⟨⟨kvs,kvs[i],q,by simp[BU]⟩,fun x H3 y=>?_⟩
  obtain⟨rfl,y⟩:=y
  obtain⟨kv,e1,rfl⟩:=y kvs q
  refine⟨fun _=>False,fun v H5=>f' H3 H5/\∃ t e,v=.ref t/\H3 t=none/\H3 e=none/\H5 t=some (.tup [pr kv,.ref e])/\H5 e=some (.lst []),fun H4 p4=>p4.elim,fun v H5 j'=>?_,hs i kv H3 e1 e⟩
  obtain⟨e5,t,ea,ev,QP,Gv,ht,he⟩:=j'
  subst ev
  have SJ:t≠l:=(ah hl QP).symm
  have Qi:ea≠l:=(ah hl Gv).symm
  have GU:ea∉ls:=fun hm=>by
   obtain⟨j,hj⟩:=zB.mp hm
   have T7:=(yb.mp hj).1
   obtain⟨h1,h2,_⟩:=hp j kvs[j] ts[j] ea (y8 (by omega)) (y8 (by omega)) hj
   rw[Gv]at h2
   cases h2
  refine⟨_,e5 _ _ hl,by rw[y6,IQ];exact yP hi (yP hz (by decide)),_,?_,rfl,BU,⟨_,rfl⟩,ar (e.trans e5) BX,ts++[t],ls++[ea],by simp[IQ],by simp[Gs],by rw[a9,yN];rfl,?_,fun j V6 t' e' h1 h2 h3=>?_⟩
  ·omega
  ·rw[Am]
   exact⟨nd,by simp,fun a ha b hb=>by rw[yK.mp hb];exact fun z=>GU (z▸ha)⟩
  ·by_cases c:j<i
   ·rw[yU (by omega)]at h2
    rw[yU (by omega)]at h3
    obtain⟨g1,g2,g3,g4⟩:=hp j V6 t' e' h1 h2 h3
    refine⟨?_,?_,g3,g4⟩
    ·rw[ae (fun z=>by rw[z,hl]at g1;cases g1)];exact e5 _ _ g1
    ·rw[ae g4];exact e5 _ _ g2
   ·have hj:j=i:=by
     have:=(yb.mp h2).1
     rw[yI,IQ]at this
     simp at this
     omega
    subst hj
    rw[yT (by omega),IQ,Nat.sub_self]at h2
    rw[yT (by omega),Gs,Nat.sub_self]at h3
    have h2:t=t':=by simpa using h2
    have h3:ea=e':=by simpa using h3
    subst h2 h3
    rw[e1]at h1
    cases h1
    refine⟨by rw[ae SJ];exact ht,by rw[ae Qi];exact he,e.free Gv,Qi⟩
 ·have ei:i=kvs.length:=by omega
  subst ei
  exact .inl ⟨⟨kvs,q,yh _⟩,hd l H2 ts ls BX e hl IQ Gs nd hp⟩
end
theorem c9:∀ (more acc:List (Key×V)),((acc++more).map (·.1)).Nodup->dH acc more=acc++more
 | [],acc,_=>by rw[AB];rfl
 | p::r,acc,h=>by
  have h0:bd acc p.1=none:=by
   cases hs:bd acc p.1 with
   | none=>rfl
   | some v=>
    unfold bd at hs
    obtain⟨q,hq,_⟩:=yX.mp hs
    have hm:=zx hq
    have hk:q.1=p.1:=yA (by have:=AA hq;exact this)
    rw[yN,Am]at h
    exact absurd hk (h.2.2 q.1 (yO hm) p.1 (by simp))
  show dH (cM acc p.1 p.2) r=_
  rw[dj _ h0,c9 r _ (by rw[An];exact h),An]
  rfl
end L2
namespace K51
open PySem L2
open PyProof.Rows (boot_list boot_int boot_bool boot_tuple boot_str boot_dict boot_all)
theorem qi:∀ {xs ys:List Str},xs.Nodup->(∀ x∈xs,x∈ys)->xs.length<=ys.length
 | [],ys,_,_=>yR _
 | x::xs,ys,nd,h=>by
  have nd:=zk.mp nd
  have hx:=h x (by simp)
  have:=qi (ys:=ys.erase x) nd.2 fun y hy=>(AI (fun z:y=x=>nd.1 (by rw[<- z];exact hy))).mpr (h y (by simp[hy]))
  rw[AQ hx]at this
  have h1:0<ys.length:=List.length_pos_of_mem hx
  rw[z4]
  omega
noncomputable def bU (bs:List (Str×List Str)):Nat->List Str
 | 0=>[]
 | k+1=>bU bs k++[(bu bs (bU bs k)).getD ""]
structure mt (bs : List (Str × List Str)) : Prop where
  nd : (bs.map (·.1)).Nodup
  ends : ∀ b ∈ bs, ∀ y ∈ b.2, y ∈ bs.map (·.1)
  rk : ∃ rank : Str -> Nat, ∀ b ∈ bs, ∀ y ∈ b.2, rank y < rank b.1
theorem eI {bs:List (Str×List Str)}(A:mt bs){ts:List Str}(BU:ts.length<bs.length):∃ x,bu bs ts=some x/\x∈bs.map (·.1)/\x∉ts:=by
 obtain⟨rank,hrk⟩:=A.rk
 have one:∃ b∈bs,b.1∉ts:=by
  by_cases h:∃ b∈bs,b.1∉ts
  ·exact h
  ·have hs:∀ x∈bs.map (·.1),x∈ts:=fun x hx=>by
    obtain⟨b,hb,rfl⟩:=yD.mp hx
    by_cases hh:b.1∈ts
    ·exact hh
    ·exact absurd ⟨b,hb,hh⟩ h
   have:=qi A.nd hs
   rw[y6]at this
   omega
 have key:∀ n,∀ b∈bs,b.1∉ts->rank b.1=n->∃ b'∈bs,cu ts b'=true:=by
  intro n
  induction n using Nat.strongRecOn with
  | ind n ih=>
   intro b hb W7 hn
   by_cases HH:∀ y∈b.2,y∈ts
   ·refine⟨b,hb,?_⟩
    unfold cu
    rw[yq W7]
    simpa using HH
   ·obtain⟨y,hy⟩:=Classical.not_forall.mp HH
    obtain⟨XM,hy2⟩:=Classical.not_imp.mp hy
    obtain⟨b',DC,e'⟩:=yD.mp (A.ends b hb y XM)
    exact ih (rank y) (by rw[<- hn];exact hrk b hb y XM) b' DC (by rw[e'];exact hy2) (by rw[e'])
 obtain⟨b,hb,W7⟩:=one
 obtain⟨b',DC,CI⟩:=key _ b hb W7 rfl
 cases hf:bs.find? (cu ts) with
 | none=>exact absurd CI (by have:=ze.mp hf b' DC;simpa using this)
 | some c=>
  have hc:=AA hf
  refine⟨c.1,by unfold bu;rw[hf];rfl,yO (zx hf),fun z=>?_⟩
  unfold cu at hc
  rw[yo z]at hc
  cases hc
theorem iW {bs:List (Str×List Str)}(A:mt bs):∀ k,k<=bs.length->(bU bs k).Nodup/\(bU bs k).length=k
 | 0,_=>⟨B8,rfl⟩
 | k+1,h=>by
  obtain⟨h1,h2⟩:=iW A k (by omega)
  obtain⟨x,e,hx,hn⟩:=eI A (ts:=bU bs k) (by omega)
  refine⟨?_,by simp[bU,h2]⟩
  show (bU bs k++[(bu bs (bU bs k)).getD ""]).Nodup
  rw[e,Am]
  exact⟨h1,by simp,fun a ha b hb=>by rw[yK.mp hb];exact fun z=>hn (by have z:a=x:=z;rw[<- z];exact ha)⟩
noncomputable def cy (ts:List Es)(x:Str):List Str:=(ts.filter fun t=>decide (t.2.2.1=x)).map (·.2.1)
noncomputable def bI (S:NS):List (Str×List Str):=S.names.map fun x=>(x,cy S.BL x)
theorem qU (ts:List Es)(t:Es)(x:Str):cy (ts++[t]) x=cy ts x++(if t.2.2.1=x then [t.2.1] else []):=by
 unfold cy
 rw[AV,yN]
 congr 1
 by_cases h:t.2.2.1=x
 ·simp[h]
 ·simp[h]
structure Jk (H : Hp) (d : Addr) (names : List Str) (ls : List Addr) (f : Str -> List Str) : Prop where
  dict : H d = some (.dK ((names.zip ls).map fun p => (Sum.inr p.1, V.ref p.2)))
  lists : ∀ (i : Nat) x e, names[i]? = some x -> ls[i]? = some e -> H e = some (.lst ((f x).map V.str))
theorem Jk.at {H:Hp}{d:Addr}{names:List Str}{ls:List Addr}{f:Str->List Str} (h:Jk H d names ls f) (hl:ls.length=names.length):qY H d (names.map fun x=>(x,f x)):=by
 refine⟨_,h.dict,?_⟩
 have:∀ (ns:List Str)(as:List Addr),as.length=ns.length->(∀ (i:Nat) x e,ns[i]?=some x->as[i]?=some e->H e=some (.lst ((f x).map V.str)))->Paired (fun (kv:Key×V) (b:Str×List Str)=>kv.1=Sum.inr b.1/\∃ l,kv.2=.ref l/\H l=some (.lst (b.2.map V.str))) ((ns.zip as).map fun p=>(Sum.inr p.1,V.ref p.2)) (ns.map fun x=>(x,f x)):=by
  intro ns
  induction ns with
  | nil=>intro as _ _;exact .nil
  | cons x ns ih=>
   intro as hl h
   cases as with
   | nil=>cases hl
   | cons e as=>exact .cons ⟨rfl,e,rfl,h 0 x e rfl rfl⟩ (ih as (by simpa using hl) fun i x' e' h1 h2=>h (i+1) x' e' (by simpa using h1) (by simpa using h2))
 exact this names ls hl h.lists
theorem wK {names:List Str}{ls:List Addr} (nd:names.Nodup) {i:Nat}{x:Str}{e:Addr} (hx:names[i]?=some x) (he:ls[i]?=some e):bd ((names.zip ls).map fun p=>((Sum.inr p.1:Key),V.ref p.2)) (Sum.inr x)=some (.ref e):=by
 induction names generalizing ls i with
 | nil=>simp at hx
 | cons y names ih=>
  have nd:=zk.mp nd
  cases ls with
  | nil=>simp at he
  | cons a ls=>
   cases i with
   | zero=>
    have hx:y=x:=by simpa using hx
    have he:a=e:=by simpa using he
    subst hx he
    exact c7 rfl
   | succ i=>
    have hx:names[i]?=some x:=by simpa using hx
    rw[List.zip_cons_cons,yJ,bS (fun z=>nd.1 (by have z:y=x:=Sum.inr.inj z;rw[z];exact yj hx))]
    exact ih nd.2 hx (by simpa using he)
theorem iV {α β:Type}{F:α->β->Prop}:∀ {vs:List α}{ts:List β},vs.length=ts.length->(∀ (i:Nat) v t,vs[i]?=some v->ts[i]?=some t->F v t)->Paired F vs ts
 | [],[],_,_=>.nil
 | v::vs,t::ts,h,k=>.cons (k 0 v t rfl rfl) (iV (by simpa using h) fun i v' t' h1 h2=>k (i+1) v' t' (by simpa using h1) (by simpa using h2))
 | [],_::_,h,_=>by cases h
 | _::_,[],h,_=>by cases h
theorem lS (ts:List Es)(x:Str):(cy ts x).length<=ts.length:=by
 unfold cy
 rw[y6]
 exact zj _ _
noncomputable def k6 (c:Cl):Sp:=fun vs H Q _=>∃ (n dp dt:Addr)(S:NS),vs=[.ref n]/\BS c H n dp dt S/\mt (bI S)/\(∀ t∈S.BL,t.2.2.1∈S.names)/\S.BL.length<=1000/\S.BV.length<=1000/\∀ l H',f' H H'->H l=none->H' l=some (.lst ((bU (bI S) S.names.length).map V.str))->Q (.ref l) H'
noncomputable abbrev dE:Stmt:=aQ (top 29) 17
theorem E2:ai ["self","begins","number","one","other","delay","told"] ["self"] (af dE):=CG
theorem l8 {c:Cl}{f:Addr}{fd:FuncData} (F:Cu K "ordered" "Net.ordered" dE f fd) (O:Cl.Ok K c) (T:Oh mg) (Cf:Dm P w K mg base 1 c.CS "ties" ["self"] (hU c)) (Dz:Df P w K mg base 1 "first_ready" ["begins","told"] fw):BF P w K mg base Co 2 f fd ["self"] (k6 c):=by
 refine F.k E2 fun BJ A outer s H vs Q E hr h=>?_
 ·obtain⟨n,dp,dt,S,rfl,N,ac,HE,JO,QV,q⟩:=h
  have ND:=E2.nd
  obtain⟨dx,h1⟩:=id N.ins
  obtain⟨kvs,hd,hp⟩:=id N.BV
  have hl:=Paired.length hp
  have MU:S.names.length=S.BV.length:=by unfold NS.names;rw[y6]
  have WM:(bI S).map (·.1)=S.names:=by
   unfold bI
   rw[yt]
   exact (As _)
  have ID:S.names.Nodup:=by rw[<- WM];exact ac.nd
  refine⟨_,(aa (pS 1 ND (bz (bA rfl) rfl T.Dl boot_dict (a0 (fJ rfl (cS 1 [] ["name"]) (i8 (eW K (pv 0) rfl))
  (fun _ _ _ _ _=>(pC 0))
  (fun _ _ _ _ _=>aG)
  (fun _ _ _ _ _=>(bv (a0 (pv 0) (a0 (bE ab) ab))))) ab)))
 (aa (bi yS rfl (bQ K (bo (pv 0) Cf hr.m)) (dl K (n:=4) rfl (aj (pN 2 ND) (aj (pN 3 ND) (aj (pN 4 ND) (aj (pN 5 ND) aX)))))
  (ad (b8 (Oe K zt zO zN cg (pD (bc hr) (pv 1) (pv 4)) (a0 (pv 3) ab)))))
 (aa (pS 6 ND (bE ab))
 (aa (i7 yS (pT kU (aw (dJ K) rfl T.Ci boot_len (a0 (pv 6) ab)) (aw fX rfl T.Ci boot_len (a0 (pv 1) ab)))
  (ad (b8 (Oe K zt zO zN cg (pv 6) (a0 (ak Dz hr.m rfl (a0 (pv 1) (a0 (pv 6) ab))) ab)))))
 (ad (am (pv 6))))))),?_⟩
  refine⟨_,rfl,n,c.CS,dx,_,_,rfl,h1,O.cn,O.fp,rfl,dp,kvs,rfl,hd,fun o M hM=>?_⟩
  rw[su]
  refine sE a9 (by omega) (fun i kv H2 ek e2=>?_) (fun l H' ts ls h0 e' EK tl ll SQ hv=>?_)
  ·exact⟨_,rfl,(by show 0<=sizeLine;decide),fun e H3 e3 h3 he=>⟨(by show 2<=sizeLine;decide),fun t H4 e4 h4 ht=>⟨e3.trans e4,t,e,rfl,e3.free h4,h3,ht,e4 _ _ he⟩⟩⟩
  ·have nl:l≠dp:=fun z=>by rw[z,a9]at h0;cases h0
   refine⟨dp,o,kvs,hM,e' _ _ a9,?_⟩
   have eG:f' H (upd H' dp (.dK kvs)):=ce hd e'
   have zl:(S.names.zip ls).length=S.names.length:=by rw[Br];omega
   have Qt:∀ (i:Nat) kv,kvs[i]?=some kv->∃ x,S.names[i]?=some x/\kV kv.1=.str x:=fun i kv ek=>by
    obtain⟨p,ep,e1,_⟩:=Paired.at hp ek
    exact⟨p.1,by unfold NS.names;rw[ye,ep];rfl,by rw[e1];rfl⟩
   have lsN:∀ e∈ls,H' e=some (.lst [])/\upd H dp (.frz o (.dK kvs)) e=none/\e≠l:=fun e hm=>by
    obtain⟨i,hi⟩:=zB.mp hm
    have Jr:=(yb.mp hi).1
    obtain⟨_,g2,g3,g4⟩:=hv i kvs[i] ts[i] e (y8 (by omega)) (y8 (by omega)) hi
    exact⟨g2,g3,g4⟩
   have Xz:∀ e∈ls,e≠dp/\H e=none:=fun e hm=>by
    obtain⟨_,g3,_⟩:=lsN e hm
    have ne:e≠dp:=fun z=>by rw[z,a9]at g3;cases g3
    exact⟨ne,by rw[ae ne]at g3;exact g3⟩
   refine⟨l,(S.names.zip ls).map fun p=>(Sum.inr p.1,V.ref p.2),rfl,⟨ts.map V.ref,by rw[ae nl];exact EK,iV (by rw[y6,y6,zl];omega) fun i v kv2 h2 h3=>?_⟩,by rw[y6,zl];omega,fun d G1 e1 Ju NN=>?_⟩
   ·rw[ye]at h2 h3
    obtain⟨t,et,rfl⟩:=yX.mp h2
    obtain⟨⟨x,e⟩,exe,rfl⟩:=yX.mp h3
    obtain⟨hx,he⟩:=Aj.mp exe
    have Jr:=(yb.mp et).1
    obtain⟨g1,_⟩:=hv i kvs[i] t e (y8 (by omega)) et he
    obtain⟨x',DT,La⟩:=Qt i kvs[i] (y8 (by omega))
    rw[hx]at DT
    cases DT
    refine⟨t,rfl,?_⟩
    rw[ae (fun z=>by rw[z,e' _ _ a9]at g1;cases g1),g1]
    show some (HO.tup [kV kvs[i].1,V.ref e])=_
    rw[La]
    rfl
   rw[c9 _ [] (by
    rw[zc,yt]
    have:((fun x:Key×V=>x.1) ∘ fun p:Str×Addr=>((Sum.inr p.1:Key),V.ref p.2))=(fun x:Str=>(Sum.inr x:Key)) ∘ Prod.fst:=rfl
    rw[this,<- yt,List.map_fst_zip (by omega)]
    rw[yW,zV]
    exact (yW.mp ID).imp fun h z=>h (Sum.inr.inj z)),zc]at NN
   have Kc:=eG.trans e1
   have B1:Jk G1 d S.names ls (cy []):=⟨NN,fun i x e hx he=>e1 _ _ (by rw[ae (Xz e (yj he)).1];exact (lsN e (yj he)).1)⟩
   have Tn:=Kc _ _ h1
   refine⟨_,rfl,n,dx,_,rfl,Tn,rfl,n,dp,dt,S,rfl,N.mono Kc,JO,fun lt G2 e2 h2 tt=>?_⟩
   obtain⟨xs,QH,XQ⟩:=tt
   have Ja:=Paired.length XQ
   have B2:Jk G2 d S.names ls (cy []):=⟨e2 _ _ B1.dict,fun i x e hx he=>e2 _ _ (B1.lists i x e hx he)⟩
   have XA:∀ e∈ls,∃ ys,G1 e=some (.lst ys):=fun e hm=>by
    obtain⟨i,hi⟩:=zB.mp hm
    have Jr:=(yb.mp hi).1
    exact⟨_,B1.lists i S.names[i] e (y8 (by omega)) hi⟩
   have ltn:lt∉ls:=fun hm=>by
    obtain⟨ys,hy⟩:=XA lt hm
    rw[h2]at hy
    cases hy
   have Xj:∀ {a:Addr}{u:HO},G2 a=some u->(∀ ys,u≠.lst ys)->a∉ls:=fun {a u} ha hu hm=>by
    obtain⟨ys,hy⟩:=XA a hm
    rw[e2 _ _ hy]at ha
    cases ha
    exact hu ys rfl
   have Z8:d∉ls:=Xj B2.dict (fun ys z=>nomatch z)
   have PQ:∀ Gj:Hp,(∀ a u,a∉ls->G2 a=some u->Gj a=some u)->f' H Gj:=fun Gj k a u ha=>k a u (fun hm=>by rw[(Xz a hm).2]at ha;cases ha) (e2 _ _ (Kc _ _ ha))
   refine⟨lt,rfl,⟨_,B'.of QH⟩,bC (K:=K) (xs:=xs) (fun j σ Gj=>(∃ o2 o3 o4 o5,σ=[some (.ref n),some (.ref d),o2,o3,o4,o5,none])/\(∀ a u,a∉ls->G2 a=some u->Gj a=some u)/\∀ (i:Nat) x e,S.names[i]?=some x->ls[i]?=some e->Gj e=some (.lst ((cy (S.BL.take j) x).map V.str)))
    ⟨⟨_,_,_,_,rfl⟩,fun a u _ h=>h,fun i x e hx he=>B2.lists i x e hx he⟩ (fun j σ Gj _ h=>B'.of (h.2.1 _ _ ltn QH)) ?_ ?_⟩
   ·rintro j v σ Gj ex ⟨⟨o2,o3,o4,o5,rfl⟩,kj,bj⟩
    obtain⟨t,et,b,rfl,hb⟩:=Paired.at XQ ex
    have tk:S.BL.take (j+1)=S.BL.take j++[t]:=by rw[z6,et];rfl
    have hj:=(yb.mp et).1
    obtain⟨i,hi⟩:=zB.mp (HE t (yj et))
    have Jr:=(yb.mp hi).1
    obtain⟨e,he⟩:∃ e,ls[i]?=some e:=⟨_,y8 (by omega)⟩
    have Yx:=bj i _ e hi he
    refine⟨b,_,rfl,CT.of (kj _ _ (Xj hb (fun ys z=>nomatch z)) hb),rfl,_,_,rfl,_,_,rfl,_,_,rfl,_,[],rfl,rfl,?_⟩
    refine⟨_,rfl,_,rfl,d,.ref e,rfl,wK ID hi he▸CQ.k (k:=Sum.inr t.2.2.1) (kj _ _ Z8 B2.dict),.inl ⟨rfl,_,B'.of Yx⟩,_,rfl,e,_,_,rfl,rfl,Yx,?_,⟨_,_,_,_,rfl⟩,fun a u ha hu=>?_,fun i' x' e' DT NJ=>?_⟩
    ·have h3:=lS (S.BL.take j) t.2.2.1
     rw[yM]at h3
     rw[y6]
     show (cy (S.BL.take j) t.2.2.1).length<2 ^ 24
     omega
    ·rw[ae (fun z=>ha (by rw[z];exact yj he))]
     exact kj a u ha hu
    ·rw[tk,qU]
     by_cases VR:i'=i
     ·subst VR
      rw[hi]at DT
      cases DT
      rw[he]at NJ
      cases NJ
      rw[a9,if_pos rfl,yN]
      rfl
     ·have hxx:t.2.2.1≠x':=fun z=>VR (by
       have h4:=(yb.mp DT).1
       have h5:S.names[i']=S.names[i]:=by
        rw[(yb.mp DT).2,(yb.mp hi).2,z]
       exact (Bj ID).mp h5)
      have Td:e'≠e:=fun z=>VR (by
       have h4:=(yb.mp NJ).1
       have h5:ls[i']=ls[i]:=by
        rw[(yb.mp NJ).2,(yb.mp he).2,z]
       exact (Bj SQ).mp h5)
      rw[ae Td,if_neg hxx,AB]
      exact bj i' x' e' DT NJ
   ·rintro σ Gj ⟨⟨o2,o3,o4,o5,rfl⟩,kj,bj⟩
    rw[Ja,zh]at bj
    have B3:Jk Gj d S.names ls (cy S.BL):=⟨kj _ _ Z8 B2.dict,bj⟩
    have YZ:=PQ Gj kj
    refine⟨(by show 0<=sizeLine;decide),fun lo G3 e3 h3 Kq=>?_⟩
    have bsl:(bI S).length=S.names.length:=by unfold bI;rw[y6]
    refine⟨fun m σ Gk=>∃ k,(∃ o2 o3 o4 o5,σ=[some (.ref n),some (.ref d),o2,o3,o4,o5,some (.ref lo)])/\k<=S.names.length/\m=S.names.length - k/\(∀ a u,a≠lo->G3 a=some u->Gk a=some u)/\Gk lo=some (.lst ((bU (bI S) k).map V.str)),⟨_,0,⟨_,_,_,_,rfl⟩,yR _,rfl,fun a u _ h=>h,Kq⟩,?_⟩
    rintro m σ Gk ⟨k,⟨o2,o3,o4,o5,rfl⟩,hk,rfl,kk,Kr⟩
    obtain⟨on,ol⟩:=iW ac k (by omega)
    have JN:∀ {a:Addr}{u:HO},Gj a=some u->Gk a=some u:=fun {a u} ha=>kk a u (ah ha h3) (e3 _ _ ha)
    have B4:Jk Gk d S.names ls (cy S.BL):=⟨JN B3.dict,fun i x e hx he=>JN (B3.lists i x e hx he)⟩
    refine⟨_,rfl,lo,_,rfl,.inl (B'.of Kr),_,rfl,d,_,rfl,B4.dict,_,_,rfl,rfl,_,rfl,bH (fun g=>?_) (fun g=>?_)⟩
    ·have g:k<S.names.length:=by
      have:=yA g
      rw[y6,y6,zl,ol]at this
      omega
     obtain⟨x,ex,hx,hn⟩:=eI ac (ts:=bU (bI S) k) (by omega)
     refine⟨fun σ' G'=>∃ m',m'<S.names.length - k/\∃ k,(∃ o2 o3 o4 o5,σ'=[some (.ref n),some (.ref d),o2,o3,o4,o5,some (.ref lo)])/\k<=S.names.length/\m'=S.names.length - k/\(∀ a u,a≠lo->G3 a=some u->G' a=some u)/\G' lo=some (.lst ((bU (bI S) k).map V.str)),fun σ' H' h=>h,?_⟩
     refine⟨_,rfl,.inl ⟨rfl,_,B'.of Kr⟩,_,rfl,_,rfl,d,lo,bI S,bU (bI S) k,rfl,?_,Kr,ac.nd,?_,fun G' eg=>?_⟩
     ·exact B4.at (by omega)
     ·intro b hb
      unfold bI at hb
      obtain⟨y,_,rfl⟩:=yD.mp hb
      exact yV (lS _ _) JO
     ·rw[ex]
      refine⟨lo,_,_,rfl,rfl,eg _ _ Kr,?_,_,?_,k+1,⟨_,_,_,_,rfl⟩,g,rfl,fun a u ha hu=>?_,?_⟩
      ·rw[y6,ol]
       show k<2 ^ 24
       omega
      ·omega
      ·rw[ae ha]
       exact eg _ _ (kk a u ha hu)
      ·rw[a9]
       show _=some (HO.lst ((bU (bI S) k++[(bu (bI S) (bU (bI S) k)).getD ""]).map V.str))
       rw[ex,yN]
       rfl
    ·have g:k=S.names.length:=by
      have:¬ ((((bU (bI S) k).map V.str).length:Int)<_):=fun z=>g (yo z)
      rw[y6,y6,zl,ol]at this
      omega
     subst g
     exact⟨_,rfl,q lo Gk (fun a u ha=>JN (YZ a u ha)) (YZ.free h3) Kr⟩
theorem nX {bs:List (Str×List Str)}(A:mt bs):∀ k,k<=bs.length->∀ x,x∈bU bs k->x∈bs.map (·.1)
 | 0,_,x,h=>(yB h).elim
 | k+1,hk,x,h=>by
  obtain⟨y,ey,hy,_⟩:=eI A (ts:=bU bs k) (by rw[(iW A k (by omega)).2];omega)
  unfold bU at h
  rcases yF.mp h with h|h
  ·exact nX A k (by omega) x h
  ·rw[ey]at h
   have:x=y:=by simpa using h
   rw[this]
   exact hy
noncomputable abbrev Ek:=Int×Option (List Int)
noncomputable def Jj (l:Addr)(H:Hp)(m:V):Option (List Int)->Prop
 | none=>m=.non
 | some ks=>∃ q,q≠l/\m=.ref q/\H q=some (.lst (ks.map V.int))
theorem Jj.keep {l:Addr}{H H':Hp} (k:∀ a u,a≠l->H a=some u->H' a=some u) {m:V}:∀ {r:Option (List Int)},Jj l H m r->Jj l H' m r
 | none,h=>h
 | some _,⟨q,nq,e,h⟩=>⟨q,nq,e,k _ _ nq h⟩
noncomputable def EJ (l:Addr)(H:Hp)(v:V)(r:Ek):Prop:=∃ p m,p≠l/\v=.ref p/\H p=some (.tup [.int r.1,m])/\Jj l H m r.2
theorem EJ.keep {l:Addr}{H H':Hp} (k:∀ a u,a≠l->H a=some u->H' a=some u) {v:V}{r:Ek}:EJ l H v r->EJ l H' v r:=fun j'=>by obtain⟨p,m,np,e,h,hm⟩:=j';exact⟨p,m,np,e,k _ _ np h,hm.keep k⟩
noncomputable def ci (S:NS)(x:Str):Option (List Int):=if V.str x=aM S.Cb then none else some (S.into x)
noncomputable def CU (S:NS)(ns:List Str):List Ek:=ns.flatMap fun x=>(S.Dc x).map fun k=>(k,ci S x)
theorem sd (S:NS)(ns:List Str)(x:Str):CU S (ns++[x])=CU S ns++(S.Dc x).map fun k=>(k,ci S x):=by
 unfold CU
 rw[List.flatMap_append]
 simp
theorem sZ (S:NS)(x:Str):(S.Dc x).length<=S.BL.length:=by
 unfold NS.Dc
 rw[y6]
 exact zj _ _
theorem mV (S:NS)(h:S.BL.length<=1000):∀ ns:List Str,(CU S ns).length<=ns.length * 1000
 | []=>yh _
 | x::ns=>by
  have ih:=mV S h ns
  have ho:=sZ S x
  have:(CU S (x::ns)).length=(S.Dc x).length+(CU S ns).length:=by
   unfold CU
   rw[BA,yI,y6]
  rw[this,z4]
  omega
noncomputable def iE (c:Cl):Sp:=fun vs H Q _=>∃ (n dp dt:Addr)(S:NS),vs=[.ref n]/\BS c H n dp dt S/\mt (bI S)/\(∀ t∈S.BL,t.2.2.1∈S.names)/\S.BL.length<=1000/\S.BV.length<=1000/\
 ∀ l H' xs,f' H H'->H l=none->H' l=some (.lst xs)->Paired (EJ l H') xs (CU S (bU (bI S) S.names.length))->Q (.ref l) H'
noncomputable abbrev dA:Stmt:=top 50
theorem DX:ai ["net","home","told","name","mixed","number"] ["net"] (af dA):=CG
theorem kX {c:Cl}{f:Addr}{fd:FuncData} (F:Cu K "mixing_ties" "mixing_ties" dA f fd) (O:Cl.Ok K c) (Cg:Dm P w K mg base 2 c.CS "home" ["self"] (i4 c)) (DB:Dm P w K mg base 2 c.CS "ordered" ["self"] (k6 c))
  (CO:Dm P w K mg base 2 c.CS "into" ["self","name"] (fZ c NS.into)) (DI:Dm P w K mg base 2 c.CS "out_of" ["self","name"] (fZ c NS.Dc)):BF P w K mg base Co 3 f fd ["net"] (iE c):=by
 refine F.k DX fun BJ A outer s H vs Q E hr h=>?_
 ·obtain⟨n,dp,dt,S,rfl,N,ac,HE,JO,QV,q⟩:=h
  have ND:=DX.nd
  obtain⟨dx,h1⟩:=id N.ins
  have MU:S.names.length<=1000:=by unfold NS.names;rw[y6];exact QV
  have bsl:(bI S).length=S.names.length:=y6 _
  have WM:(bI S).map (·.1)=S.names:=by
   unfold bI
   rw[yt]
   exact As _
  have Qb:=(iW ac S.names.length (by omega)).2
  have Qa:∀ x∈bU (bI S) S.names.length,x∈S.names:=fun x hx=>WM▸nX ac _ (by omega) x hx
  refine⟨_,(aa (pS 1 ND (bo (pv 0) Cg hr.m))
 (aa (pS 2 ND (bE ab))
 (aa (bi yS rfl (bQ K (bo (pv 0) DB hr.m)) (pN 3 ND)
  (aa (pS 4 ND (kN (pT bP (pv 3) (pv 1)) cv (aE (pv 0) CO hr.m (a0 (pv 3) ab))))
 (ad (bi yS rfl (bQ K (aE (pv 0) DI hr.m (a0 (pv 3) ab))) (pN 5 ND)
  (ad (b8 (Oe K zt zO zN cg (pv 2) (a0 (bv (a0 (pv 5) (a0 (pv 4) ab))) ab))))))))
 (ad (am (pv 2)))))),?_⟩
  refine⟨_,rfl,n,dx,_,rfl,h1,rfl,n,dp,dt,S,rfl,N,?_⟩
  refine⟨(by show 0<=sizeLine;decide),fun l H1 e1 DU hl=>?_⟩
  refine⟨_,rfl,n,dx,_,rfl,e1 _ _ h1,rfl,n,dp,dt,S,rfl,N.mono e1,ac,HE,JO,QV,fun lo H2 e2 h2 Kq=>?_⟩
  have Jz:=e1.trans e2
  have DP:=e2 _ _ hl
  have nlo:lo≠l:=(ah hl h2).symm
  have old:∀ {a:Addr}{u:HO},H a=some u->a≠l:=fun ha=>ah ha DU
  generalize bU (bI S) S.names.length=ord at q Qb Qa Kq
  have QS:∀ x:Str,Mm (.str x) (aM S.Cb)=true:=fun x=>by
   cases S.Cb with
   | none=>rfl
   | some p=>rfl
  have ZZ:ord.length<=1000:=by omega
  refine⟨lo,rfl,⟨_,B'.of Kq⟩,bC (K:=K) (xs:=ord.map V.str) (fun i σ G=>(∃ o3 o4 o5,σ=[some (.ref n),some (aM S.Cb),some (.ref l),o3,o4,o5])/\(∀ a u,a≠l->H2 a=some u->G a=some u)/\∃ xs,G l=some (.lst xs)/\Paired (EJ l G) xs (CU S (ord.take i)))
   ⟨⟨_,_,_,rfl⟩,fun _ _ _ h=>h,[],DP,by rw[zU];exact .nil⟩ (fun i σ G _ h=>B'.of (h.2.1 _ _ nlo Kq)) ?_ ?_⟩
  ·rintro i v σ G ev ⟨⟨o3,o4,o5,rfl⟩,kG,xs,hG,pG⟩
   obtain⟨x,ex,rfl⟩:∃ m,ord[i]?=some m/\v=.str m:=by
    rw[ye]at ev
    cases hm:ord[i]? with
    | none=>rw[hm]at ev;cases ev
    | some m=>rw[hm]at ev;exact⟨m,rfl,by simpa using ev.symm⟩
   have hx:x∈S.names:=Qa x (yj ex)
   have Jr:i<ord.length:=(yb.mp ex).1
   have tk:ord.take (i+1)=ord.take i++[x]:=by rw[z6,ex];rfl
   have toG:∀ {a:Addr}{u:HO},H a=some u->G a=some u:=fun ha=>kG _ _ (old ha) (Jz _ _ ha)
   have NG:BS c G n dp dt S:=N.mono fun a u ha=>toG ha
   have rest:∀ (m:V)(H4:Hp)(D:gW),(∀ σ G',((∃ o3 o4 o5,σ=[some (.ref n),some (aM S.Cb),some (.ref l),o3,o4,o5])/\(∀ a u,a≠l->H2 a=some u->G' a=some u)/\∃ xs,G' l=some (.lst xs)/\Paired (EJ l G') xs (CU S (ord.take (i+1))))->D.nx σ G')->f' G H4->Jj l H4 m (ci S x)->
     PH (w8 K (mx c.CS "out_of" (fZ c NS.Dc) [] E0 (gq 0) (fk (gq 3) lX))) (aO 5) (Lr (Uk K "list" sV (gq 2) (fk (Lp (fk (gq 5) (fk (gq 4) lX))) lX))) D [some (.ref n),some (aM S.Cb),some (.ref l),some (.str x),some m,o5] H4:=fun m H4 D hD e4 hm=>by
    refine⟨_,rfl,n,dx,_,rfl,e4 _ _ (toG h1),rfl,_,rfl,n,dp,dt,S,x,rfl,NG.mono e4,hx,JO,fun lk H5 e5 h5 Kr=>?_⟩
    have WE:=e4.trans e5
    have nlk:lk≠l:=(ah (e4 _ _ hG) h5).symm
    refine⟨lk,rfl,⟨_,B'.of Kr⟩,bC (K:=K) (xs:=(S.Dc x).map V.int) (fun j σ G'=>(∃ o5,σ=[some (.ref n),some (aM S.Cb),some (.ref l),some (.str x),some m,o5])/\(∀ a u,a≠l->H5 a=some u->G' a=some u)/\∃ ys,G' l=some (.lst ys)/\Paired (EJ l G') ys (CU S (ord.take i)++((S.Dc x).take j).map fun k=>(k,ci S x)))
     ⟨⟨_,rfl⟩,fun _ _ _ h=>h,xs,WE _ _ hG,?_⟩ (fun j σ G' _ h=>B'.of (h.2.1 _ _ nlk Kr)) ?_ ?_⟩
    ·rw[zU,zZ,AB]
     exact Paired.Cp pG fun _ _ h=>h.keep fun a u _ ha=>WE _ _ ha
    ·rintro j v σ G' ev ⟨⟨o5',rfl⟩,SU,ys,QF,Q4⟩
     obtain⟨kk,ek,rfl⟩:∃ m,(S.Dc x)[j]?=some m/\v=.int m:=by
      rw[ye]at ev
      cases hm:(S.Dc x)[j]? with
      | none=>rw[hm]at ev;cases ev
      | some m=>rw[hm]at ev;exact⟨m,rfl,by simpa using ev.symm⟩
     have Zy:(S.Dc x).take (j+1)=(S.Dc x).take j++[kk]:=by rw[z6,ek];rfl
     refine⟨_,rfl,.inl ⟨rfl,_,B'.of QF⟩,_,rfl,_,rfl,(by show 2<=sizeLine;decide),fun p H6 e6 h6 hp=>?_⟩
     have np:p≠l:=(ah QF h6).symm
     refine⟨l,_,_,rfl,rfl,e6 _ _ QF,?_,⟨_,rfl⟩,fun a u na ha=>?_,_,a9,?_⟩
     ·have h7:=Paired.length Q4
      have h8:=mV S JO (ord.take i)
      have h9:=sZ S x
      rw[yI,y6,yM]at h7
      rw[yM]at h8
      show _<2 ^ 24
      have:min i ord.length * 1000<=1000 * 1000:=Nat.mul_le_mul_right _ (by omega)
      omega
     ·rw[ae na]
      exact e6 _ _ (SU a u na ha)
     ·rw[Zy,yN,<- An]
      refine Paired.El (Paired.Cp Q4 fun _ _ h=>h.keep fun a u na ha=>by rw[ae na];exact e6 _ _ ha) ⟨p,m,np,rfl,by rw[ae np];exact hp,hm.keep fun a u na ha=>?_⟩
      rw[ae na]
      exact e6 _ _ (SU a u na (e5 _ _ ha))
    ·rintro σ G' ⟨⟨o5',rfl⟩,SU,ys,QF,Q4⟩
     refine hD _ _ ⟨⟨_,_,_,rfl⟩,fun a u na ha=>SU a u na (WE _ _ (kG a u na ha)),ys,QF,?_⟩
     rw[tk,sd]
     rw[y6,zh]at Q4
     exact Q4
   refine⟨_,rfl,_,rfl,QS x,_,rfl,bH (fun g=>?_) (fun g=>?_)⟩
   ·have g:V.str x=aM S.Cb:=yA g
    refine rest .non G _ (fun _ _ h=>h) (f'.refl _) ?_
    unfold ci
    rw[if_pos g]
    exact rfl
   ·have g:¬ V.str x=aM S.Cb:=fun z=>g (yo z)
    refine⟨_,rfl,n,dx,_,rfl,toG h1,rfl,_,rfl,n,dp,dt,S,x,rfl,NG,hx,JO,fun li H4 e4 h4 LK=>?_⟩
    refine rest (.ref li) H4 _ (fun _ _ h=>h) e4 ?_
    unfold ci
    rw[if_neg g]
    exact⟨li,(ah hG h4).symm,rfl,LK⟩
  ·rintro σ G ⟨⟨o3,o4,o5,rfl⟩,kG,xs,hG,pG⟩
   rw[y6,zh]at pG
   exact⟨_,rfl,q l G xs (fun a u ha=>kG _ _ (old ha) (Jz _ _ ha)) DU hG pG⟩
end K51
namespace L2
open PySem PySem.Spec PyProof.Rows
section
variable {K : PySem.W.Frag}{js : List Nat}{te : TE}{σ : St}{F : Addr -> Hp -> Prop}{H : Hp}
noncomputable def E7 (H:Hp)(l:Addr)(gs:List (List V)):Prop:=∃ xs,H l=some (.lst xs)/\Paired (fun v g=>∃ b,v=.ref b/\H b=some (.tup g)) xs gs
theorem E7.snoc {H:Hp}{l b:Addr}{gs:List (List V)}{xs:List V}{g:List V} (h1:H l=some (.lst xs)) (h2:Paired (fun v g=>∃ b,v=.ref b/\H b=some (.tup g)) xs gs) (hb:H b=some (.tup g)):E7 (upd H l (.lst (xs++[.ref b]))) l (gs++[g]):=by
 have keep:∀ {b:Addr}{g:List V},H b=some (.tup g)->(upd H l (.lst (xs++[.ref b]))) b=some (.tup g):=fun {b g} hb=>by
  rw[ae (fun z=>by rw[z,h1]at hb;cases hb)];exact hb
 refine⟨_,a9,Paired.El (Paired.Cp h2 fun v g ⟨b,e,hb⟩=>⟨b,e,?_⟩) ⟨b,rfl,?_⟩⟩
 ·rw[ae (fun z=>by rw[z,h1]at hb;cases hb)];exact hb
 ·rw[ae (fun z=>by rw[z,h1]at hb;cases hb)];exact hb
theorem qL {a:Addr}{xs:List V} (gs:List (List V)) (hg:gs.length=xs.length) (ha:H a=some (.lst xs)) (hz:xs.length<=1000)
  (hs:∀ (i:Nat)(x:V) g H2,xs[i]?=some x->gs[i]?=some g->f' H H2->te (some x::bD σ js) H2 fun v H5=>(∃ b,v=.ref b/\H5 b=some (.tup g))/\f' H2 H5)
  (hd:∀ l H',H l=none->f' H H'->E7 H' l gs->F l H'):bh 1 js (aO 0) fh te σ F (Il K a) H:=by
 intro l BX
 refine⟨fun i m σ' H2=>m=xs.length - i/\i<=xs.length/\(∃ o,σ'=o::bD σ js)/\f' H H2/\E7 H2 l (gs.take i),⟨xs.length,by simp,yR _,⟨none,rfl⟩,aq (f'.refl _) BX,[],a9,by rw[zU];exact .nil⟩,?_⟩
 rintro i m σ' H2 ⟨rfl,hi,⟨o',rfl⟩,e,tl⟩
 have q:B' K H2 a xs:=B'.of (e _ _ ha)
 by_cases BU:i<xs.length
 ·refine .inr ⟨⟨xs,xs[i],q,by simp[BU]⟩,fun x H3 y=>?_⟩
  obtain⟨rfl,y⟩:=y
  have Rk:gs[i]?=some gs[i]:=y8 (by omega)
  refine⟨fun H4=>False,fun v H5=>(∃ b,v=.ref b/\H5 b=some (.tup gs[i]))/\f' H3 H5,fun H4 z=>z.elim,fun v H5 j'=>?_,hs i x _ H3 (y xs q) Rk e⟩
  obtain⟨⟨b,ev,hb⟩,e5⟩:=j'
  subst ev
  obtain⟨ys,h1,h2⟩:=tl
  have Ju:=e5 _ _ h1
  have Vh:=Paired.length h2
  rw[yM]at Vh
  refine⟨ys,Ju,by have e:sizeLine=2 ^ 24:=rfl;omega,_,?_,rfl,BU,⟨_,rfl⟩,ar (e.trans e5) BX,?_⟩
  ·omega
  ·rw[z6,Rk]
   exact E7.snoc Ju (Paired.Cp h2 fun v g j'=>(by obtain⟨b,e,hb⟩:=j';exact⟨b,e,e5 _ _ hb⟩)) hb
 ·have ei:i=xs.length:=by omega
  subst ei
  rw[<- hg,zh]at tl
  exact .inl ⟨⟨xs,q,yh _⟩,hd l H2 BX e tl⟩
end
end L2
namespace K51
open PySem L2
open PyProof.Rows (boot_list boot_int boot_bool boot_tuple boot_str boot_dict boot_all boot_sorted)
structure Oo (mg : Str -> Option Value) : Prop where
  Dl : mg "dict" = none
  E3 : mg "sorted" = none
theorem gL {α β γ δ:Type}{F:α->γ->Prop}{G:α->δ->Prop}{f:β->γ}{g:β->δ}:∀ {xs:List α}{ys:List β},Paired F xs (ys.map f)->(∀ a b,F a (f b)->G a (g b))->Paired G xs (ys.map g)
 | [],[],_,_=>.nil
 | _::_,_::_,.cons h r,k=>.cons (k _ _ h) (gL r k)
theorem sK:∀ {kvs:List (Key×V)}{k:Key},k∈kvs.map (·.1)->∃ v,bd kvs k=some v
 | [],_,h=>(yB h).elim
 | kv::kvs,k,h=>by
  by_cases e:kv.1=k
  ·exact⟨kv.2,by simp[bd,e]⟩
  ·have:k∈kvs.map (·.1):=by
    rcases yx.mp h with z|z
    ·exact absurd z.symm e
    ·exact z
   obtain⟨v,hv⟩:=sK this
   exact⟨v,by simpa [bd,e] using hv⟩
noncomputable def cU (kvs:List (Key×V))(ns:List Int):List (Key×V):=ns.map fun n=>((Sum.inl n:Key),(bd kvs (Sum.inl n)).getD .non)
noncomputable def cT:Sp:=fun vs H Q _=>∃ (d:Addr)(kvs:List (Key×V))(ns:List Int),vs=[.ref d]/\H d=some (.dK kvs)/\kvs.map (·.1)=ns.map (fun n:Int=>(Sum.inl n:Key))/\ns.Nodup/\ns.length<64/\
 ∀ e H' ER,f' H H'->H e=none->ER.Perm ns->ER.Pairwise (·<=·)->H' e=some (.dK (cU kvs ER))->Q (.ref e) H'
noncomputable abbrev fE:Stmt:=top 51
theorem EC:ai ["told"] ["told"] (af fE):=CG
theorem oj {f:Addr}{fd:FuncData} (F:Cu K "by_number" "by_number" fE f fd) (T:Oo mg):BF P w K mg base Co 1 f fd ["told"] cT:=by
 refine F.k EC fun BJ A outer s H vs Q E hr h=>?_
 ·obtain⟨d,kvs,ns,rfl,hd,KR,ID,Ib,q⟩:=h
  have ND:=EC.nd
  refine⟨_,(ad (am (bz (bA rfl) rfl T.Dl boot_dict (a0 (aV rfl (cS 1 [0] ["number","told"]) (bQ K (aw (lQ rfl) rfl T.E3 boot_sorted (a0 (pv 0) ab)))
  (fun _ _ _ _ _=>(pC 0))
  (fun _ _ _ _ _=>aG)
  (fun _ _ _ _ _=>(bv (a0 (pv 0) (a0 (pD (bc hr) (pv 1) (pv 0)) ab))))) ab)))),?_⟩
  have QI:∀ n∈ns,∃ v,bd kvs (Sum.inl n)=some v:=fun n hn=>sK (by rw[KR];exact yO hn)
  refine⟨_,rfl,d,kvs,ns,rfl,hd,KR,Ib,fun ER pm pw L H1 e1 RB hL=>?_⟩
  have nl':ER.length=ns.length:=pm.length_eq
  refine⟨L,rfl,⟨_,B'.of hL⟩,qL (ER.map fun n=>[V.int n,(bd kvs (Sum.inl n)).getD .non]) (by rw[y6,y6]) hL (by rw[y6];omega) (fun i x g H2 hx hg e2=>?_) (fun l H2 h2 e2 tl=>?_)⟩
  ·rw[ye]at hx hg
   obtain⟨n,en,rfl⟩:=yX.mp hx
   rw[en]at hg
   cases hg
   obtain⟨v,ev⟩:=QI n (pm.mem_iff.mp (yj en))
   refine⟨_,rfl,_,rfl,_,rfl,d,v,rfl,ev▸CQ.k (k:=Sum.inl n) (e2 _ _ (e1 _ _ hd)),(by show 2<=sizeLine;decide),fun b H3 e3 h3 hb=>⟨⟨b,rfl,?_⟩,e3⟩⟩
   rw[hb]
   show _=some (HO.tup [V.int n,(bd kvs (Sum.inl n)).getD .non])
   rw[ev]
   rfl
  ·obtain⟨xs,QH,hp⟩:=tl
   refine⟨l,cU kvs ER,rfl,⟨xs,QH,?_⟩,by unfold cU;rw[y6];omega,fun e H3 e3 h3 he=>?_⟩
   ·unfold cU
    exact gL hp fun v n j'=>by obtain⟨b,e,hb⟩:=j';exact⟨b,e,hb⟩
   ·rw[c9 _ [] (by
     rw[zc]
     unfold cU
     rw[yt]
     exact (yW.mpr (zV.mpr ((yW.mp (pm.nodup_iff.mpr ID)).imp fun h z=>h (Sum.inl.inj z))))),zc]at he
    exact q e H3 ER ((e1.trans e2).trans e3) ((e1.trans e2).free h3) pm pw he
end K51
namespace L2
open PySem PySem.Spec PyProof.Rows
section
variable {K : PySem.W.Frag}{js : List Nat}{te : TE}{σ : St}{F : Addr -> Hp -> Prop}{H : Hp}
theorem oF {a:Addr}{xs:List V}{ps:List (V×V)} (gs:List (List V)) (hg:gs.length=xs.length) (ha:H a=some (.lst xs)) (JT:Paired (fun x (p:V×V)=>∃ b,x=.ref b/\H b=some (.tup [p.1,p.2])) xs ps) (hz:xs.length<=1000)
  (hs:∀ (i:Nat)(p:V×V) g H2,ps[i]?=some p->gs[i]?=some g->f' H H2->te (some p.1::some p.2::bD σ js) H2 fun v H5=>(∃ b,v=.ref b/\H5 b=some (.tup g))/\f' H2 H5)
  (hd:∀ l H',H l=none->f' H H'->E7 H' l gs->F l H'):bh 2 js (mr K 2 (cm (aO 0) (cm (aO 1) ox))) fh te σ F (Il K a) H:=by
 intro l BX
 refine⟨fun i m σ' H2=>m=xs.length - i/\i<=xs.length/\(∃ o o2,σ'=o::o2::bD σ js)/\f' H H2/\E7 H2 l (gs.take i),⟨xs.length,by simp,yR _,⟨none,none,rfl⟩,aq (f'.refl _) BX,[],a9,by rw[zU];exact .nil⟩,?_⟩
 rintro i m σ' H2 ⟨rfl,hi,⟨o',o2,rfl⟩,e,tl⟩
 have q:B' K H2 a xs:=B'.of (e _ _ ha)
 by_cases BU:i<xs.length
 ·refine .inr ⟨⟨xs,xs[i],q,by simp[BU]⟩,fun x H3 y=>?_⟩
  obtain⟨rfl,y⟩:=y
  obtain⟨p,ep,b0,rfl,OY⟩:=Paired.at JT (y xs q)
  have Rk:gs[i]?=some gs[i]:=y8 (by omega)
  refine⟨b0,[p.1,p.2],rfl,CT.of (e _ _ OY),rfl,_,[p.2],rfl,_,[],rfl,rfl,?_⟩
  refine⟨fun H4=>False,fun v H5=>(∃ b,v=.ref b/\H5 b=some (.tup gs[i]))/\f' H3 H5,fun H4 z=>z.elim,fun v H5 j'=>?_,hs i p _ H3 ep Rk e⟩
  obtain⟨⟨b,ev,hb⟩,e5⟩:=j'
  subst ev
  obtain⟨ys,h1,h2⟩:=tl
  have Ju:=e5 _ _ h1
  have Vh:=Paired.length h2
  rw[yM]at Vh
  refine⟨ys,Ju,by have e:sizeLine=2 ^ 24:=rfl;omega,_,?_,rfl,BU,⟨_,_,rfl⟩,ar (e.trans e5) BX,?_⟩
  ·omega
  ·rw[z6,Rk]
   exact E7.snoc Ju (Paired.Cp h2 fun v g j'=>(by obtain⟨b,e,hb⟩:=j';exact⟨b,e,e5 _ _ hb⟩)) hb
 ·have ei:i=xs.length:=by omega
  subst ei
  rw[<- hg,zh]at tl
  exact .inl ⟨⟨xs,q,yh _⟩,hd l H2 BX e tl⟩
end
end L2
namespace K51
open PySem L2
open PyProof.Rows (boot_list boot_int boot_bool boot_tuple boot_str boot_dict boot_all boot_sorted)
structure S0 (mg : Str -> Option Value) : Prop where
  Dl : mg "dict" = none
  Ci : mg "len" = none
theorem mW {l:Addr}{H:Hp}:∀ {xs:List V}{rs:List Ek},Paired (EJ l H) xs rs->∃ ps:List (V×V),Paired (fun x (p:V×V)=>∃ b,x=.ref b/\H b=some (.tup [p.1,p.2])) xs ps/\Paired (fun (p:V×V) (r:Ek)=>p.1=.int r.1/\Jj l H p.2 r.2) ps rs
 | _,_,.nil=>⟨[],.nil,.nil⟩
 | _,_,.cons ⟨b,m,_,e,hb,hm⟩ t=>by
  obtain⟨ps,h1,h2⟩:=mW t
  exact⟨(_,m)::ps,.cons ⟨b,e,hb⟩ h1,.cons ⟨rfl,hm⟩ h2⟩
theorem du:∀ {ws:List (Int×Int)},(ws.map (·.1)).Nodup->∀ r∈ws,ws.find? (fun x=>decide (x.1=r.1))=some r
 | [],_,_,h=>(yB h).elim
 | x::ws,nd,r,h=>by
  rw[yJ,zk]at nd
  rcases yx.mp h with rfl|h
  ·rw[z5,yo rfl]
  ·have ne:¬ x.1=r.1:=fun z=>nd.1 (z▸yO h)
   rw[z5,yq ne]
   exact du nd.2 r h
theorem gY (ws:List (Int×Int))(n:Int):bd (ws.map fun r=>((Sum.inl r.1:Key),V.int r.2)) (Sum.inl n)=(ws.find? fun x=>decide (x.1=n)).map fun r=>V.int r.2:=by
 unfold bd
 induction ws with
 | nil=>rfl
 | cons x ws ih=>
  rw[yJ,z5,z5]
  by_cases h:x.1=n
  ·rw[yo h,yo (show (Sum.inl x.1:Key)=Sum.inl n by rw[h])]
   rfl
  ·rw[yq h,yq (show ¬ (Sum.inl x.1:Key)=Sum.inl n from fun z=>h (Sum.inl.inj z))]
   exact ih
theorem qA {ws:List (Int×Int)}(nd:(ws.map (·.1)).Nodup){ns:List Int}(pm:ns.Perm (ws.map (·.1))):
  ∃ ms:List (Int×Int),ms.Perm ws/\ms.map (·.1)=ns/\cU (ws.map fun r=>((Sum.inl r.1:Key),V.int r.2)) ns=ms.map fun m=>((Sum.inl m.1:Key),V.int m.2):=by
 let f:Int->Int:=fun n=>((ws.find? fun x=>decide (x.1=n)).map (·.2)).getD 0
 have hf:∀ r∈ws,f r.1=r.2:=fun r hr=>by
  show ((ws.find? fun x=>decide (x.1=r.1)).map (·.2)).getD 0=r.2
  rw[du nd r hr]
  rfl
 refine⟨ns.map fun n=>(n,f n),?_,?_,?_⟩
 ·have h1:=pm.map fun n=>(n,f n)
  rw[yt]at h1
  have h2:ws.map ((fun n=>(n,f n)) ∘ (·.1))=ws:=by
   refine (z7 (g:=id) fun r hr=>?_).trans (As _)
   show (r.1,f r.1)=r
   rw[hf r hr]
  rw[h2]at h1
  exact h1
 ·rw[yt]
  exact As _
 ·unfold cU
  rw[yt]
  refine z7 fun n hn=>?_
  obtain⟨r,hr,rfl⟩:=yD.mp (pm.mem_iff.mp hn)
  show ((Sum.inl r.1:Key),_)=((Sum.inl r.1:Key),V.int (f r.1))
  rw[gY,du nd r hr,hf r hr]
  rfl
noncomputable def wide (many:Int):Option (List Int)->Int
 | none=>many
 | some ks=>ks.length
noncomputable def wants (S:NS)(many:Int):List (Int×Int):=(CU S (bU (bI S) S.names.length)).map fun r=>(r.1,wide many r.2)
noncomputable def mD (c:Cl):Sp:=fun vs H Q _=>∃ (n dp dt:Addr)(S:NS)(many:Int),vs=[.ref n,.int many]/\BS c H n dp dt S/\mt (bI S)/\(∀ t∈S.BL,t.2.2.1∈S.names)/\S.BL.length<64/\S.BV.length<=1000/\((wants S many).map (·.1)).Nodup/\(wants S many).length<64/\
 ∀ e H' (ms:List (Int×Int)),f' H H'->H e=none->ms.Perm (wants S many)->(ms.map (·.1)).Pairwise (·<=·)->H' e=some (.dK (ms.map fun m=>((Sum.inl m.1:Key),V.int m.2)))->Q (.ref e) H'
noncomputable abbrev cD:Stmt:=top 52
theorem Du:ai ["net","many"] ["net","many"] (af cD):=CG
theorem ie {c:Cl}{f:Addr}{fd:FuncData} (F:Cu K "wanted_lengths" "wanted_lengths" cD f fd) (O:Cl.Ok K c) (T:S0 mg) (Cw:Df P w K mg base 3 "mixing_ties" ["net"] (iE c)) (Cr:Df P w K mg base 1 "by_number" ["told"] cT):BF P w K mg base Co 4 f fd ["net","many"] (mD c):=by
 refine F.k Du fun BJ A outer s H vs Q E hr h=>?_
 ·obtain⟨n,dp,dt,S,many,rfl,N,ac,HE,JO,QV,Kz,Pk,q⟩:=h
  have ND:=Du.nd
  refine⟨_,(ad (am (ak Cr hr.m rfl (a0 (bz (bA rfl) rfl T.Dl boot_dict (a0 (aV rfl (cS 2 [1] ["number","mixed","many"]) (bQ K (ak Cw hr.m rfl (a0 (pv 0) ab)))
  (fun _ _ _ _ _=>(dl K (n:=2) rfl (aj (pC 0) (aj (pC 1) aX))))
  (fun _ _ _ _ _=>aG)
  (fun _ _ _ _ _=>(bv (a0 (pv 0) (a0 (kN (pT vF (pv 1) cv) (pv 2) (aw (dJ K) rfl T.Ci boot_len (a0 (pv 1) ab))) ab))))) ab)) ab)))),?_⟩
  have Zx:S.BL.length<=1000:=by omega
  refine⟨_,rfl,n,dp,dt,S,rfl,N,ac,HE,Zx,QV,fun l H1 xs e1 h1 hl pm=>?_⟩
  obtain⟨ps,p1,p2⟩:=mW pm
  have lx:xs.length=(wants S many).length:=by unfold wants;rw[y6];exact Paired.length pm
  refine⟨l,rfl,⟨_,B'.of hl⟩,oF (ps:=ps) ((wants S many).map fun r=>[V.int r.1,V.int r.2]) (by rw[y6,lx]) hl p1 (by omega) (fun i p g H2 ep hg e2=>?_) (fun l2 H2 h2 e2 tl=>?_)⟩
  ·obtain⟨r,er,Nu,hm⟩:=Paired.at p2 ep
   unfold wants at hg
   rw[yt,ye,er]at hg
   have hg:g=[V.int r.1,V.int (wide many r.2)]:=by simpa using hg.symm
   subst hg
   obtain⟨ZX,m⟩:=p
   have Nu:ZX=.int r.1:=Nu
   subst Nu
   obtain⟨k,ro⟩:=r
   cases ro with
   | none=>
    have hm:m=.non:=hm
    subst hm
    exact⟨_,rfl,_,rfl,rfl,_,rfl,cw ⟨_,rfl,(by show 2<=sizeLine;decide),fun b H3 e3 h3 hb=>⟨⟨b,rfl,hb⟩,e3⟩⟩⟩
   | some ks=>
    obtain⟨q0,_,em,Vz⟩:=hm
    have em:m=.ref q0:=em
    subst em
    refine⟨_,rfl,_,rfl,rfl,_,rfl,ba ⟨_,rfl,q0,_,rfl,.inl (B'.of (e2 _ _ Vz)),(by show 2<=sizeLine;decide),fun b H3 e3 h3 hb=>⟨⟨b,rfl,?_⟩,e3⟩⟩⟩
    rw[hb,y6]
    rfl
  ·obtain⟨Zs,Vi,Gr⟩:=tl
   refine⟨l2,(wants S many).map fun r=>((Sum.inl r.1:Key),V.int r.2),rfl,⟨Zs,Vi,gL (g:=fun r:Int×Int=>((Sum.inl r.1:Key),V.int r.2)) Gr fun v r j'=>(by obtain⟨b,e,hb⟩:=j';exact⟨b,e,hb⟩)⟩,by rw[y6];omega,fun d H3 e3 h3 hd=>?_⟩
   rw[c9 _ [] (by
    rw[zc,yt]
    have:((fun x:Key×V=>x.1) ∘ fun r:Int×Int=>((Sum.inl r.1:Key),V.int r.2))=(fun x:Int=>(Sum.inl x:Key)) ∘ Prod.fst:=rfl
    rw[this,<- yt]
    exact yW.mpr (zV.mpr ((yW.mp Kz).imp fun h z=>h (Sum.inl.inj z)))),zc]at hd
   have Gz:=(e1.trans e2).trans e3
   refine⟨d,_,(wants S many).map (·.1),rfl,hd,by rw[yt,yt];rfl,Kz,by rw[y6];exact Pk,fun e H4 ER e4 h4 JI pw he=>?_⟩
   obtain⟨ms,m1,m2,m3⟩:=qA Kz JI
   exact q e H4 ms (Gz.trans e4) (Gz.free h4) m1 (m2▸pw) (m3▸he)
structure Om (K : PySem.W.Frag) (mg : Str -> Option Value) (C : Addr) : Prop where
  cl : F8 K C
  nP : CD K C "prime"
  Ci : mg "len" = none
  Gp : mg "all" = none
variable {C : Addr}
noncomputable def BW (C:Addr)(H:Hp)(f:Addr)(p:Int):Prop:=∃ dx,H f=some (.ins C dx [("prime",.int p)])
theorem BW.mono {H H':Hp}{f:Addr}{p:Int} (e:f' H H') (h:BW C H f p):BW C H' f p:=let ⟨dx,q⟩:=h;⟨dx,e _ _ q⟩
noncomputable def ju (p n:Int):Bool:=decide (0<=n)&&decide (n<p)
noncomputable def fb (C:Addr):Sp:=fun vs H Q _=>∃ (f:Addr)(n p:Int),vs=[.ref f,.int n]/\BW C H f p/\Q (.bl (ju p n)) H
noncomputable abbrev de:Stmt:=top 53
theorem DL:ai ["field","number"] ["field","number"] (af de):=CG
theorem jI {f:Addr}{fd:FuncData} (F:Cu K "is_number_of" "is_number_of" de f fd) (T:Om K mg C) (D3:Df P w K mg base 1 "is_whole" ["number"] fv):BF P w K mg base Co 2 f fd ["field","number"] (fb C):=by
 refine F.k DL fun BJ A outer s H vs Q E hr h=>?_
 ·obtain⟨f,n,p,rfl,⟨dx,hf⟩,q⟩:=h
  have ND:=DL.nd
  refine⟨_,(ad (am (fK (ak D3 hr.m rfl (a0 (pv 1) ab)) (fI (kO mS kU ag (pv 1) (eW K (pv 0) rfl)))))),?_⟩
  refine⟨_,rfl,n,rfl,_,rfl,cw ⟨_,rfl,_,_,rfl,rfl,_,rfl,?_⟩⟩
  unfold ju at q
  by_cases h0:0<=n
  ·rw[yo h0]
   rw[yo h0,Bool.true_and]at q
   refine cw ⟨_,rfl,f,C,dx,_,_,rfl,hf,T.cl,T.nP,rfl,_,_,rfl,rfl,q⟩
  ·rw[yq h0]
   rw[yq h0,AJ]at q
   exact ba q
noncomputable def fe (p:Int)(ns:List Int)(k:Int):Bool:=decide ((ns.length:Int)=k)&&ns.all (ju p)
noncomputable def i0 (K:PySem.W.Frag)(C:Addr):Sp:=fun vs H Q _=>∃ (f a:Addr)(ns:List Int)(k p:Int),vs=[.ref f,.ref a,.int k]/\BW C H f p/\H a=some (.lst (ns.map V.int))/\ns.length<=1000/\∀ H',f' H H'->Q (.bl (fe p ns k)) H'
noncomputable abbrev fC:Stmt:=top 54
theorem EB:ai ["field","row","length"] ["field","row","length"] (af fC):=CG
theorem og {f:Addr}{fd:FuncData} (F:Cu K "is_row_of" "is_row_of" fC f fd) (T:Om K mg C) (Dr:Df P w K mg base 2 "is_number_of" ["field","number"] (fb C)):BF P w K mg base Co 3 f fd ["field","row","length"] (i0 K C):=by
 refine F.k EB fun BJ A outer s H vs Q E hr h=>?_
 ·obtain⟨f,a,ns,k,p,rfl,hf,ha,hz,q⟩:=h
  have ND:=EB.nd
  refine⟨_,(ad (am (fK (pM bP (aw (dJ K) rfl T.Ci boot_len (a0 (pv 1) ab)) (pv 2)) (fI (aw (j7 K rfl) rfl T.Gp boot_all (a0 (aV rfl (cS 1 [0] ["number","field"]) (bQ K (pv 1))
  (fun _ _ _ _ _=>(pC 0))
  (fun _ _ _ _ _=>aG)
  (fun _ _ _ _ _=>(ak Dr hr.m rfl (a0 (pv 1) (a0 (pv 0) ab))))) ab)))))),?_⟩
  have gd:∀ i,(ns.map V.int)[i]?=some (V.int (ns.getD i 0))\/(ns.map V.int)[i]?=none:=fun i=>by
   rw[ye,yc]
   cases ns[i]? with
   | none=>exact .inr rfl
   | some m=>exact .inl rfl
  refine⟨_,rfl,a,_,rfl,.inl (B'.of ha),_,rfl,rfl,_,rfl,?_⟩
  unfold fe at q
  rw[y6]
  by_cases hk:(ns.length:Int)=k
  ·rw[yo (show V.int (ns.length:Int)=V.int k by rw[hk])]
   rw[yo hk,Bool.true_and]at q
   refine cw ⟨_,rfl,a,rfl,⟨_,B'.of ha⟩,gS (fun i=>.bl (ju p (ns.getD i 0))) ha (by rw[y6];exact hz) (fun i x H2 ex e2=>?_) (fun l H2 h2 e2 hl=>?_)⟩
   ·rcases gd i with h|h
    ·rw[h]at ex
     cases ex
     exact⟨_,rfl,_,rfl,f,_,p,rfl,hf.mono e2,rfl,f'.refl _⟩
    ·rw[h]at ex;cases ex
   ·have er:(List.range (ns.map V.int).length).map (fun i=>V.bl (ju p (ns.getD i 0)))=(ns.map (ju p)).map V.bl:=by
     rw[y6,yt]
     refine List.ext_getElem (by rw[y6,y6,zi]) fun j h1 h2=>?_
     have hj:j<ns.length:=by simpa using h2
     rw[List.getElem_map,List.getElem_map,List.getElem_range,yc,y8 hj]
     rfl
    rw[er]at hl
    refine⟨l,_,rfl,B'.of hl,?_⟩
    rw[List.all_map]
    exact q _ e2
  ·rw[yq (show ¬ V.int (ns.length:Int)=V.int k from fun z=>hk (by injection z))]
   rw[yq hk,AJ]at q
   exact ba (q _ (f'.refl _))
structure RX (K : PySem.W.Frag) (mg : Str -> Option Value) (C : Addr) : Prop where
  cl : F8 K C
  nP : CD K C "prime"
  g_G : ∃ t, mg "GREATEST_PRIME" = some (.int 1000000 t)
section
variable {P : Program}{w : World}{K : PySem.W.Frag}{mg : Str -> Option Value}{base : Heap}{C aN : Addr}
noncomputable abbrev gD:Stmt:=top 32
theorem Fb:ai ["number","divisor"] ["number"] (af gD):=CG
noncomputable def je:Sp:=fun vs H Q _=>∃ (n:Int),vs=[.int n]/\n<=100000000/\Q (.bl (My.Ee n)) H
theorem pY {f:Addr}{fd:FuncData} (F:Cu K "is_prime" "is_prime" gD f fd):BF P w K mg base Co 1 f fd ["number"] je:=by
 refine F.k Fb fun BJ A outer s H vs Q E hr h=>?_
 ·obtain⟨n,rfl,hn,q⟩:=h
  have ND:=Fb.nd
  refine⟨_,(aa (aK (pT kU (pv 0) ag)
  (ad (am bM))
  ay)
 (aa (pS 1 ND ag)
 (aa (i7 yS (pT mS (aB dG (pv 1) (pv 1)) (pv 0))
  (aa (aK (pT bP (aB bg (pv 0) (pv 1)) ag)
  (ad (am bM))
  ay)
 (ad (vp (i:=1) ND rfl (by first|exact Or.inl rfl|exact Or.inr rfl) ag w6))))
 (ad (am bM))))),?_⟩
  refine⟨_,rfl,_,_,rfl,rfl,_,rfl,?_⟩
  refine bH (fun hc=>?_) (fun hc=>?_)
  ·have hc:=yA hc
   have:My.Ee n=false:=by
    cases e:My.Ee n with
    | false=>rfl
    | true=>have:=((My.Cq n).mp e).1;omega
   rw[this]at q
   exact q
  ·have hc:=Av (Bool.not_eq_true _▸hc)
   refine⟨fun m σ H2=>∃ d:Int,σ=[some (.int n),some (.int d)]/\H2=H/\2<=d/\d<=n/\My.S8 n d/\m=(n+1 - d).toNat,⟨_,2,rfl,rfl,by omega,by omega,⟨fun e h1 h2=>by omega⟩,rfl⟩,?_⟩
   rintro m σ H2 ⟨d,rfl,rfl,h2,hdn,nd,rfl⟩
   refine⟨_,rfl,_,rfl,d,d,rfl,rfl,.inl ⟨by omega,by omega⟩,_,rfl,_,_,rfl,rfl,_,rfl,?_⟩
   refine bH (fun hd=>?_) (fun hd=>?_)
   ·have hd:=yA hd
    have a:2 * d<=d * d:=Bl h2 (by omega)
    refine⟨fun σ' H'=>σ'=[some (.int n),some (.int (d+1))]/\H'=H2/\Int.fmod n d≠0,fun σ' H' ⟨e1,e2,e3⟩=>⟨(n+1 - (d+1)).toNat,by omega,d+1,e1,e2,by omega,by omega,⟨fun e h1 h3=>?_⟩,rfl⟩,?_⟩
    ·by_cases c:e<d
     ·exact nd.is e h1 c
     ·have:e=d:=by omega
      rw[this];exact e3
    ·refine⟨_,rfl,_,rfl,n,d,rfl,rfl,(by show (0:Int)<d;omega),rfl,_,rfl,?_⟩
     have em:Int.fmod n d=n % d:=za _ (by omega)
     refine bH (fun hz=>?_) (fun hz=>?_)
     ·have hz:=yA hz
      injection hz with hz
      have:My.Ee n=false:=by
       cases e:My.Ee n with
       | false=>rfl
       | true=>exact absurd (em.trans hz) (((My.Cq n).mp e).2 d h2 hd)
      rw[this]at q
      exact q
     ·have hz:=Av (Bool.not_eq_true _▸hz)
      exact⟨_,rfl,_,_,rfl,rfl,rfl,rfl,fun z=>hz (by show V.int (n % d)=V.int 0;rw[<- em,z])⟩
   ·have hd:=Av (Bool.not_eq_true _▸hd)
    have:My.Ee n=true:=by
     rw[My.Cq]
     refine⟨by omega,fun e he Td=>nd.is e he ?_⟩
     by_cases c:e<d
     ·exact c
     ·exfalso
      have a1:d * d<=e * d:=Bl (by omega) (by omega)
      have b1:e * d<=e * e:=Bp (by omega) (by omega)
      omega
    rw[this]at q
    exact q
noncomputable abbrev rB:Stmt:=aQ (top 33) 0
theorem wZ:ai ["self","prime"] ["self","prime"] (af rB):=CG
noncomputable def jM (C:Addr):Sp:=fun vs H Q E=>∃ (x dx:Addr)(p:Int),vs=[.ref x,.int p]/\H x=some (.ins C dx [])/\p<=1000000/\My.Ee p=true/\Q .non (upd H x (.ins C dx [("prime",.int p)]))
theorem xx {f:Addr}{fd:FuncData} (F:Cu K "__init__" "Field.__init__" rB f fd) (T:RX K mg C) (Eu:Df P w K mg base 1 "is_prime" ["number"] je):BF P w K mg base Co 2 f fd ["self","prime"] (jM C):=by
 obtain⟨tk,hgG⟩:=T.g_G
 refine F.k wZ fun BJ A outer s H vs Q E hr h=>?_
 ·obtain⟨x,dx,p,rfl,hx,hp,hP,q⟩:=h
  refine⟨_,(aa (aK (PW.pt (dY (pT kW (pv 1) (eO (v:=.int 1000000) rfl hgG ⟨_,rfl⟩)) (eJ (bZ (bG (ak Eu hr.m rfl (a0 (pv 1) ab)))))))
  (ad bB)
  ay)
 (ad (iU (pv 0) (pv 1) rfl))),?_⟩
  refine⟨_,rfl,_,_,rfl,rfl,_,rfl,?_⟩
  refine bH (fun hc=>?_) (fun hc=>?_)
  ·have:=yA hc
   omega
  refine⟨_,rfl,p,rfl,by omega,_,rfl,?_⟩
  rw[hP]
  refine ba ?_
  exact⟨_,rfl,_,rfl,x,C,dx,[],rfl,hx,T.cl,T.nP,(by show 0<1000;decide),q⟩
end
end K51
namespace L2
open PySem PySem.Spec PyProof.Rows
section
variable {K : PySem.W.Frag}{js : List Nat}{te : TE}{σ : St}{F : Addr -> Hp -> Prop}{H : Hp}
theorem sC (g:Nat->List V){pr:Key×V->V}{o:Obj}{d:Addr}{kvs:List (Key×V)} (HQ:H d=some (.frz o (.dK kvs))) (hz:kvs.length<=1000)
  (hs:∀ (i:Nat)(kv:Key×V) H2,kvs[i]?=some kv->f' H H2->te (some (pr kv)::bD σ js) H2 fun v H5=>f' H2 H5/\∃ t e,v=.ref t/\H2 t=none/\H2 e=none/\H5 t=some (.tup [pr kv,.ref e])/\H5 e=some (.lst (g i)))
  (hd:∀ l H' (ts ls:List Addr),H l=none->f' H H'->H' l=some (.lst (ts.map V.ref))->ts.length=kvs.length->ls.length=kvs.length->ls.Nodup->(∀ (i:Nat) kv t e,kvs[i]?=some kv->ts[i]?=some t->ls[i]?=some e->H' t=some (.tup [pr kv,.ref e])/\H' e=some (.lst (g i))/\H e=none/\e≠l)->F l H'):bh 1 js (aO 0) fh te σ F (Lg pr o d) H:=by
 intro l BX
 refine⟨fun i m σ' H2=>m=kvs.length - i/\i<=kvs.length/\(∃ o1,σ'=o1::bD σ js)/\f' H H2/\∃ ts ls:List Addr,ts.length=i/\ls.length=i/\H2 l=some (.lst (ts.map V.ref))/\ls.Nodup/\∀ (j:Nat) kv t e,kvs[j]?=some kv->ts[j]?=some t->ls[j]?=some e->H2 t=some (.tup [pr kv,.ref e])/\H2 e=some (.lst (g j))/\H e=none/\e≠l,
  ⟨kvs.length,by simp,yR _,⟨none,rfl⟩,aq (f'.refl _) BX,[],[],rfl,rfl,a9,B8,fun j kv t e _ h=>by simp at h⟩,?_⟩
 rintro i m σ' H2 ⟨rfl,hi,⟨o1,rfl⟩,e,ts,ls,IQ,Gs,hl,nd,hp⟩
 have q:=e _ _ HQ
 by_cases BU:i<kvs.length
 ·refine .inr ⟨⟨kvs,kvs[i],q,by simp[BU]⟩,fun x H3 y=>?_⟩
  obtain⟨rfl,y⟩:=y
  obtain⟨kv,e1,rfl⟩:=y kvs q
  refine⟨fun _=>False,fun v H5=>f' H3 H5/\∃ t e,v=.ref t/\H3 t=none/\H3 e=none/\H5 t=some (.tup [pr kv,.ref e])/\H5 e=some (.lst (g i)),fun H4 p4=>p4.elim,fun v H5 j'=>?_,hs i kv H3 e1 e⟩
  obtain⟨e5,t,ea,ev,QP,Gv,ht,he⟩:=j'
  subst ev
  have SJ:t≠l:=(ah hl QP).symm
  have Qi:ea≠l:=(ah hl Gv).symm
  have GU:ea∉ls:=fun hm=>by
   obtain⟨j,hj⟩:=zB.mp hm
   have T7:=(yb.mp hj).1
   obtain⟨h1,h2,_⟩:=hp j kvs[j] ts[j] ea (y8 (by omega)) (y8 (by omega)) hj
   rw[Gv]at h2
   cases h2
  refine⟨_,e5 _ _ hl,by rw[y6,IQ];exact yP hi (yP hz (by decide)),_,?_,rfl,BU,⟨_,rfl⟩,ar (e.trans e5) BX,ts++[t],ls++[ea],by simp[IQ],by simp[Gs],by rw[a9,yN];rfl,?_,fun j V6 t' e' h1 h2 h3=>?_⟩
  ·omega
  ·rw[Am]
   exact⟨nd,by simp,fun a ha b hb=>by rw[yK.mp hb];exact fun z=>GU (z▸ha)⟩
  ·by_cases c:j<i
   ·rw[yU (by omega)]at h2
    rw[yU (by omega)]at h3
    obtain⟨g1,g2,g3,g4⟩:=hp j V6 t' e' h1 h2 h3
    refine⟨?_,?_,g3,g4⟩
    ·rw[ae (fun z=>by rw[z,hl]at g1;cases g1)];exact e5 _ _ g1
    ·rw[ae g4];exact e5 _ _ g2
   ·have hj:j=i:=by
     have:=(yb.mp h2).1
     rw[yI,IQ]at this
     simp at this
     omega
    subst hj
    rw[yT (by omega),IQ,Nat.sub_self]at h2
    rw[yT (by omega),Gs,Nat.sub_self]at h3
    have h2:t=t':=by simpa using h2
    have h3:ea=e':=by simpa using h3
    subst h2 h3
    rw[e1]at h1
    cases h1
    refine⟨by rw[ae SJ];exact ht,by rw[ae Qi];exact he,e.free Gv,Qi⟩
 ·have ei:i=kvs.length:=by omega
  subst ei
  exact .inl ⟨⟨kvs,q,yh _⟩,hd l H2 ts ls BX e hl IQ Gs nd hp⟩
end
end L2
namespace K51
open PySem L2
open PyProof.Rows (boot_list boot_int boot_bool boot_tuple boot_str boot_dict boot_all boot_sorted)
noncomputable abbrev aA:=Int×Addr×List Int
noncomputable def aI (rows:List aA):List (Key×V):=rows.map fun r=>((Sum.inl r.1:Key),V.ref r.2.1)
structure BO (H : Hp) (d : Addr) (rows : List aA) : Prop where
  dict : H d = some (.dK (aI rows))
  row : ∀ r ∈ rows, H r.2.1 = some (.lst (r.2.2.map V.int))
theorem BO.mono {H H':Hp}{d:Addr}{rows:List aA} (e:f' H H') (h:BO H d rows):BO H' d rows:=⟨e _ _ h.dict,fun r hr=>e _ _ (h.row r hr)⟩
noncomputable def aT (rows:List aA)(n:Int):Option aA:=rows.find? fun r=>decide (r.1=n)
theorem cG {rows:List aA}{n:Int}{r:aA} (h:aT rows n=some r):r∈rows/\r.1=n:=⟨zx h,yA (by have:=AA h;exact this)⟩
theorem bR (rows:List aA)(n:Int):bd (aI rows) (Sum.inl n)=(aT rows n).map fun r=>V.ref r.2.1:=by
 unfold bd aI aT
 induction rows with
 | nil=>rfl
 | cons x ws ih=>
  rw[yJ,z5,z5]
  by_cases h:x.1=n
  ·rw[yo h,yo (show (Sum.inl x.1:Key)=Sum.inl n by rw[h])]
   rfl
  ·rw[yq h,yq (show ¬ (Sum.inl x.1:Key)=Sum.inl n from fun z=>h (Sum.inl.inj z))]
   exact ih
noncomputable def lT (rows:List aA)(p:Int)(m:Int×Int):Bool:=match aT rows m.1 with
 | none=>true
 | some r=>!fe p r.2.2 m.2
noncomputable def qh (ms:List (Int×Int))(rows:List aA):List Int:=(rows.map (·.1)).filter fun n=>!decide (n∈ms.map (·.1))
noncomputable def cx (ms:List (Int×Int))(rows:List aA):List (Int×List Int):=ms.map fun m=>(m.1,((aT rows m.1).map (·.2.2)).getD [])
noncomputable def fS (ms:List (Int×Int)):List (Key×V):=ms.map fun m=>((Sum.inl m.1:Key),V.int m.2)
theorem wM (ms:List (Int×Int))(n:Int):(bd (fS ms) (Sum.inl n)).isSome=decide (n∈ms.map (·.1)):=by
 unfold fS
 rw[gY,B6]
 rw[zr,List.find?_isSome]
 simp only[B5,yD]
structure S1 (mg : Str -> Option Value) : Prop where
  Dl : mg "dict" = none
  Ci : mg "len" = none
  D9 : mg "list" = none
  Qo : mg "min" = none
structure oR (c : Cl) (H : Hp) (n d : Addr) (S : NS) (rows : List aA) (many p : Int) : Prop where
  CS : ∃ dp dt, BS c H n dp dt S
  ac : mt (bI S)
  ends : ∀ t ∈ S.BL, t.2.2.1 ∈ S.names
  tz : S.BL.length < 64
  pz : S.BV.length <= 1000
  nd : ((wants S many).map (·.1)).Nodup
  wz : (wants S many).length < 64
  GF : BO H d rows
  rz : rows.length <= 1000
  lz : ∀ r ∈ rows, r.2.2.length <= 1000
noncomputable def ke (c:Cl)(C:Addr):Sp:=fun vs H Q E=>∃ (n d:Addr)(S:NS)(rows:List aA)(many p:Int),vs=[.ref n,.ref d,.int many,.int p]/\oR c H n d S rows many p/\p<=1000000/\My.Ee p=true/\
 ∀ ms:List (Int×Int),ms.Perm (wants S many)->(ms.map (·.1)).Pairwise (·<=·)->ms.find? (lT rows p)=none/\qh ms rows=[]/\
  ∀ e H' (rs:List aA),f' H H'->H e=none->BO H' e rs->(rs.map fun r=>(r.1,r.2.2))=cx ms rows->(∀ r∈rs,H r.2.1=none)->Q (.ref e) H'
noncomputable abbrev df:Stmt:=top 55
theorem DM:ai ["net","plan","many","prime","field","lengths","number","strange"] ["net","plan","many","prime"] (af df):=CG
theorem jJ {c:Cl}{f:Addr}{fd:FuncData} (F:Cu K "checked_plan" "checked_plan" df f fd) (O:Cl.Ok K c) (T:S1 mg) (D5:Dk P w K mg base 2 "Field" C ["self","prime"] (jM C)) (D1:Df P w K mg base 4 "wanted_lengths" ["net","many"] (mD c)) (Ea:Df P w K mg base 3 "is_row_of" ["field","row","length"] (i0 K C)):BF P w K mg base Co 5 f fd ["net","plan","many","prime"] (ke c C):=by
 refine F.k DM fun BJ A outer s H vs Q E hr h=>?_
 ·obtain⟨n,d,S,rows,many,p,rfl,a,hp,hP,q2⟩:=h
  have ND:=DM.nd
  obtain⟨dp,dt,N⟩:=a.CS
  refine⟨_,(aa (pS 4 ND (dZ D5 hr.m rfl (a0 (pv 3) ab)))
 (aa (pS 5 ND (ak D1 hr.m rfl (a0 (pv 0) (a0 (pv 2) ab))))
 (aa (jO yS rfl (i8 (pv 5)) (pN 6 ND)
  (ad (aK (PW.pt (dY (iT (g8 (bc hr) (pv 6) (pv 1))) (eJ (bZ (bG (ak Ea hr.m rfl (a0 (pv 4) (a0 (pD (bc hr) (pv 1) (pv 6)) (a0 (pD (bc hr) (pv 5) (pv 6)) ab)))))))))
  (ad bB)
  ay)))
 (aa (pK (i:=7) ND rfl rfl rfl (cS 1 [5] ["number","lengths"]) (i8 (pv 1))
  (fun _ _ _ _ _=>(pC 0))
  (fun _ _ _ _ _=>(cJ (iT (g8 (bc hr) (pv 0) (pv 1)))))
  (fun _ _ _ _ _=>(pv 0)))
 (aa (aK (pT kW (aw (dJ K) rfl T.Ci boot_len (a0 (pv 7) ab)) ag)
  (ad bB)
  ay)
 (ad (am (bz (bA rfl) rfl T.Dl boot_dict (a0 (fJ rfl (cS 1 [1] ["number","plan"]) (i8 (pv 5))
  (fun _ _ _ _ _=>(pC 0))
  (fun _ _ _ _ _=>aG)
  (fun _ _ _ _ _=>(bv (a0 (pv 0) (a0 (bz (tq K) rfl T.D9 boot_list (a0 (pD (bc hr) (pv 1) (pv 0)) ab)) ab))))) ab))))))))),?_⟩
  refine⟨_,rfl,fun fx dx nx Qk Xr=>⟨fx,dx,p,rfl,a9,hp,hP,rfl,?_⟩⟩
  have e1:=ar (o:=.ins C dx [("prime",.int p)]) (ar (o:=.ins C dx []) (aq (o:=.own fx) (f'.refl H) Qk) nx) nx
  refine⟨_,rfl,_,rfl,n,dp,dt,S,many,rfl,N.mono e1,a.ac,a.ends,a.tz,a.pz,a.nd,a.wz,fun e H2 ms e2 he pm pw Yk=>?_⟩
  have VI:H2 e=some (.dK (fS ms)):=Yk
  clear Yk
  obtain⟨Xn,UO,b3⟩:=q2 ms pm pw
  have wl:ms.length<64:=by rw[pm.length_eq];exact a.wz
  have Gv:H e=none:=e1.free he
  have Jz:f' H H2:=e1.trans e2
  have ll:(fS ms).length=ms.length:=by unfold fS;rw[y6]
  have lk:∀ (i:Nat) kv,(fS ms)[i]?=some kv->∃ m,ms[i]?=some m/\kv=((Sum.inl m.1:Key),V.int m.2):=fun i kv h=>by
   unfold fS at h
   rw[ye]at h
   obtain⟨m,em,rfl⟩:=yX.mp h
   exact⟨m,em,rfl⟩
  have nd:(ms.map (·.1)).Nodup:=(pm.map _).nodup_iff.mpr a.nd
  have lv:∀ m∈ms,bd (fS ms) (Sum.inl m.1)=some (V.int m.2):=fun m hm=>by
   unfold fS
   rw[gY,du nd m hm]
   rfl
  have fld:BW C H2 fx p:=⟨dx,e2 _ _ a9⟩
  refine⟨_,rfl,e,_,rfl,VI,fun o M hM=>?_⟩
  rw[su]
  have frz:∀ {b:Addr}{u:HO}{H4:Hp},f' (upd H2 e (.frz o (.dK (fS ms)))) H4->b≠e->H2 b=some u->H4 b=some u:=fun {b u H4} e4 ne hb=>e4 _ _ (by rw[ae ne];exact hb)
  have sm:∀ {H4:Hp},f' (upd H2 e (.frz o (.dK (fS ms)))) H4->f' H H4:=fun {H4} e4 b u hb=>frz e4 (ah hb Gv) (Jz _ _ hb)
  have UQ:d≠e:=ah a.GF.dict Gv
  have nfe:fx≠e:=ah a9 he
  refine ip (kvs:=fS ms) (fun i σ H4=>(∃ ov,σ=[some (.ref n),some (.ref d),some (.int many),some (.int p),some (.ref fx),some (.ref e),ov,none])/\f' (upd H2 e (.frz o (.dK (fS ms)))) H4) ⟨⟨none,rfl⟩,f'.refl _⟩ (fun i σ H4 _ j'=>(by obtain⟨_,e4⟩:=j';exact e4 _ _ a9)) (fun i kv σ H4 ek j'=>?_) (fun σ H4 j'=>?_)
  ·obtain⟨⟨ov,es⟩,e4⟩:=j'
   subst es
   obtain⟨m,em,rfl⟩:=lk i kv ek
   have mm:=yj em
   have UG:BO H4 d rows:=⟨frz e4 UQ (Jz _ _ a.GF.dict),fun r hr=>sm e4 _ _ (a.GF.row r hr)⟩
   have bad:=ze.mp Xn m mm
   refine⟨_,rfl,_,rfl,d,_,rfl,CQ.k (k:=Sum.inl m.1) UG.dict,_,rfl,?_⟩
   rw[bR,B6]
   cases CI:aT rows m.1 with
   | none=>exact absurd (by unfold lT;rw[CI]) bad
   | some r=>
    obtain⟨rm,rk⟩:=cG CI
    have hb:lT rows p m=!fe p r.2.2 m.2:=by unfold lT;rw[CI]
    refine ba ?_
    refine⟨_,rfl,_,rfl,_,rfl,d,.ref r.2.1,rfl,?_,_,rfl,_,rfl,e,.int m.2,rfl,?_,fx,r.2.1,r.2.2,m.2,p,rfl,⟨dx,frz e4 nfe (e2 _ _ a9)⟩,UG.row r rm,a.lz r rm,fun H5 e5=>⟨_,rfl,?_⟩⟩
    ·have:=CQ.k (k:=Sum.inl m.1) UG.dict
     rw[bR,CI]at this
     exact this
    ·rw[<- lv m mm]
     exact .inl ⟨_,Sum.inl m.1,.inr ⟨o,e4 _ _ a9⟩,rfl,rfl⟩
    cases hw:fe p r.2.2 m.2 with
    | true=>exact ba ⟨⟨_,rfl⟩,e4.trans e5⟩
    | false=>exact absurd (by rw[hb,hw];rfl) bad
  ·obtain⟨⟨ov,es⟩,e4⟩:=j'
   subst es
   refine⟨e,o,_,hM,e4 _ _ a9,?_⟩
   generalize Wl:upd H4 e (.dK (fS ms))=H5
   have Jy:f' H H5:=by
    rw[<- Wl]
    exact ar (sm e4) Gv
   have T5:H5 e=some (.dK (fS ms)):=by rw[<- Wl];exact a9
   have UE:BO H5 d rows:=a.GF.mono Jy
   clear Wl
   refine⟨_,rfl,d,_,rfl,UE.dict,fun o2 M2 hM2=>?_⟩
   have En:(aI rows).length=rows.length:=by unfold aI;rw[y6]
   refine lN (keep:=fun i=>!decide ((rows.getD i (0,0,[])).1∈ms.map (·.1))) (g:=fun i=>.int (rows.getD i (0,0,[])).1) a9 (by rw[En];exact a.rz) (fun i kv H6 ek e6=>?_) (fun l H6 BX e6 hl=>?_)
   ·have hi:i<rows.length:=by rw[<- En];exact (yb.mp ek).1
    have er:rows[i]?=some rows[i]:=y8 hi
    have gd:rows.getD i (0,0,[])=rows[i]:=by rw[yc,er];rfl
    have La:kv=((Sum.inl rows[i].1:Key),V.ref rows[i].2.1):=by
     unfold aI at ek
     rw[ye,er]at ek
     exact (Option.some.inj ek).symm
    subst La
    rw[gd]
    refine⟨_,rfl,_,rfl,e,_,rfl,CQ.k (k:=Sum.inl rows[i].1) (e6 _ _ (by rw[ae UQ.symm];exact T5)),_,rfl,?_⟩
    rw[wM]
    cases hb:decide (rows[i].1∈ms.map (·.1)) with
    | true=>exact ba ⟨rfl,f'.refl _⟩
    | false=>exact cw ⟨_,rfl,rfl,rfl,f'.refl _⟩
   ·refine⟨d,o2,_,hM2,e6 _ _ a9,?_⟩
    have odd:((List.range (aI rows).length).filter fun i=>!decide ((rows.getD i (0,0,[])).1∈ms.map (·.1))).map (fun i=>V.int (rows.getD i (0,0,[])).1)=(qh ms rows).map V.int:=by
     rw[En]
     rw[dX rows (fun r=>!decide (r.1∈ms.map (·.1))) (fun r=>V.int r.1) _ _ fun i x hx=>by
      rw[yc,hx]
      exact⟨rfl,rfl⟩]
     unfold qh
     rw[List.filter_map,yt]
     rfl
    rw[odd]at hl
    have Qh:l≠d:=fun z=>by rw[z,a9]at BX;cases BX
    have Yq:H5 l=none:=by rw[ae Qh]at BX;exact BX
    generalize Wk:upd H6 d (.dK (aI rows))=H7
    have WC:f' H5 H7:=by rw[<- Wk];exact ce UE.dict e6
    have KQ:H7 l=some (.lst ((qh ms rows).map V.int)):=by rw[<- Wk,ae Qh];exact hl
    have WJ:=Jy.trans WC
    have Km:=UE.mono WC
    have Yl:=WC _ _ T5
    clear Wk
    refine⟨_,rfl,l,_,rfl,.inl (B'.of KQ),_,_,rfl,rfl,_,rfl,?_⟩
    rw[y6]
    refine bH (fun hc=>?_) (fun hc=>?_)
    ·rw[UO]at hc
     exact absurd hc (by decide)
    ·have good:∀ m∈ms,∃ r,aT rows m.1=some r:=fun m hm=>by
      have:=ze.mp Xn m hm
      unfold lT at this
      cases CI:aT rows m.1 with
      | none=>rw[CI]at this;exact absurd rfl this
      | some r=>exact⟨r,rfl⟩
     refine⟨_,rfl,e,_,rfl,Yl,fun o3 M3 hM3=>sC (fun i=>(((aT rows (ms.getD i (0,0)).1).map (·.2.2)).getD []).map V.int) a9 (by rw[ll];omega) (fun i kv H8 ek e8=>?_) (fun L H8 ts ls RB e8 hL tl lsl SQ hv=>?_)⟩
     ·obtain⟨m,em,rfl⟩:=lk i kv ek
      obtain⟨r,CI⟩:=good m (yj em)
      obtain⟨rm,rk⟩:=cG CI
      have gd:ms.getD i (0,0)=m:=by rw[yc,em];rfl
      have Xg:BO H8 d rows:=⟨e8 _ _ (by rw[ae UQ];exact Km.dict),fun r hr=>e8 _ _ (by rw[ae (ah (a.GF.row r hr) Gv)];exact Km.row r hr)⟩
      rw[gd,CI]
      refine⟨_,rfl,_,rfl,_,rfl,d,.ref r.2.1,rfl,?_,r.2.1,_,rfl,.inl (B'.of (Xg.row r rm)),fun b H9 e9 h9 hb=>⟨(by show 2<=sizeLine;decide),fun t JA Jx Tp ht=>⟨e9.trans Jx,t,b,rfl,e9.free Tp,h9,ht,Jx _ _ hb⟩⟩⟩
      have:=CQ.k (k:=Sum.inl m.1) Xg.dict
      rw[bR,CI]at this
      exact this
     ·refine⟨e,o3,_,hM3,e8 _ _ a9,?_⟩
      have nLe:L≠e:=fun z=>by rw[z,a9]at RB;cases RB
      have Pa:f' H7 (upd H8 e (.dK (fS ms))):=ce Yl e8
      have at_:∀ (i:Nat)(m:Int×Int)(t b:Addr),ms[i]?=some m->ts[i]?=some t->ls[i]?=some b->H8 t=some (.tup [.int m.1,.ref b])/\H8 b=some (.lst ((((aT rows m.1).map (·.2.2)).getD []).map V.int))/\H7 b=none/\b≠e/\t≠e:=fun i m t b h1 h2 h3=>by
       obtain⟨g1,g2,g3,g4⟩:=hv i _ t b (by unfold fS;rw[ye,h1];rfl) h2 h3
       have gd:ms.getD i (0,0)=m:=by rw[yc,h1];rfl
       rw[gd]at g2
       have Xu:b≠e:=fun z=>by rw[z,a9]at g3;cases g3
       exact⟨g1,g2,by rw[ae Xu]at g3;exact g3,Xu,fun z=>by rw[z,e8 _ _ a9]at g1;cases g1⟩
      have zf:(ms.zip ls).map Prod.fst=ms:=List.map_fst_zip (by omega)
      refine⟨L,(ms.zip ls).map fun p=>((Sum.inl p.1.1:Key),V.ref p.2),rfl,⟨ts.map V.ref,by rw[ae nLe];exact hL,iV (by rw[y6,y6,Br];omega) fun i v kv h2 h3=>?_⟩,by rw[y6,Br];omega,fun D G eG P7 hD=>?_⟩
      ·rw[ye]at h2 h3
       obtain⟨t,et,rfl⟩:=yX.mp h2
       obtain⟨⟨m,b⟩,emb,rfl⟩:=yX.mp h3
       obtain⟨Jo,DC⟩:=Aj.mp emb
       obtain⟨g1,_,_,_,g6⟩:=at_ i m t b Jo et DC
       exact⟨t,rfl,by rw[ae g6];exact g1⟩
      ·rw[c9 _ [] (by
        rw[zc,yt]
        have:((fun x:Key×V=>x.1) ∘ fun p:(Int×Int)×Addr=>((Sum.inl p.1.1:Key),V.ref p.2))=(fun x:Int=>(Sum.inl x:Key)) ∘ (fun m:Int×Int=>m.1) ∘ Prod.fst:=rfl
        rw[this,<- yt,<- yt,zf]
        exact yW.mpr (zV.mpr ((yW.mp nd).imp fun h z=>h (Sum.inl.inj z)))),zc]at hD
       have YW:∀ r∈(ms.zip ls).map (fun p=>((p.1.1,p.2,((aT rows p.1.1).map (·.2.2)).getD []):aA)),G r.2.1=some (.lst (r.2.2.map V.int))/\H r.2.1=none:=fun r hr=>by
        obtain⟨⟨m,b⟩,hmb,rfl⟩:=yD.mp hr
        obtain⟨i,hi⟩:=zB.mp hmb
        obtain⟨Jo,DC⟩:=Aj.mp hi
        have BU:=(yb.mp DC).1
        obtain⟨_,g2,g3,g5,_⟩:=at_ i m (ts[i]'(by omega)) b Jo (y8 (by omega)) DC
        exact⟨eG _ _ (by rw[ae g5];exact g2),WJ.free g3⟩
       refine b3 D G ((ms.zip ls).map fun p=>(p.1.1,p.2,((aT rows p.1.1).map (·.2.2)).getD [])) (WJ.trans (Pa.trans eG)) ((WJ.trans Pa).free P7) ⟨?_,fun r hr=>(YW r hr).1⟩ ?_ (fun r hr=>(YW r hr).2)
       ·unfold aI
        rw[yt]
        exact hD
       ·rw[yt]
        unfold cx
        have:((fun r:aA=>(r.1,r.2.2)) ∘ fun p:(Int×Int)×Addr=>((p.1.1,p.2,((aT rows p.1.1).map (·.2.2)).getD []):aA))=(fun m:Int×Int=>(m.1,((aT rows m.1).map (·.2.2)).getD [])) ∘ Prod.fst:=rfl
        rw[this,<- yt,zf]
structure Txt (K : PySem.W.Frag) (mg : Str -> Option Value) (C : Addr) : Prop where
  cl : F8 K C
  nP : CD K C "prime"
  CA : mg "range" = none
  DN : mg "zip" = none
  JM : mg "sum" = none
noncomputable def iF (C:Addr):Sp:=fun vs H Q _=>∃ (f:Addr)(n p:Int),vs=[.ref f,.int n]/\BW C H f p/\0<p/\Q (.int (n % p)) H
noncomputable abbrev vj:Stmt:=aQ (top 33) 1
theorem Mn:ai ["self","number"] ["self","number"] (af vj):=CG
theorem MP {f C:Addr}{fd:FuncData} (F:Cu K "fit" "Field.fit" vj f fd) (T:Txt K mg C):BF P w K mg base Co 1 f fd ["self","number"] (iF C):=by
 refine F.k Mn fun BJ A outer s H vs Q E hr h=>?_
 ·obtain⟨f,n,p,rfl,⟨dx,hf⟩,hp,q⟩:=h
  refine⟨_,(ad (am (aB bg (pv 1) (eW K (pv 0) rfl)))),?_⟩
  refine⟨_,rfl,_,rfl,f,C,dx,_,_,rfl,hf,T.cl,T.nP,rfl,_,_,rfl,rfl,hp,q⟩
noncomputable def Fn (p:Int)(r:List Int):Prop:=∀ a∈r,0<=a/\a<p
theorem aD {α:Type}{l:List α}{i:Nat}{x d:α} (h:l[i]?=some x):l.getD i d=x:=by
 rw[yc,h];rfl
theorem sO:∀ (xs ys:List Int),((List.range (min xs.length ys.length)).map fun i=>xs.getD i 0 * ys.getD i 0).sum=Mx.dot xs ys
 | [],_=>by simp[Mx.dot]
 | _::_,[]=>by simp[Mx.dot]
 | a::x,b::y=>by
  rw[show min (a::x).length (b::y).length=min x.length y.length+1 by simp only[z4];omega,List.range_succ_eq_map,yJ,yt,List.sum_cons]
  show a * b+((List.range (min x.length y.length)).map ((fun i=>(a::x).getD i 0 * (b::y).getD i 0) ∘ Nat.succ)).sum=a * b+Mx.dot x y
  rw[<- sO x y]
  rfl
noncomputable def gu (C:Addr):Sp:=fun vs H Q _=>∃ (f:Addr)(x y:V)(p:Int)(xs ys:List Int),vs=[.ref f,x,y]/\BW C H f p/\0<p/\p<=1000000/\Rw H x xs/\Rw H y ys/\Fn p xs/\xs.length<=1000/\
 ∀ H',f' H H'->Q (.int (Mx.FA p xs ys)) H'
noncomputable abbrev iK:Stmt:=top 35
theorem rq:ai ["field","one","other"] ["field","one","other"] (af iK):=CG
theorem rT {f C:Addr}{fd:FuncData} (F:Cu K "row_sum" "row_sum" iK f fd) (T:Txt K mg C) (BP:Dm P w K mg base 1 C "fit" ["self","number"] (iF C)):
  BF P w K mg base Co 3 f fd ["field","one","other"] (gu C):=by
 refine F.k rq fun BJ A outer s H vs Q E hr h=>?_
 ·obtain⟨f,x,y,p,xs,ys,rfl,hf,hp,Gr,⟨a,rfl,ha⟩,⟨b,rfl,hb⟩,hx,hz,q⟩:=h
  obtain⟨dx,hfd⟩:=id hf
  refine⟨_,(ad (am (aE (pv 0) BP hr.m (a0 (aw (sumK K rfl) rfl T.JM qT (a0 (aV rfl (cS 2 [] ["mine","theirs"]) (pQ K rfl T.DN (a0 (pv 1) (a0 (pv 2) ab)))
  (fun _ _ _ _ _=>(dl K (n:=2) rfl (aj (pC 0) (aj (pC 1) aX))))
  (fun _ _ _ _ _=>aG)
  (fun _ _ _ _ _=>(aB dG (pv 0) (pv 1)))) ab)) ab)))),?_⟩
  refine⟨_,rfl,f,dx,_,rfl,hfd,rfl,_,rfl,_,rfl,a,b,rfl,⟨_,B'.of ha⟩,⟨_,B'.of hb⟩,gf (fun i=>xs.getD i 0 * ys.getD i 0) ha hb (by rw[y6];omega) (fun i x y T' H2 ex ey e hT=>?_) (fun l H' h0 e hl=>?_)⟩
  ·obtain⟨u,eu,rfl⟩:=bJ ex
   obtain⟨v,ev,rfl⟩:=bJ ey
   have hu:=hx u (yj eu)
   exact⟨_,rfl,_,rfl,_,_,rfl,rfl,.inl ⟨by omega,by omega⟩,by rw[aD eu,aD ev],aq (f'.refl _) hT⟩
  ·refine⟨l,_,rfl,B'.of hl,f,_,p,rfl,hf.mono e,hp,?_⟩
   rw[y6,y6,sO,<- Mx.Ed]
   exact q H' e
noncomputable def Sd (H:Hp)(k:Int)(v:V)(n:Int):Prop:=∃ d kvs,v=.ref d/\H d=some (.dK kvs)/\bd kvs (Sum.inl k)=some (.int n)
noncomputable def mI:Sp:=fun vs H Q _=>∃ (a:Addr)(xs:List V)(k:Int)(ns:List Int),vs=[.ref a,.int k]/\H a=some (.lst xs)/\xs.length<=1000/\Paired (Sd H k) xs ns/\
 ∀ l H',f' H H'->H l=none->H' l=some (.lst (ns.map V.int))->Q (.ref l) H'
noncomputable abbrev kD:Stmt:=top 36
theorem ub:ai ["table","place"] ["table","place"] (af kD):=CG
theorem uB {f:Addr}{fd:FuncData} (F:Cu K "column" "column" kD f fd):BF P w K mg base Co 1 f fd ["table","place"] mI:=by
 refine F.k ub fun BJ A outer s H vs Q E hr h=>?_
 ·obtain⟨a,xs,k,ns,rfl,ha,hz,hp,q⟩:=h
  have hl:=Paired.length hp
  refine⟨_,(ad (am (aV rfl (cS 1 [1] ["row","place"]) (bQ K (pv 0))
  (fun _ _ _ _ _=>(pC 0))
  (fun _ _ _ _ _=>aG)
  (fun _ _ _ _ _=>(pD (bc hr) (pv 0) (pv 1)))))),?_⟩
  refine⟨_,rfl,a,rfl,⟨_,B'.of ha⟩,eY (fun i=>ns.getD i 0) ha hz (fun i x H2 ex e=>?_) (fun l H' h0 e EK=>q l H' e h0 ?_)⟩
  ·obtain⟨n,en,d,kvs,rfl,hd,hv⟩:=Paired.at hp ex
   refine⟨_,rfl,_,rfl,d,.int n,rfl,hv▸CQ.k (k:=Sum.inl k) (e _ _ hd),?_,f'.refl _⟩
   rw[aD en]
  ·rw[EK,hl]
   congr 3
   apply zq
   intro i
   rw[ye]
   by_cases h:i<ns.length
   ·rw[z8 h,y8 h]
    show some (ns.getD i 0)=some ns[i]
    rw[aD (y8 h)]
   ·rw[yp (by simpa using h),yp (by omega)]
    rfl
noncomputable abbrev gB:Stmt:=top 37
theorem p9:ai ["many","own"] ["many","own"] (af gB):=CG
noncomputable def fu:Sp:=fun vs H Q _=>∃ (n i:Nat),vs=[.int (n:Int),.int (i:Int)]/\n<=1000/\∀ l H',f' H H'->H l=none->H' l=some (.lst ((Mx.BG n i).map V.int))->Q (.ref l) H'
theorem pW {f C:Addr}{fd:FuncData} (F:Cu K "ones_row" "ones_row" gB f fd) (T:Txt K mg C):BF P w K mg base Co 1 f fd ["many","own"] fu:=by
 refine F.k p9 fun BJ A outer s H vs Q E hr h=>?_
 ·obtain⟨n,i,rfl,hn,q⟩:=h
  refine⟨_,(ad (am (aV rfl (cS 1 [1] ["place","own"]) (cf rfl T.CA (a0 (pv 0) ab))
  (fun _ _ _ _ _=>(pC 0))
  (fun _ _ _ _ _=>aG)
  (fun _ _ _ _ _=>(kN (pT bP (pv 0) (pv 1)) ag ag))))),?_⟩
  refine⟨_,rfl,_,rfl,by omega,by omega,?_⟩
  rw[yZ]
  refine jC (n:=n) (fun j=>if j=i then 1 else 0) hn (fun j H2 hj e=>?_) (fun l H' h0 e hl=>q l H' e h0 hl)
  refine⟨_,rfl,_,rfl,rfl,_,rfl,?_⟩
  refine bH (fun hc=>?_) (fun hc=>?_)
  ·have hc:=yA hc
   injection hc with hc
   have c:j=i:=by omega
   exact⟨by rw[if_pos c],f'.refl _⟩
  ·have hc:=Av (Bool.not_eq_true _▸hc)
   have c:¬ j=i:=fun z=>hc (by rw[z,AM])
   exact⟨by rw[if_neg c],f'.refl _⟩
noncomputable abbrev rA:Stmt:=top 38
theorem wY:ai ["many"] ["many"] (af rA):=CG
noncomputable def nF:Sp:=fun vs H Q _=>∃ (n:Nat),vs=[.int (n:Int)]/\n<=1000/\∀ l H',f' H H'->Le H H' l (Mx.ones n)->Q (.ref l) H'
theorem xw {f C:Addr}{fd:FuncData} (F:Cu K "ones" "ones" rA f fd) (T:Txt K mg C) (D2:Df P w K mg base 1 "ones_row" ["many","own"] fu):BF P w K mg base Co 2 f fd ["many"] nF:=by
 refine F.k wY fun BJ A outer s H vs Q E hr h=>?_
 ·obtain⟨n,rfl,hn,q⟩:=h
  refine⟨_,(ad (am (aV rfl (cS 1 [0] ["own","many"]) (cf rfl T.CA (a0 (pv 0) ab))
  (fun _ _ _ _ _=>(pC 0))
  (fun _ _ _ _ _=>aG)
  (fun _ _ _ _ _=>(ak D2 hr.m rfl (a0 (pv 1) (a0 (pv 0) ab))))))),?_⟩
  refine⟨_,rfl,_,rfl,by omega,by omega,?_⟩
  rw[yZ]
  refine qM (n:=n) (fun j=>Mx.BG n j) hn (fun j H2 hj e=>?_) (fun l H' hN e=>q l H' e hN)
  refine⟨_,rfl,_,rfl,n,j,?_,hn,fun l H5 e5 h0 hl=>⟨⟨l,rfl,h0,hl⟩,e5⟩⟩
  rw[AM]
  rfl
noncomputable abbrev Cs:=List (Int×Int)
noncomputable def GY (cs:Cs):List (Key×V):=cs.map fun r=>((Sum.inl r.1:Key),V.int r.2)
noncomputable def bw (cs:Cs)(k:Int):Option Int:=(cs.find? fun x=>decide (x.1=k)).map (·.2)
theorem r6 (cs:Cs)(k:Int):bd (GY cs) (Sum.inl k)=(bw cs k).map V.int:=by
 unfold GY bw
 rw[gY,Option.map_map]
 rfl
noncomputable def inc (msg:List Int)(cs:Cs):Option (List Int)->List Int
 | none=>msg
 | some ks=>ks.map fun k=>(bw cs k).getD 0
noncomputable def HL (H:Hp)(m:V):Option (List Int)->Prop
 | none=>m=.non
 | some ks=>Rw H m ks
theorem HL.mono {H H':Hp}(e:f' H H'){m:V}:∀ {r:Option (List Int)},HL H m r->HL H' m r
 | none,h=>h
 | some _,h=>Rw.mono e h
noncomputable def iG:Sp:=fun vs H Q _=>∃ (m x:V)(d:Addr)(cs:Cs)(msg:List Int)(mo:Option (List Int)),vs=[m,x,.ref d]/\Rw H m msg/\HL H x mo/\H d=some (.dK (GY cs))/\(∀ ks,mo=some ks->ks.length<=1000/\∀ k∈ks,∃ n,bw cs k=some n)/\
 ∀ v H',f' H H'->Rw H' v (inc msg cs mo)->Q v H'
noncomputable abbrev fD:Stmt:=top 56
theorem nK:ai ["message","mixed","carries"] ["message","mixed","carries"] (af fD):=CG
theorem oh {f:Addr}{fd:FuncData} (F:Cu K "coming_in" "coming_in" fD f fd):BF P w K mg base Co 1 f fd ["message","mixed","carries"] iG:=by
 refine F.k nK fun BJ A outer s H vs Q E hr h=>?_
 ·obtain⟨m,x,d,cs,msg,mo,rfl,hm,hx,hd,hk,q⟩:=h
  refine⟨_,(aa (aK (pT vF (pv 1) cv)
  (ad (am (pv 0)))
  ay)
 (ad (am (aV rfl (cS 1 [2] ["number","carries"]) (bQ K (pv 1))
  (fun _ _ _ _ _=>(pC 0))
  (fun _ _ _ _ _=>aG)
  (fun _ _ _ _ _=>(pD (bc hr) (pv 1) (pv 0))))))),?_⟩
  cases mo with
  | none=>
   have hx:x=.non:=hx
   subst hx
   exact⟨_,rfl,rfl,_,rfl,cw ⟨_,rfl,q m H (f'.refl _) hm⟩⟩
  | some ks=>
   obtain⟨a,rfl,ha⟩:=hx
   obtain⟨hz,hk⟩:=hk ks rfl
   refine⟨_,rfl,rfl,_,rfl,ba ⟨_,rfl,a,rfl,⟨_,B'.of ha⟩,eY (fun i=>(bw cs (ks.getD i 0)).getD 0) ha (by rw[y6];exact hz) (fun i x H2 ex e=>?_) (fun l H' h0 e EK=>q _ H' e ⟨l,rfl,?_⟩)⟩⟩
   ·obtain⟨k,ek,rfl⟩:=bJ ex
    obtain⟨n,hn⟩:=hk k (yj ek)
    have hv:=r6 cs k
    rw[hn,Az]at hv
    refine⟨_,rfl,_,rfl,d,.int n,rfl,hv▸CQ.k (k:=Sum.inl k) (e _ _ hd),?_,f'.refl _⟩
    rw[aD ek,hn]
    rfl
   ·rw[EK,y6]
    congr 3
    unfold inc
    apply zq
    intro i
    rw[ye,ye]
    by_cases h:i<ks.length
    ·rw[z8 h,y8 h]
     show some ((bw cs (ks.getD i 0)).getD 0)=some ((bw cs ks[i]).getD 0)
     rw[aD (y8 h)]
    ·rw[yp (by simpa using h),yp (by omega)]
     rfl
theorem fU (x:Int):∀ zs:List Int,Jl (.int x) (zs.map V.int)=decide (x∈zs)
 | []=>by simp[Jl]
 | z::zs=>by
  have ih:=fU x zs
  unfold Jl at ih ⊢
  rw[yJ,AE,ih]
  by_cases h:x=z
  ·subst h
   have:IX (V.int x) (V.int x)=true:=by show decide _=true;simp
   rw[this]
   simp
  ·have:IX (V.int z) (V.int x)=false:=by show decide _=false;simp[Ne.symm h]
   rw[this]
   simp[h]
theorem gc (zs:List Int):(zs.map V.int).all ff=true:=by
 rw[List.all_map,zF]
 intro z _
 rfl
noncomputable def gj (fo:Option (List Int))(k:Int):Bool:=match fo with
 | none=>false
 | some ks=>decide (k∈ks)
noncomputable def bx (rows:List aA)(k:Int):List Int:=((aT rows k).map (·.2.2)).getD []
noncomputable def cC (p:Int)(rows:List aA)(msg:List Int)(fo:Option (List Int))(cs:Cs)(m:Ek):Int:=if gj fo m.1 then 0 else Mx.FA p (bx rows m.1) (inc msg cs m.2)
noncomputable def aU (p:Int)(rows:List aA)(msg:List Int)(fo:Option (List Int)):List Ek->Cs->Cs
 | [],cs=>cs
 | m::ms,cs=>aU p rows msg fo ms (cs++[(m.1,cC p rows msg fo cs m)])
theorem gR (p:Int)(rows:List aA)(msg:List Int)(fo:Option (List Int))(m:Ek):∀ (ms:List Ek)(cs:Cs),aU p rows msg fo (ms++[m]) cs=aU p rows msg fo ms cs++[(m.1,cC p rows msg fo (aU p rows msg fo ms cs) m)]
 | [],_=>rfl
 | _::ms,_=>gR p rows msg fo m ms _
theorem dq (p:Int)(rows:List aA)(msg:List Int)(fo:Option (List Int)):∀ (ms:List Ek)(cs:Cs),(aU p rows msg fo ms cs).map (·.1)=cs.map (·.1)++ms.map (·.1)
 | [],cs=>(AB _).symm
 | m::ms,cs=>by
  unfold aU
  rw[dq p rows msg fo ms,yN,An]
  rfl
theorem gN {cs:Cs}{k:Int} (h:k∈cs.map (·.1)):∃ n,bw cs k=some n:=by
 obtain⟨r,hr,e⟩:=yD.mp h
 unfold bw
 cases hf:cs.find? fun x=>decide (x.1=k) with
 | none=>exact absurd (yo e) (ze.mp hf r hr)
 | some x=>exact⟨x.2,rfl⟩
theorem eR {cs:Cs}{k:Int} (h:¬ k∈cs.map (·.1)):bw cs k=none:=by
 unfold bw
 have:(cs.find? fun x=>decide (x.1=k))=none:=ze.mpr fun x hx z=>h (yA z▸yO hx)
 rw[this]
 rfl
structure v4 (ms : List Ek) : Prop where
  nd : (ms.map (·.1)).Nodup
  ahead : ∀ (i : Nat) m ks, ms[i]? = some m -> m.2 = some ks -> ks.length <= 1000 /\ ∀ k ∈ ks, k ∈ (ms.take i).map (·.1)
noncomputable def HM (H:Hp)(v:V)(r:Ek):Prop:=∃ p m,v=.ref p/\H p=some (.tup [.int r.1,m])/\HL H m r.2
theorem HM.mono {H H':Hp}(e:f' H H'){v:V}{r:Ek}:HM H v r->HM H' v r:=fun j'=>by obtain⟨p,m,a,b,c⟩:=j';exact⟨p,m,a,e _ _ b,c.mono e⟩
structure Se (C : Addr) (H : Hp) (f a d : Addr) (m x : V) (p : Int) (ms : List Ek) (rows : List aA) (msg : List Int) (fo : Option (List Int)) : Prop where
  field : BW C H f p
  p0 : 0 < p
  p1 : p <= 1000000
  mix : ∃ xs, H a = some (.lst xs) /\ Paired (HM H) xs ms
  fits : v4 ms
  EM : ms.length < 64
  GF : BO H d rows
  has : ∀ r ∈ ms, ∃ y, aT rows r.1 = some y /\ Fn p y.2.2 /\ y.2.2.length <= 1000
  msg : Rw H m msg
  P' : HL H x fo
  KY : ∀ ks, fo = some ks -> ks.length <= 1000
noncomputable def sP (C:Addr):Sp:=fun vs H Q _=>∃ (f a d:Addr)(m x:V)(p:Int)(ms:List Ek)(rows:List aA)(msg:List Int)(fo:Option (List Int)),vs=[.ref f,.ref a,.ref d,m,x]/\Se C H f a d m x p ms rows msg fo/\
 ∀ e H' cs,f' H H'->H e=none->cs.Perm (aU p rows msg fo ms [])->(cs.map (·.1)).Pairwise (·<=·)->H' e=some (.dK (GY cs))->Q (.ref e) H'
noncomputable abbrev rC:Stmt:=top 57
theorem Iw:ai ["field","mixing","plan","message","fallen","carries","number","mixed"] ["field","mixing","plan","message","fallen"] (af rC):=CG
theorem xy {f:Addr}{fd:FuncData} (F:Cu K "flow" "flow" rC f fd) (F2:Df P w K mg base 3 "row_sum" ["field","one","other"] (gu C)) (Eb:Df P w K mg base 1 "coming_in" ["message","mixed","carries"] iG) (Cr:Df P w K mg base 1 "by_number" ["told"] cT):BF P w K mg base Co 4 f fd ["field","mixing","plan","message","fallen"] (sP C):=by
 refine F.k Iw fun BJ A outer s H vs Q E hr h=>?_
 ·obtain⟨f,a,d,m,x,p,ms,rows,msg,fo,rfl,h,q⟩:=h
  have ND:=Iw.nd
  refine⟨_,(aa (pS 5 ND ee)
 (aa (bi yS rfl (bQ K (pv 1)) (dl K (n:=2) rfl (aj (pN 6 ND) (aj (pN 7 ND) aX)))
  (ad (dk (PW.pt (gK (pT ia (pv 4) cv) (eM (pT (XH K) (pv 6) (pv 4) (by with_unfolding_all rfl)))))
  (ad (dw (bc hr) (pv 5) (pv 6) ag rfl))
  (ad (dw (bc hr) (pv 5) (pv 6) (ak F2 hr.m rfl (a0 (pv 0) (a0 (pD (bc hr) (pv 2) (pv 6)) (a0 (ak Eb hr.m rfl (a0 (pv 3) (a0 (pv 7) (a0 (pv 5) ab)))) ab)))) rfl)))))
 (ad (am (ak Cr hr.m rfl (a0 (pv 5) ab)))))),?_⟩
  obtain⟨xs,ha,hp⟩:=h.mix
  have Ja:=Paired.length hp
  intro e0 Gv
  have s0:f' H (upd H e0 (.dK [])):=aq (f'.refl _) Gv
  refine⟨_,rfl,a,rfl,⟨_,B'.of (s0 _ _ ha)⟩,bC (K:=K) (xs:=xs) (fun i σ G=>(∃ o6 o7,σ=[some (.ref f),some (.ref a),some (.ref d),some m,some x,some (.ref e0),o6,o7])/\f' H G/\G e0=some (.dK (GY (aU p rows msg fo (ms.take i) [])))) ⟨⟨_,_,rfl⟩,s0,a9⟩ (fun i σ G _ h=>B'.of (h.2.1 _ _ ha)) ?_ ?_⟩
  ·rintro i v σ G ev ⟨⟨o6,o7,rfl⟩,eG,hG⟩
   obtain⟨r,er,tp,mv,rfl,Kp,hmv⟩:=Paired.at hp ev
   refine⟨tp,_,rfl,CT.of (eG _ _ Kp),rfl,_,_,rfl,_,[],rfl,rfl,?_⟩
   have tk:ms.take (i+1)=ms.take i++[r]:=by rw[z6,er];rfl
   have Jr:i<ms.length:=(yb.mp er).1
   have ck:=dq p rows msg fo (ms.take i) []
   have fr:¬ r.1∈(aU p rows msg fo (ms.take i) []).map (·.1):=fun z=>by
    rw[ck,zZ,zc]at z
    have nd:=h.fits.nd
    rw[<- Bd i ms,yN]at nd
    have:r∈ms.drop i:=by
     rw[zI Jr]
     have:ms[i]=r:=by rw[y8 Jr]at er;exact Option.some.inj er
     rw[this]
     exact yw
    exact (Am.mp nd).2.2 _ z _ (yO this) rfl
   have step:∀ (n:Int)(G':Hp),f' H G'->G' e0=some (.dK (GY (aU p rows msg fo (ms.take i) [])))->n=cC p rows msg fo (aU p rows msg fo (ms.take i) []) r->∀ o6 o7,
     (∃ o6' UJ,([some (.ref f),some (.ref a),some (.ref d),some m,some x,some (.ref e0),o6,o7]:St)=[some (.ref f),some (.ref a),some (.ref d),some m,some x,some (.ref e0),o6',UJ])/\f' H (upd G' e0 (.dK (cM (GY (aU p rows msg fo (ms.take i) [])) (Sum.inl r.1) (.int n))))/\(upd G' e0 (.dK (cM (GY (aU p rows msg fo (ms.take i) [])) (Sum.inl r.1) (.int n)))) e0=some (.dK (GY (aU p rows msg fo (ms.take (i+1)) []))):=fun n G' e' h' en o6 o7=>by
    refine⟨⟨_,_,rfl⟩,ar e' Gv,?_⟩
    rw[a9,tk,gR,dj _ (by rw[r6,eR fr];rfl),en]
    unfold GY
    rw[yN]
    rfl
   have small:(GY (aU p rows msg fo (ms.take i) [])).length<2 ^ 24:=by
    have:(GY (aU p rows msg fo (ms.take i) [])).length=(ms.take i).length:=by
     unfold GY
     rw[y6,<- y6 (f:=(·.1)),ck,zZ,zc,y6]
    have h1:=h.EM
    rw[this,yM]
    omega
   have mixed:gj fo r.1=false->∀ (D:gW),(∀ σ G',((∃ o6 o7,σ=[some (.ref f),some (.ref a),some (.ref d),some m,some x,some (.ref e0),o6,o7])/\f' H G'/\G' e0=some (.dK (GY (aU p rows msg fo (ms.take (i+1)) []))))->D.nx σ G')->
     Ls (gq 5) (gq 6) (oX (gu C) [] E0 (fk (gq 0) (fk (vd (gq 2) (gq 6)) (fk (oX iG [] E0 (fk (gq 3) (fk (gq 7) (fk (gq 5) lX)))) lX)))) D [some (.ref f),some (.ref a),some (.ref d),some m,some x,some (.ref e0),some (.int r.1),some mv] G:=fun hf D hD=>by
    obtain⟨y,hy,Zp,yz⟩:=h.has r (yj er)
    have pl:=h.GF.mono eG
    have ym:=(cG hy).1
    have vy:=bR rows r.1
    rw[hy,Az]at vy
    refine⟨_,rfl,_,rfl,_,rfl,d,_,rfl,vy▸CQ.k (k:=Sum.inl r.1) pl.dict,_,rfl,_,rfl,_,rfl,m,mv,e0,_,msg,r.2,rfl,h.msg.mono eG,hmv.mono eG,hG,fun ks ek=>?_,fun v H3 e3 hv=>?_⟩
    ·obtain⟨kz,LC⟩:=h.fits.ahead i r ks er ek
     exact⟨kz,fun k hk=>gN (by rw[ck,zZ,zc];exact LC k hk)⟩
    ·refine⟨f,_,v,p,y.2.2,_,rfl,(h.field.mono eG).mono e3,h.p0,h.p1,⟨_,rfl,e3 _ _ (pl.row y ym)⟩,hv,Zp,yz,fun H4 e4=>?_⟩
     refine⟨_,rfl,_,rfl,e0,_,rfl,F7.k (k:=Sum.inl r.1) (e4 _ _ (e3 _ _ hG)) small,?_⟩
     refine hD _ _ (step _ H4 ((eG.trans e3).trans e4) (e4 _ _ (e3 _ _ hG)) ?_ _ _)
     unfold cC bx
     rw[hf,hy]
     rfl
   refine⟨_,fun σ' H' h=>h,?_⟩
   cases fo with
   | none=>
    have hx:x=.non:=h.P'
    subst hx
    exact⟨_,rfl,rfl,_,rfl,ba (mixed rfl _ fun _ _ z=>z)⟩
   | some ks=>
    obtain⟨q0,rfl,Vz⟩:=id h.P'
    refine⟨_,rfl,rfl,_,rfl,cw ⟨_,rfl,_,rfl,q0,_,rfl,.inl (B'.of (eG _ _ Vz)),rfl,gc ks,_,rfl,?_⟩⟩
    rw[if_neg (by decide),fU]
    cases hd:decide (r.1∈ks) with
    | true=>
     refine cw ⟨_,rfl,_,rfl,e0,_,rfl,F7.k (k:=Sum.inl r.1) hG small,step _ G eG hG ?_ _ _⟩
     unfold cC
     rw[show gj (some ks) r.1=true from hd,if_pos rfl]
    | false=>exact ba (mixed hd _ fun _ _ z=>z)
  ·rintro σ G ⟨⟨o6,o7,rfl⟩,eG,hG⟩
   rw[Ja,zh]at hG
   have ck:=dq p rows msg fo ms []
   rw[zZ,zc]at ck
   have nd:((aU p rows msg fo ms []).map (·.1)).Nodup:=ck▸h.fits.nd
   refine⟨_,rfl,e0,_,(aU p rows msg fo ms []).map (·.1),rfl,hG,by unfold GY;rw[yt,yt];rfl,nd,by rw[ck,y6];exact h.EM,fun e H' ER e' h' pm pw he=>?_⟩
   obtain⟨cs,c1,c2,c3⟩:=qA nd pm
   exact q e H' cs (eG.trans e') (eG.free h') c1 (c2▸pw) (by rw[he];unfold GY;rw[c3])
end K51
namespace L2
open PySem PySem.Spec PyProof.Rows
section
variable {K : PySem.W.Frag}{js : List Nat}{te : TE}{σ : St}{F : Addr -> Hp -> Prop}{H : Hp}
theorem qN {a:Addr}{xs:List V}{ps:List (V×V)} (R:Nat->Hp->V->Prop) (mono:∀ i H H' v,f' H H'->R i H v->R i H' v) (ha:H a=some (.lst xs)) (JT:Paired (fun x (p:V×V)=>∃ b,x=.ref b/\H b=some (.tup [p.1,p.2])) xs ps) (hz:xs.length<=1000)
  (hs:∀ (i:Nat)(p:V×V) H2,ps[i]?=some p->f' H H2->te (some p.1::some p.2::bD σ js) H2 fun v H5=>(∀ l,H l=none->H2 l≠none->R i (hide l H5) v)/\f' H2 H5)
  (hd:∀ l H' vs,H l=none->f' H H'->H' l=some (.lst vs)->vs.length=xs.length->(∀ i v,vs[i]?=some v->R i (hide l H') v)->F l H'):bh 2 js (mr K 2 (cm (aO 0) (cm (aO 1) ox))) fh te σ F (Il K a) H:=by
 intro l BX
 refine⟨fun i m σ' H2=>m=xs.length - i/\i<=xs.length/\(∃ o o2,σ'=o::o2::bD σ js)/\f' H H2/\∃ vs:List V,vs.length=i/\H2 l=some (.lst vs)/\∀ i v,vs[i]?=some v->R i (hide l H2) v,⟨xs.length,by simp,yR _,⟨none,none,rfl⟩,aq (f'.refl _) BX,[],rfl,a9,fun i v h=>by simp at h⟩,?_⟩
 rintro i m σ' H2 ⟨rfl,hi,⟨o',o2,rfl⟩,e,vs,hlen,hl,hp⟩
 have q:B' K H2 a xs:=B'.of (e _ _ ha)
 by_cases BU:i<xs.length
 ·refine .inr ⟨⟨xs,xs[i],q,by simp[BU]⟩,fun x H3 y=>?_⟩
  obtain⟨rfl,y⟩:=y
  obtain⟨p,ep,b0,rfl,OY⟩:=Paired.at JT (y xs q)
  refine⟨b0,[p.1,p.2],rfl,CT.of (e _ _ OY),rfl,_,[p.2],rfl,_,[],rfl,rfl,?_⟩
  refine⟨fun H4=>False,fun v H5=>(∀ l,H l=none->H3 l≠none->R i (hide l H5) v)/\f' H3 H5,fun H4 z=>z.elim,fun v H5 j'=>?_,hs i p H3 ep e⟩
  obtain⟨pv,e5⟩:=j'
  refine⟨_,e5 _ _ hl,by rw[hlen];exact yP hi (yP hz (by decide)),_,?_,rfl,BU,⟨_,_,rfl⟩,ar (e.trans e5) BX,vs++[v],by rw[yI,hlen];rfl,a9,fun j w hj=>?_⟩
  ·omega
  ·rw[lG]
   by_cases c:j<vs.length
   ·rw[yU c]at hj
    exact mono _ _ _ _ (j4 e5) (hp j w hj)
   ·rw[yT (by omega)]at hj
    by_cases c2:j - vs.length=0
    ·rw[c2]at hj
     have:v=w:=by simpa using hj
     have ej:j=i:=by omega
     rw[ej,<- this]
     exact pv l BX (by rw[hl];exact fun z=>nomatch z)
    ·rw[yp (by simp;omega)]at hj;cases hj
 ·have ei:i=xs.length:=by omega
  subst ei
  exact .inl ⟨⟨xs,q,yh _⟩,hd l H2 vs BX e hl hlen hp⟩
end
end L2
namespace K51
open PySem L2
open PyProof.Rows (boot_list boot_int boot_bool boot_tuple boot_str boot_dict boot_all boot_sorted)
section
variable {P : Program}{w : World}{K : PySem.W.Frag}{mg : Str -> Option Value}{base : Heap}{C aN : Addr}
theorem qo {cs:Cs}(nd:(cs.map (·.1)).Nodup){r:Int×Int}(h:r∈cs):bw cs r.1=some r.2:=by
 unfold bw
 rw[du nd r h]
 rfl
theorem sj {cs ds:Cs}(pm:cs.Perm ds)(nd:(ds.map (·.1)).Nodup)(k:Int):bw cs k=bw ds k:=by
 have nc:(cs.map (·.1)).Nodup:=(pm.map _).nodup_iff.mpr nd
 by_cases h:k∈ds.map (·.1)
 ·obtain⟨r,hr,rfl⟩:=yD.mp h
  rw[qo nd hr,qo nc (pm.mem_iff.mpr hr)]
 ·rw[eR h,eR fun z=>h ((pm.map _).mem_iff.mp z)]
theorem bL:∀ {rows:List aA},(rows.map (·.1)).Nodup->∀ r∈rows,aT rows r.1=some r
 | [],_,_,h=>(yB h).elim
 | x::ws,nd,r,h=>by
  unfold aT
  rw[yJ,zk]at nd
  rcases yx.mp h with rfl|h
  ·rw[z5,yo rfl]
  ·have ne:¬ x.1=r.1:=fun z=>nd.1 (z▸yO h)
   rw[z5,yq ne]
   exact bL nd.2 r h
theorem me {ws:List aA}(nd:(ws.map (·.1)).Nodup){ns:List Int}(pm:ns.Perm (ws.map (·.1))):
  ∃ rs:List aA,rs.Perm ws/\rs.map (·.1)=ns/\cU (aI ws) ns=aI rs:=by
 let f:Int->aA:=fun n=>(aT ws n).getD (n,0,[])
 have hf:∀ r∈ws,f r.1=r:=fun r hr=>by
  show (aT ws r.1).getD _=r
  rw[bL nd r hr]
  rfl
 refine⟨ns.map f,?_,?_,?_⟩
 ·have h1:=pm.map f
  rw[yt]at h1
  have h2:ws.map (f ∘ (·.1))=ws:=(z7 (g:=id) fun r hr=>hf r hr).trans (As _)
  rw[h2]at h1
  exact h1
 ·rw[yt]
  refine (z7 (g:=id) fun n hn=>?_).trans (As _)
  obtain⟨r,hr,rfl⟩:=yD.mp (pm.mem_iff.mp hn)
  show (f r.1).1=r.1
  rw[hf r hr]
 ·unfold cU aI
  rw[yt]
  refine z7 fun n hn=>?_
  obtain⟨r,hr,rfl⟩:=yD.mp (pm.mem_iff.mp hn)
  show ((Sum.inl r.1:Key),_)=((Sum.inl (f r.1).1:Key),V.ref (f r.1).2.1)
  have:=bR ws r.1
  unfold aI at this
  rw[this,bL nd r hr,hf r hr]
  rfl
noncomputable def az (S:NS):List Ek:=CU S (bU (bI S) S.names.length)
structure Kj (c : Cl) (H : Hp) (n dp dt : Addr) (S : NS) (d : Addr) (x : V) (p : Int) (rows : List aA) (fo : Option (List Int)) : Prop where
  CS : BS c H n dp dt S
  ac : mt (bI S)
  ends : ∀ t ∈ S.BL, t.2.2.1 ∈ S.names
  tz : S.BL.length <= 1000
  pz : S.BV.length <= 1000
  fits : v4 (az S)
  EM : (az S).length < 64
  p1 : p <= 1000000
  prime : My.Ee p = true
  GF : BO H d rows
  has : ∀ r ∈ az S, ∃ y, aT rows r.1 = some y /\ Fn p y.2.2 /\ y.2.2.length <= 1000
  P' : HL H x fo
  KY : ∀ ks, fo = some ks -> ks.length <= 1000
theorem Kj.p0 {c:Cl}{H:Hp}{n dp dt:Addr}{S:NS}{d:Addr}{x:V}{p:Int}{rows:List aA}{fo:Option (List Int)} (h:Kj c H n dp dt S d x p rows fo):0<p:=by
 have:=((My.Cq p).mp h.prime).1
 omega
theorem xE {l:Addr}{H:Hp}{v:V}{r:Ek} (h:EJ l H v r):HM H v r:=by
 obtain⟨q,m,_,e,hq,hm⟩:=h
 refine⟨q,m,e,hq,?_⟩
 obtain⟨k,ro⟩:=r
 cases ro with
 | none=>exact hm
 | some ks=>obtain⟨q',_,e',h'⟩:=hm;exact⟨q',e',h'⟩
end
theorem lh {H:Hp}:∀ {xs:List V}{rs:List Ek},Paired (HM H) xs rs->∃ ps:List (V×V),Paired (fun x (p:V×V)=>∃ b,x=.ref b/\H b=some (.tup [p.1,p.2])) xs ps/\Paired (fun (p:V×V) (r:Ek)=>p.1=.int r.1) ps rs
 | _,_,.nil=>⟨[],.nil,.nil⟩
 | _,_,.cons ⟨b,m,e,hb,hm⟩ t=>by
  obtain⟨ps,h1,h2⟩:=lh t
  exact⟨(_,m)::ps,.cons ⟨b,e,hb⟩ h1,.cons rfl h2⟩
theorem dn {α β:Type}{F:α->β->Prop}:∀ {xs:List α}{ys:List β},xs.length=ys.length->(∀ (i:Nat) x y,xs[i]?=some x->ys[i]?=some y->F x y)->Paired F xs ys
 | [],[],_,_=>.nil
 | _::_,_::_,h,k=>.cons (k 0 _ _ rfl rfl) (dn (by simpa using h) fun i x y hx hy=>k (i+1) x y hx hy)
theorem fN {α β γ:Type}{F:α->β->Prop}{G:α->γ->Prop}{g:β->γ}:∀ {xs:List α}{ys:List β},Paired F xs ys->(∀ a b,F a b->G a (g b))->Paired G xs (ys.map g)
 | _,_,.nil,_=>.nil
 | _,_,.cons h r,k=>.cons (k _ _ h) (fN r k)
noncomputable def cB (p:Int)(rows:List aA)(fo:Option (List Int))(ms:List Ek)(many:Nat)(k:Int):List Int:=(List.range many).map fun j=>(bw (aU p rows (Mx.BG many j) fo ms []) k).getD 0
theorem pE {H:Hp}(F:Int->List Int):∀ {vs:List V}{ms:List Ek},Paired (fun v (m:Ek)=>∃ b g,v=V.ref b/\H b=some (.tup [.int m.1,.ref g])/\H g=some (.lst ((F m.1).map V.int))) vs ms->
  ∃ ws:List aA,ws.map (fun r=>(r.1,r.2.2))=ms.map (fun m=>(m.1,F m.1))/\Paired (fun v (r:aA)=>∃ b,v=V.ref b/\H b=some (.tup [.int r.1,.ref r.2.1])) vs ws/\∀ r∈ws,H r.2.1=some (.lst (r.2.2.map V.int))
 | _,_,.nil=>⟨[],rfl,.nil,fun _ h=>(yB h).elim⟩
 | _,m::_,.cons ⟨b,g,e,hb,hg⟩ t=>by
  obtain⟨ws,h1,h2,h3⟩:=pE F t
  refine⟨(m.1,g,F m.1)::ws,by rw[yJ,yJ,h1],.cons ⟨b,e,hb⟩ h2,fun r hr=>?_⟩
  rcases yx.mp hr with rfl|hr
  ·exact hg
  ·exact h3 r hr
theorem vG {many i:Nat}{r:List Int} (h:(Mx.ones many)[i]?=some r):r=Mx.BG many i:=by
 unfold Mx.ones at h
 rw[ye]at h
 by_cases c:i<many
 ·rw[z8 c]at h
  exact (Option.some.inj h).symm
 ·rw[yp (by simpa using c)]at h
  cases h
noncomputable def gw (c:Cl):Sp:=fun vs H Q _=>∃ (n dp dt:Addr)(S:NS)(d:Addr)(x:V)(p:Int)(rows:List aA)(fo:Option (List Int))(many:Nat),vs=[.ref n,.ref d,.int (many:Int),.int p,x]/\Kj c H n dp dt S d x p rows fo/\many<=1000/\
 ∀ e H' (rs:List aA),f' H H'->H e=none->BO H' e rs->(rs.map (·.1)).Pairwise (·<=·)->(rs.map fun r=>(r.1,r.2.2)).Perm ((az S).map fun m=>(m.1,cB p rows fo (az S) many m.1))->Q (.ref e) H'
noncomputable abbrev iO:Stmt:=top 58
theorem Fy:ai ["net","plan","many","prime","fallen","field","mixing","flows"] ["net","plan","many","prime","fallen"] (af iO):=CG
theorem rX {c:Cl}{f:Addr}{fd:FuncData} (F:F0 K "carried" "carried" iO f fd) (T:Oo mg) (D5:Dk P w K mg base 2 "Field" C ["self","prime"] (jM C)) (Cw:Df P w K mg base 3 "mixing_ties" ["net"] (iE c)) (Ip:Df P w K mg base 4 "flow" ["field","mixing","plan","message","fallen"] (sP C))
  (F3:Df P w K mg base 2 "ones" ["many"] nF) (FO:Df P w K mg base 1 "column" ["table","place"] mI) (Cr:Df P w K mg base 1 "by_number" ["told"] cT):BF P w K mg base Co 5 f fd ["net","plan","many","prime","fallen"] (gw c):=by
 refine F0.ok F Fy (fun vs H Q E h=>?_) (fun BJ A outer s H vs Q E hr h=>?_)
 ·obtain⟨n,dp,dt,S,d,x,p,rows,fo,many,rfl,_⟩:=h
  rfl
 ·obtain⟨n,dp,dt,S,d,x,p,rows,fo,many,rfl,O,R7,q⟩:=h
  have ND:=Fy.nd
  refine⟨_,(aa (pS 5 ND (dZ D5 hr.m rfl (a0 (pv 3) ab)))
 (aa (pS 6 ND (ak Cw hr.m rfl (a0 (pv 0) ab)))
 (aa (pS 7 ND (aV rfl (cS 1 [1,4,5,6] ["message","plan","fallen","field","mixing"]) (bQ K (ak F3 hr.m rfl (a0 (pv 2) ab)))
  (fun _ _ _ _ _=>(pC 0))
  (fun _ _ _ _ _=>aG)
  (fun _ _ _ _ _=>(ak Ip hr.m rfl (a0 (pv 3) (a0 (pv 4) (a0 (pv 1) (a0 (pv 0) (a0 (pv 2) ab)))))))))
 (ad (am (ak Cr hr.m rfl (a0 (bz (bA rfl) rfl T.Dl boot_dict (a0 (aV rfl (cS 2 [7] ["number","mixed","flows"]) (bQ K (pv 6))
  (fun _ _ _ _ _=>(dl K (n:=2) rfl (aj (pC 0) (aj (pC 1) aX))))
  (fun _ _ _ _ _=>aG)
  (fun _ _ _ _ _=>(bv (a0 (pv 0) (a0 (ak FO hr.m rfl (a0 (pv 2) (a0 (pv 0) ab))) ab))))) ab)) ab))))))),?_⟩
  refine⟨_,rfl,fun fx dx nx Qk Xr=>⟨fx,dx,p,rfl,a9,O.p1,O.prime,rfl,?_⟩⟩
  have e1:=ar (o:=.ins C dx [("prime",.int p)]) (ar (o:=.ins C dx []) (aq (o:=.own fx) (f'.refl H) Qk) nx) nx
  refine⟨_,rfl,n,dp,dt,S,rfl,O.CS.mono e1,O.ac,O.ends,O.tz,O.pz,fun l H2 xs e2 h2 hl pm=>?_⟩
  have Jz:=e1.trans e2
  have Ta:BW C H2 fx p:=⟨dx,e2 _ _ a9⟩
  have VH:Paired (HM H2) xs (az S):=Paired.Cp pm fun _ _ z=>xE z
  have xl:=Paired.length VH
  have EM:=O.EM
  refine⟨_,rfl,many,rfl,R7,fun lo H3 e3 hT=>?_⟩
  obtain⟨VJ,ys,Kq,Y9⟩:=hT
  have yl:=Paired.length Y9
  have ol:(Mx.ones many).length=many:=by unfold Mx.ones;simp
  refine⟨lo,rfl,⟨_,B'.of Kq⟩,gT (fun i H v=>∃ g cs,v=.ref g/\H g=some (.dK (GY cs))/\cs.Perm (aU p rows (Mx.BG many i) fo (az S) [])) (fun i H H' v e j'=>(by obtain⟨g,cs,a,b,c⟩:=j';exact⟨g,cs,a,e _ _ b,c⟩)) (B'.of Kq) (by omega) (fun i y H4 ey e4=>?_) (fun lf H4 vs a1d e4 LL vl hv=>?_)⟩
  ·obtain⟨r,er,hr⟩:=Paired.at Y9 ey
   have:=vG er
   subst this
   have IY:=e3.trans e4
   have LY:=Jz.trans IY
   refine⟨_,rfl,_,rfl,_,rfl,_,rfl,_,rfl,fx,l,d,y,x,p,az S,rows,Mx.BG many i,fo,rfl,⟨Ta.mono IY,O.p0,O.p1,⟨xs,IY _ _ hl,Paired.Cp VH fun _ _ z=>z.mono IY⟩,O.fits,O.EM,O.GF.mono LY,O.has,hr.rw.mono e4,O.P'.mono LY,O.KY⟩,fun g H5 cs e5 h5 c1 c2 c3=>⟨fun l' EK DP=>⟨g,cs,rfl,eh DP h5 c3,c1⟩,e5⟩⟩
  have IY:=e3.trans e4
  have LY:=Jz.trans IY
  have T6:Paired (HM H4) xs (az S):=Paired.Cp VH fun _ _ z=>z.mono IY
  obtain⟨ps,p1,p2⟩:=lh T6
  refine⟨_,rfl,l,rfl,⟨_,B'.of (IY _ _ hl)⟩,qN (ps:=ps) (fun i H v=>∀ r,(az S)[i]?=some r->∃ b g,v=.ref b/\H b=some (.tup [.int r.1,.ref g])/\H g=some (.lst ((cB p rows fo (az S) many r.1).map V.int))) (fun i H H' v e h r hr=>let ⟨b,g,a1,a2,a3⟩:=h r hr;⟨b,g,a1,e _ _ a2,e _ _ a3⟩) (IY _ _ hl) p1 (by omega) (fun i pp H5 ep e5=>?_) (fun l2 H5 ws a1g e5 DP wl hw=>?_)⟩
  ·obtain⟨r,er,Nu⟩:=Paired.at p2 ep
   obtain⟨pk,JI⟩:=pp
   have Nu:pk=.int r.1:=Nu
   subst Nu
   refine⟨_,rfl,_,rfl,_,rfl,lf,vs,r.1,cB p rows fo (az S) many r.1,rfl,e5 _ _ LL,by omega,?_,fun g H6 e6 h6 hg=>?_⟩
   ·refine dn (by unfold cB;rw[y6,zi];omega) fun j v z hj hz=>?_
    obtain⟨g,cs,ev,hg,pc⟩:=hv j v hj
    have jl:j<many:=by have:=(yb.mp hj).1;omega
    unfold cB at hz
    rw[ye,z8 jl]at hz
    have hz:(bw (aU p rows (Mx.BG many j) fo (az S) []) r.1).getD 0=z:=Option.some.inj hz
    have ck:=dq p rows (Mx.BG many j) fo (az S) []
    rw[zZ,zc]at ck
    refine⟨g,GY cs,ev,e5 _ _ (d9 _ _ hg),?_⟩
    rw[r6,sj pc (ck▸O.fits.nd)]
    obtain⟨nn,hn⟩:=gN (cs:=aU p rows (Mx.BG many j) fo (az S) []) (k:=r.1) (by rw[ck];exact yO (yj er))
    rw[hn]at hz ⊢
    rw[<- hz]
    rfl
   ·refine⟨(by show 2<=sizeLine;decide),fun b H7 e7 h7 hb=>⟨fun l' EK DP r' CI=>?_,e6.trans e7⟩⟩
    rw[er]at CI
    cases CI
    exact⟨b,g,rfl,eh DP (e6.free h7) hb,eh DP h6 (e7 _ _ hg)⟩
  ·have Jy:=LY.trans e5
   obtain⟨rws,w1,w2,w3⟩:=pE (H:=H5) (fun k=>cB p rows fo (az S) many k) (vs:=ws) (ms:=az S) (dn (by omega) fun i v r hv hr=>let ⟨b,g,a1,a2,a3⟩:=hw i v hv r hr;⟨b,g,a1,d9 _ _ a2,d9 _ _ a3⟩)
   have wk:rws.map (·.1)=(az S).map (·.1):=by
    have:=congrArg (List.map (·.1)) w1
    rw[yt,yt]at this
    exact this
   have Kz:(rws.map (·.1)).Nodup:=wk▸O.fits.nd
   have Pk:rws.length=(az S).length:=by rw[<- y6 (f:=(·.1)),wk,y6]
   refine⟨l2,aI rws,rfl,⟨ws,DP,fN w2 fun v r j'=>(by obtain⟨b,e,hb⟩:=j';exact⟨b,e,hb⟩)⟩,by unfold aI;rw[y6];omega,fun dd H6 e6 h6 hd=>?_⟩
   rw[c9 _ [] (by
    rw[zc]
    unfold aI
    rw[yt]
    have:((fun x:Key×V=>x.1) ∘ fun r:aA=>((Sum.inl r.1:Key),V.ref r.2.1))=(fun x:Int=>(Sum.inl x:Key)) ∘ Prod.fst:=rfl
    rw[this,<- yt]
    exact yW.mpr (zV.mpr ((yW.mp Kz).imp fun h z=>h (Sum.inl.inj z)))),zc]at hd
   have Z7:=Jy.trans e6
   refine⟨dd,_,rws.map (·.1),rfl,hd,by unfold aI;rw[yt,yt];rfl,Kz,by rw[y6];omega,fun e H7 ER e7 h7 JI pw he=>?_⟩
   obtain⟨rs,r1,r2,r3⟩:=me Kz JI
   exact q e H7 rs (Z7.trans e7) (Z7.free h7) ⟨by rw[he,r3],fun r hr=>e7 _ _ (e6 _ _ (w3 r (r1.mem_iff.mp hr)))⟩ (r2▸pw) (w1▸r1.map _)
end K51
namespace K51
open PySem L2
open PyProof.Rows (boot_list boot_int boot_bool boot_tuple boot_str boot_dict)
structure sH (mg : Str -> Option Value) : Prop where
  Ci : mg "len" = none
  CA : mg "range" = none
  DN : mg "zip" = none
theorem fH {t:List (List Int)}{f:List Int->List Int}:(List.range t.length).map (fun i=>f (t.getD i []))=t.map f:=by
 apply zq
 intro i
 rw[ye,ye]
 by_cases h:i<t.length
 ·rw[z8 h,y8 h]
  show some (f (t.getD i []))=some (f t[i])
  rw[aD (y8 h)]
 ·rw[yp (by simpa using h),yp (by omega)]
  rfl
theorem vk {H:Hp}{xs:List V}{t:List (List Int)} (hp:Paired (Rw H) xs t) {k:Nat} (hk:k<t.length):∃ c,xs[k]?=some (.ref c)/\H c=some (.lst ((t.getD k []).map V.int)):=by
 have hl:=Paired.length hp
 have IU:k<xs.length:=by omega
 obtain⟨r,er,c,ec,hc⟩:=Paired.at hp (y8 IU)
 exact⟨c,by rw[y8 IU,ec],by rw[aD er];exact hc⟩
theorem mem_getD {α:Type}{t:List α}{k:Nat}{d:α} (hk:k<t.length):t.getD k d∈t:=by
 rw[aD (y8 hk)]
 exact zm hk
theorem lD {r:List Int}{j:Nat} (h:j<r.length):GZ (r.map V.int) (j:Int)=some (.int (r.getD j 0)):=by
 refine cz ?_
 rw[ye,y8 h,aD (y8 h)]
 rfl
noncomputable def gZ (C:Addr):Sp:=fun vs H Q _=>∃ (f:Addr)(a b p:Int),vs=[.ref f,.int a,.int b]/\BW C H f p/\0<p/\Li a b/\Q (.int (a * b % p)) H
noncomputable abbrev nM:Stmt:=aQ (top 33) 4
theorem vg:ai ["self","one","other"] ["self","one","other"] (af nM):=CG
theorem vH {f C:Addr}{fd:FuncData} (F:Cu K "times" "Field.times" nM f fd) (T:Txt K mg C) (BP:Dm P w K mg base 1 C "fit" ["self","number"] (iF C)):BF P w K mg base Co 2 f fd ["self","one","other"] (gZ C):=by
 refine F.k vg fun BJ A outer s H vs Q E hr h=>?_
 ·obtain⟨f,a,b,p,rfl,⟨dx,hf⟩,hp,hm,q⟩:=h
  refine⟨_,(ad (am (aE (pv 0) BP hr.m (a0 (aB dG (pv 1) (pv 2)) ab)))),?_⟩
  refine⟨_,rfl,f,dx,_,rfl,hf,rfl,_,rfl,_,rfl,_,_,rfl,rfl,hm,f,_,p,rfl,⟨dx,hf⟩,hp,q⟩
noncomputable def k8 (C:Addr):Sp:=fun vs H Q _=>∃ (f:Addr)(a b p:Int),vs=[.ref f,.int a,.int b]/\BW C H f p/\0<p/\Q (.int ((a - b) % p)) H
noncomputable abbrev nN:Stmt:=aQ (top 33) 3
theorem vh:ai ["self","one","other"] ["self","one","other"] (af nN):=CG
theorem vI {f C:Addr}{fd:FuncData} (F:Cu K "minus" "Field.minus" nN f fd) (T:Txt K mg C) (BP:Dm P w K mg base 1 C "fit" ["self","number"] (iF C)):BF P w K mg base Co 2 f fd ["self","one","other"] (k8 C):=by
 refine F.k vh fun BJ A outer s H vs Q E hr h=>?_
 ·obtain⟨f,a,b,p,rfl,⟨dx,hf⟩,hp,q⟩:=h
  refine⟨_,(ad (am (aE (pv 0) BP hr.m (a0 (aB rK (pv 1) (pv 2)) ab)))),?_⟩
  refine⟨_,rfl,f,dx,_,rfl,hf,rfl,_,rfl,_,rfl,_,_,rfl,rfl,f,_,p,rfl,⟨dx,hf⟩,hp,q⟩
noncomputable def sR (C:Addr):Sp:=fun vs H Q _=>∃ (f:Addr)(n p:Int),vs=[.ref f,.int n]/\BW C H f p/\My.Ee p=true/\p<=1000000/\0<n/\n<p/\Q (.int (My.bk p n)) H
noncomputable abbrev rD:Stmt:=aQ (top 33) 5
theorem Iy:ai ["self","number","rest","made"] ["self","number"] (af rD):=CG
theorem xz {f C:Addr}{fd:FuncData} (F:Cu K "back" "Field.back" rD f fd) (T:Txt K mg C) (BP:Dm P w K mg base 1 C "fit" ["self","number"] (iF C)) (C':Dm P w K mg base 2 C "times" ["self","one","other"] (gZ C)):
  BF P w K mg base Co 3 f fd ["self","number"] (sR C):=by
 refine F.k Iy fun BJ A outer s H vs Q E hr h=>?_
 ·obtain⟨f,n,p,rfl,⟨dx,hf⟩,hP,Fh,h0,h1,q⟩:=h
  have ND:=Iy.nd
  have Gr:2<=p:=((My.Cq p).mp hP).1
  have hp:0<p:=by omega
  have en:n % p=n:=zw (by omega) h1
  refine⟨_,(aa (pS 2 ND (aE (pv 0) BP hr.m (a0 (pv 1) ab)))
 (aa (aK (pT bP (pv 2) ag)
  (ad bB)
  ay)
 (aa (pS 3 ND ag)
 (aa (i7 yS (pT ic (pv 2) ag)
  (aa (pS 3 ND (aE (pv 0) C' hr.m (a0 (pv 3) (a0 (aB rK ag (aB cZ (eW K (pv 0) rfl) (pv 2))) ab))))
 (ad (pS 2 ND (aB bg (eW K (pv 0) rfl) (pv 2))))))
 (ad (am (pv 3))))))),?_⟩
  refine⟨_,rfl,f,dx,_,rfl,hf,rfl,_,rfl,f,n,p,rfl,⟨dx,hf⟩,hp,?_⟩
  rw[en]
  refine⟨_,rfl,rfl,_,rfl,Qv (fun z=>by injection z with z;omega) ?_⟩
  refine⟨fun m σ H2=>∃ rest made:Int,σ=[some (.ref f),some (.int n),some (.int rest),some (.int made)]/\H2=H/\0<rest/\rest<p/\My.Inv p n rest made/\m=rest.toNat,
   ⟨_,n,1,rfl,rfl,h0,h1,My.FG Gr (by rw[za _ (by omega)];exact en),rfl⟩,?_⟩
  rintro m σ H2 ⟨rest,made,rfl,rfl,r0,r1,I,rfl⟩
  refine⟨_,rfl,rfl,_,rfl,bH (fun c=>?_) (fun c=>?_)⟩
  ·have c1:rest≠1:=fun z=>by
    rw[z,yo rfl]at c
    cases c
   have l:=My.Kg hP r0 c1 r1
   refine⟨fun σ' H'=>σ'=[some (.ref f),some (.int n),some (.int (p % rest)),some (.int (made * (0 - p / rest) % p))]/\H'=H2,fun σ' H' j'=>(by obtain⟨e1,e2⟩:=j';exact⟨(p % rest).toNat,by omega,_,_,e1,e2,l.1,by omega,My.Kf I Gr r0,rfl⟩),?_⟩
   have m0:=I.lo
   have m1:=I.hi
   refine⟨_,rfl,f,dx,_,rfl,hf,rfl,_,rfl,_,rfl,f,C,dx,_,_,rfl,hf,T.cl,T.nP,rfl,_,rfl,_,_,rfl,rfl,⟨r0,by omega⟩,_,_,rfl,rfl,f,made,_,p,rfl,⟨dx,hf⟩,hp,.inl ⟨by omega,by omega⟩,?_⟩
   exact⟨_,rfl,f,C,dx,_,_,rfl,hf,T.cl,T.nP,rfl,_,rfl,_,_,rfl,rfl,r0,rfl,rfl⟩
  ·have c1:rest=1:=by
    by_cases z:rest=1
    ·exact z
    ·exact absurd (by rw[yq (fun y=>z (by injection y))];rfl) c
   subst c1
   refine⟨_,rfl,?_⟩
   rw[My.Kh I.lo I.hi (My.IM I)]at q
   exact q
noncomputable def gk (C:Addr):Sp:=fun vs H Q _=>∃ (f:Addr)(x:V)(p:Int)(r:List Int),vs=[.ref f,x]/\BW C H f p/\0<p/\Rw H x r/\r.length<=1000/\∀ l H',f' H H'->H l=none->H' l=some (.lst ((r.map (· % p)).map V.int))->Q (.ref l) H'
noncomputable abbrev eD:Stmt:=top 39
theorem lZ:ai ["field","row"] ["field","row"] (af eD):=CG
theorem kK {r:List Int}{f:Int->Int}:(List.range r.length).map (fun i=>f (r.getD i 0))=r.map f:=by
 apply zq
 intro i
 rw[ye,ye]
 by_cases h:i<r.length
 ·rw[z8 h,y8 h]
  show some (f (r.getD i 0))=some (f r[i])
  rw[aD (y8 h)]
 ·rw[yp (by simpa using h),yp (by omega)]
  rfl
theorem mi {f C:Addr}{fd:FuncData} (F:Cu K "fitted_row" "fitted_row" eD f fd) (BP:Dm P w K mg base 1 C "fit" ["self","number"] (iF C)):BF P w K mg base Co 2 f fd ["field","row"] (gk C):=by
 refine F.k lZ fun BJ A outer s H vs Q E hr h=>?_
 ·obtain⟨f,x,p,r,rfl,hf,hp,⟨a,rfl,ha⟩,hz,q⟩:=h
  refine⟨_,(ad (am (aV rfl (cS 1 [0] ["number","field"]) (bQ K (pv 1))
  (fun _ _ _ _ _=>(pC 0))
  (fun _ _ _ _ _=>aG)
  (fun _ _ _ _ _=>(aE (pv 1) BP hr.m (a0 (pv 0) ab)))))),?_⟩
  refine⟨_,rfl,a,rfl,⟨_,B'.of ha⟩,eY (K:=K) (fun i=>r.getD i 0 % p) ha (by rw[y6];exact hz) (fun i x H2 ex e=>?_) (fun l H' h0 e hl=>q l H' e h0 ?_)⟩
  ·obtain⟨u,eu,rfl⟩:=bJ ex
   obtain⟨dx,Rl⟩:=hf.mono e
   exact⟨_,rfl,f,dx,_,rfl,Rl,rfl,_,rfl,f,u,p,rfl,⟨dx,Rl⟩,hp,by rw[aD eu],f'.refl _⟩
  ·rw[hl,y6,kK (f:=fun z=>z % p)]
noncomputable def nY:Option Nat->V
 | none=>.non
 | some a=>.int (a:Int)
theorem rH {s n:Nat}{f:Nat->Bool} (h:∀ i,i<n->f (s+i)=false):(List.range' s n).find? f=none:=by
 rw[ze]
 intro a ha
 obtain⟨h1,h2⟩:=List.mem_range'_1.mp ha
 have:=h (a - s) (by omega)
 rw[show s+(a - s)=a by omega]at this
 simp[this]
theorem pJ {s n k:Nat}{f:Nat->Bool} (hk:k<n) (h:∀ i,i<k->f (s+i)=false) (ht:f (s+k)=true):(List.range' s n).find? f=some (s+k):=by
 rw[List.find?_eq_some_iff_append]
 refine⟨ht,List.range' s k,List.range' (s+k+1) (n - k - 1),?_,fun a ha=>?_⟩
 ·rw[show n=k+((n - k - 1)+1) by omega,<- List.range'_append_1,Bh]
  simp
 ·obtain⟨h1,h2⟩:=List.mem_range'_1.mp ha
  have:=h (a - s) (by omega)
  rw[show s+(a - s)=a by omega]at this
  simp[this]
noncomputable def jd:Sp:=fun vs H Q _=>∃ (x:V)(st q:Nat)(t:List (List Int)),vs=[x,.int (st:Int),.int (q:Int)]/\Tb H x t/\t.length<=1000/\st<=t.length/\q<=1000/\(∀ r∈t,q<r.length)/\Q (nY (Mx.Ct t st q)) H
noncomputable abbrev gA:Stmt:=top 40
theorem F9:ai ["rows","start","place","at"] ["rows","start","place"] (af gA):=CG
theorem pV {f:Addr}{fd:FuncData} (F:Cu K "row_with" "row_with" gA f fd) (T:sH mg):BF P w K mg base Co 1 f fd ["rows","start","place"] jd:=by
 refine F.k F9 fun BJ A outer s H vs Q E hr h=>?_
 ·obtain⟨x,st,q,t,rfl,⟨a,xs,rfl,ha,HP⟩,hz,IS,hq,hw,qq⟩:=h
  have ND:=F9.nd
  have Ja:=Paired.length HP
  refine⟨_,(aa (bi yS rfl (ur rfl T.CA (a0 (pv 1) (a0 (aw (dJ K) rfl T.Ci boot_len (a0 (pv 0) ab)) ab))) (pN 3 ND)
  (ad (aK (pT ic (pI (d0 K) (pI (d0 K) (pv 0) (pv 3)) (pv 2)) ag)
  (ad (am (pv 3)))
  ay)))
 (ad (am cv))),?_⟩
  refine⟨_,rfl,_,rfl,a,_,rfl,.inl (B'.of ha),_,_,rfl,⟨by omega,by omega,by omega,by omega⟩,eA (n:=(((xs.length:Nat):Int) - (st:Int)).toNat) (fun i σ H2=>∃ o,σ=[some (.ref a),some (.int (st:Int)),some (.int (q:Int)),o]/\H2=H/\∀ j,j<i->Mx.e (t.getD (st+j) []) q=0)
   ⟨none,rfl,rfl,fun j hj=>absurd hj (Nat.not_lt_zero _)⟩ ?_ ?_⟩
  ·rintro i σ H2 hi ⟨o,rfl,rfl,j'⟩
   have FW:st+i<t.length:=by omega
   obtain⟨c,LR,GW⟩:=vk HP FW
   have ei:(st:Int)+(i:Int)=((st+i:Nat):Int):=by omega
   have hqr:q<(t.getD (st+i) []).length:=hw _ (mem_getD FW)
   refine⟨_,rfl,_,rfl,a,_,_,_,rfl,rfl,B'.of ha,by rw[ei];exact cz LR,_,rfl,c,_,_,_,rfl,rfl,B'.of GW,lD hqr,rfl,_,rfl,bH (fun hc=>?_) (fun hc=>?_)⟩
   ·have Jc:Mx.e (t.getD (st+i) []) q≠0:=fun z=>by
     have z':(t.getD (st+i) []).getD q 0=0:=z
     rw[z',yo rfl]at hc
     cases hc
    refine⟨_,rfl,?_⟩
    have e1:Mx.Ct t st q=some (st+i):=by
     unfold Mx.Ct
     exact pJ (by omega) (fun j hj=>by simpa using j' j hj) (by simpa using Jc)
    rw[e1]at qq
    rw[ei]
    exact qq
   ·refine⟨_,rfl,rfl,fun j hj=>?_⟩
    by_cases cj:j<i
    ·exact j' j cj
    ·have:j=i:=by omega
     subst this
     by_cases z:Mx.e (t.getD (st+j) []) q=0
     ·exact z
     ·exact absurd (by rw[yq (fun y=>z (by injection y))];rfl) hc
  ·rintro σ H2 ⟨o,rfl,rfl,j'⟩
   have e1:Mx.Ct t st q=none:=by
    unfold Mx.Ct
    refine rH fun j hj=>?_
    have:=j' j (by omega)
    simpa using this
   rw[e1]at qq
   exact qq
noncomputable def mE (C:Addr):Sp:=fun vs H Q _=>∃ (f:Addr)(x:V)(p k:Int)(r:List Int),vs=[.ref f,x,.int k]/\BW C H f p/\0<p/\0<=k/\k<=1000000/\Rw H x r/\r.length<=1000/\∀ l H',f' H H'->H l=none->H' l=some (.lst ((Mx.scaled p r k).map V.int))->Q (.ref l) H'
noncomputable abbrev kr:Stmt:=top 41
theorem ua:ai ["field","row","number"] ["field","row","number"] (af kr):=CG
theorem ux {f C:Addr}{fd:FuncData} (F:Cu K "scaled" "scaled" kr f fd) (C':Dm P w K mg base 2 C "times" ["self","one","other"] (gZ C)):BF P w K mg base Co 3 f fd ["field","row","number"] (mE C):=by
 refine F.k ua fun BJ A outer s H vs Q E hr h=>?_
 ·obtain⟨f,x,p,k,r,rfl,hf,hp,k0,k1,⟨a,rfl,ha⟩,hz,q⟩:=h
  refine⟨_,(ad (am (aV rfl (cS 1 [0,2] ["mine","field","number"]) (bQ K (pv 1))
  (fun _ _ _ _ _=>(pC 0))
  (fun _ _ _ _ _=>aG)
  (fun _ _ _ _ _=>(aE (pv 1) C' hr.m (a0 (pv 2) (a0 (pv 0) ab))))))),?_⟩
  refine⟨_,rfl,a,rfl,⟨_,B'.of ha⟩,eY (K:=K) (fun i=>k * r.getD i 0 % p) ha (by rw[y6];exact hz) (fun i x H2 ex e=>?_) (fun l H' h0 e hl=>q l H' e h0 ?_)⟩
  ·obtain⟨u,eu,rfl⟩:=bJ ex
   obtain⟨dx,Rl⟩:=hf.mono e
   exact⟨_,rfl,f,dx,_,rfl,Rl,rfl,_,rfl,_,rfl,f,k,u,p,rfl,⟨dx,Rl⟩,hp,.inl ⟨by omega,by omega⟩,by rw[aD eu],f'.refl _⟩
  ·rw[hl,y6,kK (f:=fun z=>k * z % p)]
   rfl
noncomputable def jZ (C:Addr):Sp:=fun vs H Q _=>∃ (f:Addr)(x y:V)(p:Int)(q:Nat)(r ld:List Int),vs=[.ref f,x,y,.int (q:Int)]/\BW C H f p/\0<p/\p<=1000000/\Rw H x r/\Rw H y ld/\r.length<=1000/\ld.length=r.length/\q<r.length/\Fn p r/\
 ∀ v H',f' H H'->((v=x/\Mx.without p r ld q=r)\/HR H H' v (Mx.without p r ld q))->Q v H'
noncomputable abbrev iJ:Stmt:=top 42
theorem Fu:ai ["field","row","lead","place","often"] ["field","row","lead","place"] (af iJ):=CG
theorem lW {r s:List Int}{f:Int->Int->Int} (h:s.length=r.length):(List.range (min r.length s.length)).map (fun i=>f (r.getD i 0) (s.getD i 0))=List.zipWith f r s:=by
 apply zq
 intro i
 rw[ye,List.getElem?_zipWith]
 by_cases hi:i<r.length
 ·rw[z8 (by omega),y8 hi,y8 (show i<s.length by omega)]
  show some (f (r.getD i 0) (s.getD i 0))=some (f r[i] s[i])
  rw[aD (y8 hi),aD (y8 (show i<s.length by omega))]
 ·rw[yp (by simp;omega),yp (by omega)]
  rfl
theorem rS {f C:Addr}{fd:FuncData} (F:Cu K "without" "without" iJ f fd) (T:sH mg) (Cz:Dm P w K mg base 2 C "minus" ["self","one","other"] (k8 C)) (C':Dm P w K mg base 2 C "times" ["self","one","other"] (gZ C)):
  BF P w K mg base Co 3 f fd ["field","row","lead","place"] (jZ C):=by
 refine F.k Fu fun BJ A outer s H vs Q E hr h=>?_
 ·obtain⟨f,x,y,p,q,r,ld,rfl,hf,hp,Fh,⟨a,rfl,ha⟩,⟨b,rfl,hb⟩,hz,hl,hq,Gu,qq⟩:=h
  have ND:=Fu.nd
  refine⟨_,(aa (pS 4 ND (pI (d0 K) (pv 1) (pv 3)))
 (aa (aK (pT bP (pv 4) ag)
  (ad (am (pv 1)))
  ay)
 (ad (am (aV rfl (cS 2 [0,4] ["mine","theirs","field","often"]) (pQ K rfl T.DN (a0 (pv 1) (a0 (pv 2) ab)))
  (fun _ _ _ _ _=>(dl K (n:=2) rfl (aj (pC 0) (aj (pC 1) aX))))
  (fun _ _ _ _ _=>aG)
  (fun _ _ _ _ _=>(aE (pv 2) Cz hr.m (a0 (pv 0) (a0 (aE (pv 2) C' hr.m (a0 (pv 3) (a0 (pv 1) ab))) ab))))))))),?_⟩
  refine⟨_,rfl,_,rfl,a,_,_,_,rfl,rfl,B'.of ha,lD hq,?_⟩
  refine⟨_,rfl,rfl,_,rfl,bH (fun c=>?_) (fun c=>?_)⟩
  ·have c0:Mx.e r q=0:=by
    have:=yA c
    injection this
   refine⟨_,rfl,qq _ _ (f'.refl _) (.inl ⟨rfl,?_⟩)⟩
   unfold Mx.without
   rw[if_pos c0]
  ·have c0:¬ Mx.e r q=0:=fun z=>c (by
    have z':r.getD q 0=0:=z
    rw[z',yo rfl])
   have OY:=Gu _ (mem_getD (d:=0) hq)
   refine⟨_,rfl,_,rfl,a,b,rfl,⟨_,B'.of ha⟩,⟨_,B'.of hb⟩,gf (K:=K) (fun i=>(r.getD i 0 - r.getD q 0 * ld.getD i 0 % p) % p) ha hb (by rw[y6];exact hz) (fun i x y T' H2 ex ey e hT=>?_) (fun l H' h0 e EK=>qq _ H' e (.inr ⟨l,rfl,h0,?_⟩))⟩
   ·obtain⟨u,eu,rfl⟩:=bJ ex
    obtain⟨v,ev,rfl⟩:=bJ ey
    have e3:=aq (o:=.tup [V.int u,V.int v]) e hT
    obtain⟨dx,Tc⟩:=hf.mono e3
    exact⟨_,rfl,f,dx,_,rfl,Tc,rfl,_,rfl,_,rfl,f,dx,_,rfl,Tc,rfl,_,rfl,_,rfl,f,_,v,p,rfl,⟨dx,Tc⟩,hp,.inl ⟨by show -(2 ^ 64)<r.getD q 0;omega,by show r.getD q 0<2 ^ 64;omega⟩,f,u,_,p,rfl,⟨dx,Tc⟩,hp,by rw[aD eu,aD ev],aq (f'.refl _) hT⟩
   ·rw[EK,y6,y6,lW (f:=fun m t=>(m - r.getD q 0 * t % p) % p) hl]
    unfold Mx.without
    rw[if_neg c0]
structure M6 (p : Int) (w : Nat) (t : List (List Int)) : Prop where
  sh : Mx.Sh p w t
  EM : t.length <= 100
  MW : w <= 200
noncomputable def kd (C:Addr):Sp:=fun vs H Q _=>∃ (f:Addr)(x:V)(p:Int)(st a q wd:Nat)(t:List (List Int)),vs=[.ref f,x,.int (st:Int),.int (a:Int),.int (q:Int)]/\BW C H f p/\My.Ee p=true/\p<=1000000/\Tb H x t/\M6 p wd t/\q<wd/\st<=a/\a<t.length/\Mx.e (t.getD a []) q≠0/\
 ∀ l H',f' H H'->Tb H' (.ref l) (Mx.cleared p (My.bk p) t st a q)->Q (.ref l) H'
noncomputable abbrev iN:Stmt:=top 43
theorem Fx:ai ["field","rows","start","at","place","lead","others"] ["field","rows","start","at","place"] (af iN):=CG
theorem rW {f C:Addr}{fd:FuncData} (F:Cu K "cleared" "cleared" iN f fd) (FI:Df P w K mg base 3 "scaled" ["field","row","number"] (mE C)) (DK:Dm P w K mg base 3 C "back" ["self","number"] (sR C)) (F1:Df P w K mg base 3 "without" ["field","row","lead","place"] (jZ C)):
  BF P w K mg base Co 4 f fd ["field","rows","start","at","place"] (kd C):=by
 refine F.k Fx fun BJ A outer s H vs Q E hr h=>?_
 ·obtain⟨f,x,p,st,a,q,wd,t,rfl,hf,hP,Fh,⟨ao,xs,rfl,ha,HP⟩,S,hq,hsa,OZ,Jc,qq⟩:=h
  have ND:=Fx.nd
  have Gr:2<=p:=((My.Cq p).mp hP).1
  have Ja:=Paired.length HP
  have EM:=S.EM
  have MW:=S.MW
  obtain⟨c,LR,GW⟩:=vk HP OZ
  have OQ:(t.getD a []).length=wd:=S.sh.Fe _ (mem_getD OZ)
  have JX:=(S.sh.fit (t.getD a []) (mem_getD OZ)).at (by omega) q
  have LP:0<(t.getD a []).getD q 0:=by
   have:(t.getD a []).getD q 0≠0:=Jc
   have:=JX.1
   have e0:Mx.e (t.getD a []) q=(t.getD a []).getD q 0:=rfl
   omega
  have hbk:=My.RT hP LP JX.2
  obtain⟨dx,Ks⟩:=id hf
  refine⟨_,(aa (pS 5 ND (ak FI hr.m rfl (a0 (pv 0) (a0 (pI (d0 K) (pv 1) (pv 3)) (a0 (aE (pv 0) DK hr.m (a0 (pI (d0 K) (pI (d0 K) (pv 1) (pv 3)) (pv 4)) ab)) ab)))))
 (aa (br (i:=6) ND rfl rfl rfl (cS 1 [0,4,5] ["row","field","place","lead"]) (bQ K (aB jQ (cK (p7 K) (pv 1) eN (cX (pv 3))) (cK (p7 K) (pv 1) (cX (aB cH (pv 3) ag)) eN)))
  (fun _ _ _ _ _=>(pC 0))
  (fun _ _ _ _ _=>aG)
  (fun _ _ _ _ _=>(ak F1 hr.m rfl (a0 (pv 1) (a0 (pv 0) (a0 (pv 3) (a0 (pv 2) ab)))))))
 (ad (am (aB jQ (aB jQ (cK (p7 K) (pv 6) eN (cX (pv 2))) (bE (a0 (pv 5) ab))) (cK (p7 K) (pv 6) (cX (pv 2)) eN)))))),?_⟩
  refine⟨_,rfl,_,rfl,_,rfl,ao,_,_,_,rfl,rfl,B'.of ha,cz LR,_,rfl,f,dx,_,rfl,Ks,rfl,_,rfl,_,rfl,ao,_,_,_,rfl,rfl,B'.of ha,cz LR,_,rfl,c,_,_,_,rfl,rfl,B'.of GW,lD (by omega),f,_,p,rfl,hf,hP,Fh,LP,JX.2,?_⟩
  refine⟨f,.ref c,p,My.bk p ((t.getD a []).getD q 0),t.getD a [],rfl,hf,by omega,hbk.1,by omega,⟨c,rfl,GW⟩,by omega,fun ll H1 e1 Wo Gs=>?_⟩
  generalize Yn:Mx.scaled p (t.getD a []) (My.bk p ((t.getD a []).getD q 0))=lead at Gs
  have a1e:lead.length=wd:=by rw[<- Yn];unfold Mx.scaled;rw[y6];exact OQ
  refine⟨_,rfl,_,rfl,_,rfl,ao,xs,rfl,B'.of (e1 _ _ ha),fun l1 H2 e2 _ DU=>?_⟩
  refine⟨_,rfl,_,rfl,_,_,rfl,rfl,_,rfl,ao,xs,rfl,B'.of (e2 _ _ (e1 _ _ ha)),fun l2 H3 e3 _ DP=>?_⟩
  have ea:(a:Int)+1=((a+1:Nat):Int):=by omega
  rw[ir]at DU
  rw[ea,lL]at DP
  refine⟨l1,l2,_,_,rfl,rfl,e3 _ _ DU,DP,Al (d7 (by simp;omega)),fun l3 H4 e4 _ Jq=>?_⟩
  have Jh:f' H H4:=e1.trans (e2.trans (e3.trans e4))
  have Yd:Paired (Rw H) (xs.take a++xs.drop (a+1)) (t.take a++t.drop (a+1)):=Paired.append' (Paired.take' a HP) (Paired.drop' (a+1) HP)
  have JW:=Paired.length Yd
  have Nt:(xs.take a++xs.drop (a+1)).length<=1000:=by simp;omega
  refine⟨l3,rfl,⟨_,B'.of Jq⟩,gT (K:=K) (fun i H v=>Rw H v (((t.take a++t.drop (a+1)).map fun r=>Mx.without p r lead q).getD i [])) (fun i H H' v e h=>h.mono e) (B'.of Jq) Nt (fun i x H5 ex e5=>?_) (fun lo H5 vs Kq e5 Ra QI Vk=>?_)⟩
  ·obtain⟨r,er,hx⟩:=Paired.at Yd ex
   have R6:r∈t:=Mx.Dg (yj er)
   have Vw:=S.sh.Fe r R6
   have eg:((t.take a++t.drop (a+1)).map fun r=>Mx.without p r lead q).getD i []=Mx.without p r lead q:=aD (by rw[ye,er];rfl)
   rw[eg]
   refine⟨_,rfl,_,rfl,_,rfl,_,rfl,f,x,.ref ll,p,q,r,lead,rfl,hf.mono (Jh.trans e5),by omega,Fh,hx.mono (Jh.trans e5),⟨ll,rfl,(e2.trans (e3.trans (e4.trans e5))) _ _ Gs⟩,by omega,by omega,by omega,S.sh.fit r R6,fun v H6 e6 hv=>⟨rQ (e5.trans e6) ?_,e6⟩⟩
   rcases hv with⟨rfl,hv⟩|hv
   ·left
    rw[hv]
    exact hx.mono Jh
   ·exact .inr hv
  have hv2:=x5 (by rw[QI,JW,y6]) Vk
  have a0R:vs.length<=100:=by rw[QI,JW];simp;omega
  refine⟨_,rfl,_,rfl,_,rfl,lo,vs,rfl,B'.of Ra,fun m1 H6 e6 _ Ym=>?_⟩
  rw[ir]at Ym
  refine⟨_,rfl,(by show 1<=sizeLine;decide),fun m2 H7 e7 _ VI=>?_⟩
  refine⟨m1,m2,_,_,rfl,rfl,e7 _ _ Ym,VI,Al (d7 (by simp;omega)),fun m3 H8 e8 _ hm3=>?_⟩
  refine⟨_,rfl,_,rfl,_,rfl,lo,vs,rfl,B'.of ((e6.trans (e7.trans e8)) _ _ Ra),fun m4 H9 e9 _ T6=>?_⟩
  rw[lL]at T6
  refine⟨m3,m4,_,_,rfl,rfl,e9 _ _ hm3,T6,Al (d7 (by simp;omega)),fun m5 JA Jx _ T5=>?_⟩
  have O6:f' H5 JA:=e6.trans (e7.trans (e8.trans (e9.trans Jx)))
  have XU:Paired (Rw JA) vs _:=Paired.Cp hv2 fun _ _ z=>z.mono O6
  refine qq m5 JA (Jh.trans (e5.trans O6)) ⟨m5,_,rfl,T5,?_⟩
  have Rf:Rw JA (.ref ll) lead:=⟨ll,rfl,(e2.trans (e3.trans (e4.trans (e5.trans O6)))) _ _ Gs⟩
  have:=Paired.append' (Paired.append' (Paired.take' st XU) (Paired.cons Rf .nil)) (Paired.drop' st XU)
  unfold Mx.cleared
  show Paired (Rw JA) _ (((t.take a++t.drop (a+1)).map fun r=>Mx.without p r (Mx.scaled p (t.getD a []) (My.bk p ((t.getD a []).getD q 0))) q).take st++[Mx.scaled p (t.getD a []) (My.bk p ((t.getD a []).getD q 0))]++((t.take a++t.drop (a+1)).map fun r=>Mx.without p r (Mx.scaled p (t.getD a []) (My.bk p ((t.getD a []).getD q 0))) q).drop st)
  rw[Yn]
  exact this
noncomputable abbrev red (p:Int)(t:List (List Int))(m:Nat):List (List Int):=(Mx.run p (My.bk p) t m).1
noncomputable def gv (C:Addr):Sp:=fun vs H Q _=>∃ (f:Addr)(x:V)(p:Int)(m wd:Nat)(t:List (List Int)),vs=[.ref f,x,.int (m:Int)]/\BW C H f p/\My.Ee p=true/\p<=1000000/\Tb H x t/\M6 p wd t/\m<=wd/\
 ∀ l H',f' H H'->Tb H' (.ref l) (red p t m)->Q (.ref l) H'
noncomputable abbrev iL:Stmt:=top 44
theorem Fv:ai ["field","table","many","rows","start","place","at"] ["field","table","many"] (af iL):=CG
theorem rU {f C:Addr}{fd:FuncData} (F:Cu K "reduced" "reduced" iL f fd) (T:sH mg) (DH:Df P w K mg base 2 "fitted_row" ["field","row"] (gk C)) (Et:Df P w K mg base 1 "row_with" ["rows","start","place"] jd) (F6:Df P w K mg base 4 "cleared" ["field","rows","start","at","place"] (kd C)):
  BF P w K mg base Co 5 f fd ["field","table","many"] (gv C):=by
 refine F.k Fv fun BJ A outer s H vs Q E hr h=>?_
 ·obtain⟨f,x,p,m,wd,t,rfl,hf,hP,Fh,⟨ao,xs,rfl,ha,HP⟩,S,hm,qq⟩:=h
  have ND:=Fv.nd
  have Gr:2<=p:=((My.Cq p).mp hP).1
  have Ja:=Paired.length HP
  have EM:=S.EM
  have MW:=S.MW
  refine⟨_,(aa (br (i:=3) ND rfl rfl rfl (cS 1 [0] ["row","field"]) (bQ K (pv 1))
  (fun _ _ _ _ _=>(pC 0))
  (fun _ _ _ _ _=>aG)
  (fun _ _ _ _ _=>(ak DH hr.m rfl (a0 (pv 1) (a0 (pv 0) ab)))))
 (aa (pS 4 ND ag)
 (aa (bi yS rfl (cf rfl T.CA (a0 (pv 2) ab)) (pN 5 ND)
  (aa (pS 6 ND (ak Et hr.m rfl (a0 (pv 3) (a0 (pv 4) (a0 (pv 5) ab)))))
 (ad (aK (pT ia (pv 6) cv)
  (aa (pS 3 ND (ak F6 hr.m rfl (a0 (pv 0) (a0 (pv 3) (a0 (pv 4) (a0 (pv 6) (a0 (pv 5) ab)))))))
 (ad (vp (i:=4) ND rfl (by first|exact Or.inl rfl|exact Or.inr rfl) ag w6)))
  ay))))
 (ad (am (pv 3)))))),?_⟩
  refine⟨_,rfl,ao,rfl,⟨_,B'.of ha⟩,lM (K:=K) (fun i=>(t.getD i []).map (· % p)) ha (by omega) (fun i x H2 ex e=>?_) (fun l1 H1 hN e1=>?_)⟩
  ·obtain⟨r,er,hx⟩:=Paired.at HP ex
   refine⟨_,rfl,_,rfl,f,x,p,r,rfl,hf.mono e,by omega,hx.mono e,by rw[S.sh.Fe r (yj er)];omega,fun l3 H3 e3 YK Jq=>⟨⟨l3,rfl,YK,?_⟩,e3⟩⟩
   rw[aD er];exact Jq
  have Wz:(List.range xs.length).map (fun i=>(t.getD i []).map (· % p))=t:=by
   rw[Ja]
   have:=fH (t:=t) (f:=fun r=>r.map (· % p))
   rw[this]
   conv=>rhs;rw[<- As t]
   exact z7 fun r hr=>Mx.Hv (S.sh.fit r hr)
  rw[Wz]at hN
  refine⟨_,rfl,_,rfl,by omega,by omega,eA (n:=((m:Nat):Int).toNat) (fun i σ H2=>∃ (lr:Addr)(o5 o6:Option V),σ=[some (.ref f),some (.ref ao),some (.int (m:Int)),some (.ref lr),some (.int ((Mx.run p (My.bk p) t i).2:Int)),o5,o6]/\f' H H2/\Tb H2 (.ref lr) (red p t i))
   ⟨l1,none,none,rfl,e1,hN.tb⟩ ?_ ?_⟩
  ·rintro i σ H2 hi ⟨lr,o5,o6,rfl,e2,hT⟩
   rw[yZ]at hi
   obtain⟨ps,h1,h2,h3,_⟩:=Mx.RR.run (bk:=My.bk p) (by omega) (My.FH hP) S.sh i
   have Sr:M6 p wd (red p t i):=⟨h2.sh,by show (red p t i).length<=100;rw[show (red p t i).length=t.length from h3];exact EM,MW⟩
   have IS:(Mx.run p (My.bk p) t i).2<=(red p t i).length:=by rw[h1];exact h2.len
   have ei:(0+(i:Int))=(i:Int):=AM _
   have JQ:=Mx.ED p (My.bk p) t i
   refine⟨_,rfl,_,rfl,_,rfl,.ref lr,(Mx.run p (My.bk p) t i).2,i,red p t i,by rw[ei];rfl,hT,by have:=Sr.EM;omega,IS,by omega,fun r hr=>by rw[Sr.sh.Fe r hr];omega,?_⟩
   cases OQ:Mx.Ct (red p t i) (Mx.run p (My.bk p) t i).2 i with
   | none=>
    refine⟨_,rfl,rfl,_,rfl,jt rfl ?_⟩
    have es:Mx.run p (My.bk p) t (i+1)=Mx.run p (My.bk p) t i:=by
     rw[JQ]
     unfold Mx.step
     rw[OQ]
    refine⟨lr,some (.int (0+(i:Int))),some (nY none),?_,e2,?_⟩
    ·rw[es];rfl
    ·show Tb H2 (.ref lr) (Mx.run p (My.bk p) t (i+1)).1
     rw[es];exact hT
   | some a=>
    obtain⟨g1,g2,g3⟩:=Mx.EE OQ
    refine⟨_,rfl,rfl,_,rfl,LF (fun z=>nomatch z) ?_⟩
    refine⟨_,rfl,_,rfl,_,rfl,_,rfl,_,rfl,f,.ref lr,p,(Mx.run p (My.bk p) t i).2,a,i,wd,red p t i,by rw[ei];rfl,hf.mono e2,hP,Fh,hT,Sr,by omega,g1,g2,g3,fun l4 H4 e4 hT4=>?_⟩
    refine⟨_,rfl,_,_,rfl,rfl,l4,some (.int (0+(i:Int))),some (nY (some a)),?_,e2.trans e4,?_⟩
    ·have es:(Mx.run p (My.bk p) t (i+1)).2=(Mx.run p (My.bk p) t i).2+1:=by
      rw[JQ]
      unfold Mx.step
      rw[OQ]
     rw[es]
     rfl
    ·have es:(Mx.run p (My.bk p) t (i+1)).1=Mx.cleared p (My.bk p) (red p t i) (Mx.run p (My.bk p) t i).2 a i:=by
      rw[JQ]
      unfold Mx.step
      rw[OQ]
     show Tb H4 (.ref l4) (Mx.run p (My.bk p) t (i+1)).1
     rw[es];exact hT4
  ·rintro σ H2 ⟨lr,o5,o6,rfl,e2,hT⟩
   rw[yZ]at hT
   exact⟨_,rfl,qq lr H2 e2 hT⟩
noncomputable def fA:Sp:=fun vs H Q _=>∃ (x:V)(m:Nat)(r:List Int),vs=[x,.int (m:Int)]/\Rw H x r/\m<=r.length/\r.length<=1000/\Q (nY (Mx.Ce r m)) H
noncomputable abbrev dD:Stmt:=top 45
theorem E1:ai ["row","many","place"] ["row","many"] (af dD):=CG
theorem l6 {f:Addr}{fd:FuncData} (F:Cu K "first_place" "first_place" dD f fd) (T:sH mg):BF P w K mg base Co 1 f fd ["row","many"] fA:=by
 refine F.k E1 fun BJ A outer s H vs Q E hr h=>?_
 ·obtain⟨x,m,r,rfl,⟨a,rfl,ha⟩,hm,hz,qq⟩:=h
  have ND:=E1.nd
  refine⟨_,(aa (bi yS rfl (cf rfl T.CA (a0 (pv 1) ab)) (pN 2 ND)
  (ad (aK (pT ic (pI (d0 K) (pv 0) (pv 2)) ag)
  (ad (am (pv 2)))
  ay)))
 (ad (am cv))),?_⟩
  refine⟨_,rfl,_,rfl,by omega,by omega,eA (n:=((m:Nat):Int).toNat) (fun i σ H2=>∃ o,σ=[some (.ref a),some (.int (m:Int)),o]/\H2=H/\∀ j,j<i->Mx.e r j=0)
   ⟨none,rfl,rfl,fun j hj=>absurd hj (Nat.not_lt_zero _)⟩ ?_ ?_⟩
  ·rintro i σ H2 hi ⟨o,rfl,rfl,j'⟩
   rw[yZ]at hi
   have ei:(0+(i:Int))=(i:Int):=AM _
   refine⟨_,rfl,_,rfl,a,_,_,_,rfl,rfl,B'.of ha,by rw[ei];exact lD (by omega),rfl,_,rfl,bH (fun hc=>?_) (fun hc=>?_)⟩
   ·have Jc:Mx.e r i≠0:=fun z=>by
     have z':r.getD i 0=0:=z
     rw[z',yo rfl]at hc
     cases hc
    refine⟨_,rfl,?_⟩
    rw[Mx.DQ hi Jc j']at qq
    rw[ei]
    exact qq
   ·refine⟨_,rfl,rfl,fun j hj=>?_⟩
    by_cases cj:j<i
    ·exact j' j cj
    ·have:j=i:=by omega
     subst this
     by_cases z:Mx.e r j=0
     ·exact z
     ·exact absurd (by rw[yq (fun y=>z (by injection y))];rfl) hc
  ·rintro σ H2 ⟨o,rfl,rfl,j'⟩
   rw[yZ]at j'
   rw[Mx.DR j']at qq
   exact qq
noncomputable def aP (ps:List Nat):List V:=ps.map fun (q:Nat)=>V.int (q:Int)
noncomputable def dc:Sp:=fun vs H Q _=>∃ (x:V)(m wd:Nat)(t:List (List Int)),vs=[x,.int (m:Int)]/\Tb H x t/\(∀ r∈t,r.length=wd)/\m<=wd/\wd<=1000/\t.length<=1000/\∀ l H',f' H H'->H l=none->H' l=some (.lst (aP (Mx.BM t m)))->Q (.ref l) H'
noncomputable abbrev dB:Stmt:=top 46
theorem DY:ai ["rows","many","places"] ["rows","many"] (af dB):=CG
theorem kY {f:Addr}{fd:FuncData} (F:Cu K "lead_places" "lead_places" dB f fd) (DA:Df P w K mg base 1 "first_place" ["row","many"] fA):BF P w K mg base Co 2 f fd ["rows","many"] dc:=by
 refine F.k DY fun BJ A outer s H vs Q E hr h=>?_
 ·obtain⟨x,m,wd,t,rfl,⟨ao,xs,rfl,ha,HP⟩,hw,hm,hwd,hz,qq⟩:=h
  have ND:=DY.nd
  have Ja:=Paired.length HP
  refine⟨_,(aa (br (i:=2) ND rfl rfl rfl (cS 1 [1] ["row","many"]) (bQ K (pv 0))
  (fun _ _ _ _ _=>(pC 0))
  (fun _ _ _ _ _=>aG)
  (fun _ _ _ _ _=>(ak DA hr.m rfl (a0 (pv 0) (a0 (pv 1) ab)))))
 (ad (am (aV rfl (cS 1 [] ["place"]) (bQ K (pv 2))
  (fun _ _ _ _ _=>(pC 0))
  (fun _ _ _ _ _=>(cJ (pT ia (pv 0) cv)))
  (fun _ _ _ _ _=>(pv 0)))))),?_⟩
  refine⟨_,rfl,ao,rfl,⟨_,B'.of ha⟩,gT (K:=K) (fun i _ v=>v=nY (Mx.Ce (t.getD i []) m)) (fun i H H' v e h=>h) (B'.of ha) (by omega) (fun i x H2 ex e=>?_) (fun l1 H1 vs DU e1 BU QI Vk=>?_)⟩
  ·obtain⟨r,er,hx⟩:=Paired.at HP ex
   have:=hw r (yj er)
   exact⟨_,rfl,_,rfl,x,m,r,rfl,hx.mono e,by omega,by omega,fun l _ _=>by rw[aD er],f'.refl _⟩
  have YU:vs=(t.map fun r=>Mx.Ce r m).map nY:=by
   apply zq
   intro i
   rw[ye,ye]
   by_cases hi:i<vs.length
   ·have hit:i<t.length:=by omega
    rw[y8 hi,Vk i _ (y8 hi),y8 hit,aD (y8 hit)]
    rfl
   ·rw[yp (by omega),yp (by omega)]
    rfl
  generalize R1:(t.map fun r=>Mx.Ce r m)=ops at YU
  have OT:ops.length=t.length:=by rw[<- R1,y6]
  subst YU
  have Jp:Mx.BM t m=ops.filterMap id:=by rw[<- R1];rfl
  refine⟨_,rfl,l1,rfl,⟨_,B'.of BU⟩,uV (K:=K) (a:=l1) (xs:=ops.map nY) (fun l i H2=>H1 l=none/\f' H1 H2/\H2 l=some (.lst (aP ((ops.take i).filterMap id))))
   (fun l hl=>⟨hl,aq (f'.refl _) hl,by rw[zU];exact a9⟩) (fun l i H2 _ h=>B'.of (h.2.1 _ _ BU)) (fun l i x H2 ex h=>?_) (fun l H2 h=>?_)⟩
  ·obtain⟨BX,e2,hl⟩:=h
   rw[ye]at ex
   cases eo:ops[i]? with
   | none=>rw[eo]at ex;cases ex
   | some o=>
    rw[eo]at ex
    have ex:x=nY o:=(Option.some.inj ex).symm
    subst ex
    have LV:ops.take (i+1)=ops.take i++[o]:=by rw[z6,eo];rfl
    cases o with
    | none=>
     refine⟨_,rfl,rfl,_,rfl,jt rfl ⟨BX,e2,?_⟩⟩
     rw[LV,List.filterMap_append]
     simpa using hl
    | some q=>
     refine⟨_,rfl,rfl,_,rfl,LF (fun z=>nomatch z) ?_⟩
     refine⟨_,rfl,_,hl,?_,BX,ar e2 BX,?_⟩
     ·refine d7 ?_
      unfold aP
      rw[y6]
      have:=List.length_filterMap_le id (ops.take i)
      rw[yM]at this
      omega
     ·rw[a9,LV,List.filterMap_append]
      unfold aP
      simp[nY]
  ·obtain⟨BX,e2,hl⟩:=h
   refine qq l H2 (e1.trans e2) (e1.free BX) ?_
   rw[hl,Jp,zy (by simp)]
noncomputable def vo (p:Int)(t:List (List Int))(wd:Nat):Nat:=(Mx.BM (red p t wd) wd).length
theorem ou (t:List (List Int)):(List.range t.length).map (fun i=>t.getD i []++Mx.BG t.length i)=Mx.joined t:=by
 apply zq
 intro i
 rw[ye]
 by_cases h:i<t.length
 ·rw[z8 h,Mx.EV t i h]
  show some (t.getD i []++Mx.BG t.length i)=_
  rw[aD (y8 h)]
 ·rw[yp (by simpa using h),yp (by rw[Mx.Cv];omega)]
  rfl
theorem xt {n i:Nat}{o:List Int} (h:(Mx.ones n)[i]?=some o):i<n/\o=Mx.BG n i:=by
 unfold Mx.ones at h
 rw[ye]at h
 by_cases c:i<n
 ·rw[z8 c]at h
  exact⟨c,(Option.some.inj h).symm⟩
 ·rw[yp (by simpa using c)]at h
  cases h
theorem lF (i:Nat):∀ (ps:List Nat),Jl (.int (0+(i:Int))) (aP ps)=decide (i∈ps)
 | []=>rfl
 | q::ps=>by
  have ih:=lF i ps
  unfold Jl aP at ih ⊢
  rw[yJ,AE,ih]
  have:IX (.int (q:Int)) (.int (0+(i:Int)))=decide (q=i):=by
   show ((q:Int)==0+(i:Int))=decide (q=i)
   rw[zr,Ad,Aw]
   omega
  rw[this]
  rw[zr]
  simp only[Bool.or_eq_true,B5,yx]
  constructor
  ·rintro (h|h)
   ·exact .inl h.symm
   ·exact .inr h
  ·rintro (h|h)
   ·exact .inl h.symm
   ·exact .inr h
theorem jx:∀ (ps:List Nat),(aP ps).all ff=true
 | []=>rfl
 | q::ps=>by
  have ih:=jx ps
  unfold aP at ih ⊢
  rw[yJ,List.all_cons,ih]
  rfl
theorem jh (p:Int)(u:Nat)(r:List Int)(q:Nat):∀ (l:List (List Int×Nat))(v:List Int),Mx.D0 p u (l++[(r,q)]) v=(Mx.D0 p u l v).set q ((0 - Mx.e r u) % p)
 | [],v=>rfl
 | (r',q')::l,v=>jh p u r q l _
theorem xM {n q:Nat}(h:q<n):Ko n (q:Int)=some q:=by
 unfold Ko
 rw[if_pos (Int.natCast_nonneg q)]
 simp[h]
noncomputable def mF (C:Addr):Sp:=fun vs H Q _=>∃ (f:Addr)(x:V)(p:Int)(m:Nat)(t:List (List Int)),vs=[.ref f,x,.int (m:Int)]/\BW C H f p/\My.Ee p=true/\p<=1000000/\Tb H x t/\M6 p m t/\m<=100/\
 ((Mx.BM (red p (Mx.joined t) m) m).length<m->∀ H',f' H H'->Q .non H')/\
 (¬ (Mx.BM (red p (Mx.joined t) m) m).length<m->∀ l H',f' H H'->Le H H' l (((red p (Mx.joined t) m).take m).map (List.drop m))->Q (.ref l) H')
noncomputable abbrev ku:Stmt:=top 47
theorem Gf:ai ["field","table","many","joined","rows"] ["field","table","many"] (af ku):=CG
theorem uy {f C:Addr}{fd:FuncData} (F:Cu K "reader" "reader" ku f fd) (T:sH mg) (F3:Df P w K mg base 2 "ones" ["many"] nF) (Cy:Df P w K mg base 2 "lead_places" ["rows","many"] dc) (Dj:Df P w K mg base 5 "reduced" ["field","table","many"] (gv C)):
  BF P w K mg base Co 6 f fd ["field","table","many"] (mF C):=by
 refine F.k Gf fun BJ A outer s H vs Q E hr h=>?_
 ·obtain⟨f,x,p,m,t,rfl,hf,hP,Fh,hT,S,hm,q1,q2⟩:=h
  have ND:=Gf.nd
  obtain⟨ao,xs,rfl,ha,HP⟩:=id hT
  have Ja:=Paired.length HP
  have EM:=S.EM
  have Gr:2<=p:=((My.Cq p).mp hP).1
  refine⟨_,(aa (br (i:=3) ND rfl rfl rfl (cS 2 [] ["row","own"]) (pQ K rfl T.DN (a0 (pv 1) (a0 (ak F3 hr.m rfl (a0 (aw (dJ K) rfl T.Ci boot_len (a0 (pv 1) ab)) ab)) ab)))
  (fun _ _ _ _ _=>(dl K (n:=2) rfl (aj (pC 0) (aj (pC 1) aX))))
  (fun _ _ _ _ _=>aG)
  (fun _ _ _ _ _=>(aB jQ (pv 0) (pv 1))))
 (aa (pS 4 ND (ak Dj hr.m rfl (a0 (pv 0) (a0 (pv 3) (a0 (pv 2) ab)))))
 (aa (aK (pT kU (aw (dJ K) rfl T.Ci boot_len (a0 (ak Cy hr.m rfl (a0 (pv 4) (a0 (pv 2) ab))) ab)) (pv 2))
  (ad (am cv))
  ay)
 (ad (am (aV rfl (cS 1 [2] ["row","many"]) (bQ K (cK (p7 K) (pv 4) eN (cX (pv 2))))
  (fun _ _ _ _ _=>(pC 0))
  (fun _ _ _ _ _=>aG)
  (fun _ _ _ _ _=>(cK (p7 K) (pv 0) (cX (pv 1)) eN)))))))),?_⟩
  refine⟨_,rfl,_,rfl,ao,_,rfl,.inl (B'.of ha),xs.length,rfl,by omega,fun lo H1 e1 Tn=>?_⟩
  rw[Ja]at Tn
  obtain⟨VJ,os,Yf,Y'⟩:=id Tn
  have OT:os.length=t.length:=by rw[Paired.length Y'];unfold Mx.ones;simp
  refine⟨ao,lo,rfl,⟨_,B'.of (e1 _ _ ha)⟩,⟨_,B'.of Yf⟩,uX (K:=K) (fun i=>t.getD i []++Mx.BG t.length i) (e1 _ _ ha) Yf (by omega) (fun i x y T' H2 ex ey e2 Ry=>?_) (fun lj H2 YE e2=>?_)⟩
  ·obtain⟨r,er,cr,rfl,Ru⟩:=Paired.at HP ex
   obtain⟨o,eo,co,rfl,a1D,hco⟩:=Paired.at Y' ey
   obtain⟨hi,rfl⟩:=xt eo
   have e3:f' H2 (upd H2 T' (.tup [.ref cr,.ref co])):=aq (f'.refl _) Ry
   have Vw:=S.sh.Fe r (yj er)
   refine⟨_,rfl,_,rfl,cr,co,_,_,rfl,rfl,e3 _ _ (e2 _ _ (e1 _ _ Ru)),e3 _ _ (e2 _ _ hco),Al (d7 ?_),fun l5 H5 e5 YI Yq=>⟨⟨l5,rfl,e3.free YI,?_⟩,e3.trans e5⟩⟩
   ·rw[y6,y6,Mx.Cm];omega
   ·rw[Yq,aD er,yN]
  rw[Ja,OT,Bu,ou]at YE
  have Sj:M6 p (m+t.length) (Mx.joined t):=⟨Mx.EU (by omega) S.sh,by rw[Mx.Cv];exact EM,by omega⟩
  refine⟨_,rfl,_,rfl,_,rfl,f,.ref lj,p,m,m+t.length,Mx.joined t,rfl,hf.mono (e1.trans e2),hP,Fh,YE.tb,Sj,by omega,fun lr H3 e3 P0=>?_⟩
  obtain⟨ps,h1,h2,h3,_⟩:=Mx.RR.run (bk:=My.bk p) (by omega) (My.FH hP) Sj.sh m
  have Vw:(red p (Mx.joined t) m).length=t.length:=by rw[show (red p (Mx.joined t) m).length=(Mx.joined t).length from h3,Mx.Cv]
  refine⟨_,rfl,_,rfl,.ref lr,m,m+t.length,red p (Mx.joined t) m,rfl,P0,h2.sh.Fe,by omega,by omega,by omega,fun l4 H4 e4 _ VO=>?_⟩
  have En:(aP (Mx.BM (red p (Mx.joined t) m) m)).length=(Mx.BM (red p (Mx.joined t) m) m).length:=by unfold aP;rw[y6]
  have Jh:f' H H4:=e1.trans (e2.trans (e3.trans e4))
  refine⟨l4,_,rfl,.inl (B'.of VO),_,rfl,_,_,rfl,rfl,_,rfl,bH (fun c=>?_) (fun c=>?_)⟩
  ·have c':=yA c
   rw[En]at c'
   exact q1 (by omega) H4 Jh
  ·have c':¬ ((aP (Mx.BM (red p (Mx.joined t) m) m)).length:Int)<(m:Int):=fun z=>c (yo z)
   rw[En]at c'
   obtain⟨lro,Sz,Wy,Vu,QW⟩:=P0
   cases Wy
   have QT:=Paired.length QW
   refine⟨_,rfl,_,rfl,_,rfl,lr,_,rfl,B'.of (e4 _ _ Vu),fun l7 H7 e7 h07 KQ=>?_⟩
   rw[ir]at KQ
   have Yb:=Paired.take' m QW
   have QX:=Paired.length Yb
   refine⟨l7,rfl,⟨_,B'.of KQ⟩,lM (K:=K) (fun i=>(((red p (Mx.joined t) m).take m).getD i []).drop m) KQ (by rw[QX,yM];omega) (fun i x H8 ex e8=>?_) (fun l9 H9 Wg e9=>?_)⟩
   ·obtain⟨r,er,cr,rfl,Ru⟩:=Paired.at Yb ex
    refine⟨_,rfl,_,rfl,_,rfl,cr,_,rfl,B'.of (e8 _ _ (e7 _ _ (e4 _ _ Ru))),fun l H e h0 hl=>⟨⟨l,rfl,h0,?_⟩,e⟩⟩
    rw[hl,lL,aD er,List.map_drop]
   ·rw[QX,fH (f:=List.drop m)]at Wg
    have WD:f' H H7:=Jh.trans e7
    refine q2 (by omega) l9 H9 (WD.trans e9) ⟨WD.free Wg.1,?_⟩
    obtain⟨_,zs,IP,EW⟩:=Wg
    exact⟨zs,IP,Paired.Cp EW fun x r j'=>(by obtain⟨c,q1,q2,q3⟩:=j';exact⟨c,q1,WD.free q2,q3⟩)⟩
noncomputable def eS (p:Int)(t:List (List Int))(m:Nat):List Nat:=Mx.BM (red p t m) m
noncomputable def be (p:Int)(t:List (List Int))(m:Nat):List Nat:=(List.range m).filter fun q=>!decide (q∈eS p t m)
noncomputable def mG (C:Addr):Sp:=fun vs H Q _=>∃ (f:Addr)(x:V)(p:Int)(m:Nat)(t:List (List Int)),vs=[.ref f,x,.int (m:Int)]/\BW C H f p/\My.Ee p=true/\p<=1000000/\Tb H x t/\M6 p m t/\
 (be p t m=[]->∀ H',f' H H'->Q .non H')/\
 (∀ u rest,be p t m=u::rest->∀ l H',f' H H'->H l=none->H' l=some (.lst ((Mx.BY p (red p t m) (eS p t m) m u).map V.int))->Q (.ref l) H')
noncomputable abbrev kx:Stmt:=top 48
theorem Gg:ai ["field","table","many","rows","places","unled","told","row","place"] ["field","table","many"] (af kx):=CG
theorem uz {f C:Addr}{fd:FuncData} (F:Cu K "nought" "nought" kx f fd) (T:sH mg) (Cy:Df P w K mg base 2 "lead_places" ["rows","many"] dc) (Dj:Df P w K mg base 5 "reduced" ["field","table","many"] (gv C)) (D2:Df P w K mg base 1 "ones_row" ["many","own"] fu)
  (Cz:Dm P w K mg base 2 C "minus" ["self","one","other"] (k8 C)):BF P w K mg base Co 6 f fd ["field","table","many"] (mG C):=by
 refine F.k Gg fun BJ A outer s H vs Q E hr h=>?_
 ·obtain⟨f,x,p,m,t,rfl,hf,hP,Fh,hT,S,q1,q2⟩:=h
  have ND:=Gg.nd
  have EM:=S.EM
  have MW:=S.MW
  have Gr:2<=p:=((My.Cq p).mp hP).1
  obtain⟨ps,h1,h2,h3,_⟩:=Mx.RR.run (bk:=My.bk p) (by omega) (My.FH hP) S.sh m
  have Vw:(red p t m).length=t.length:=h3
  have Wx:eS p t m=ps:=Mx.CJ h2
  refine⟨_,(aa (pS 3 ND (ak Dj hr.m rfl (a0 (pv 0) (a0 (pv 1) (a0 (pv 2) ab)))))
 (aa (pS 4 ND (ak Cy hr.m rfl (a0 (pv 3) (a0 (pv 2) ab))))
 (aa (br (i:=5) ND rfl rfl rfl (cS 1 [4] ["place","places"]) (cf rfl T.CA (a0 (pv 2) ab))
  (fun _ _ _ _ _=>(pC 0))
  (fun _ _ _ _ _=>(cJ (pT (oo K) (pv 0) (pv 1) (by with_unfolding_all rfl))))
  (fun _ _ _ _ _=>(pv 0)))
 (aa (aK (pT bP (aw (dJ K) rfl T.Ci boot_len (a0 (pv 5) ab)) ag)
  (ad (am cv))
  ay)
 (aa (pS 6 ND (ak D2 hr.m rfl (a0 (pv 2) (a0 (pI (d0 K) (pv 5) ag) ab))))
 (aa (bi yS rfl (pQ K rfl T.DN (a0 (pv 3) (a0 (pv 4) ab))) (dl K (n:=2) rfl (aj (pN 7 ND) (aj (pN 8 ND) aX)))
  (ad (vq (aE (pv 0) Cz hr.m (a0 ag (a0 (pI (d0 K) (pv 7) (pI (d0 K) (pv 5) ag)) ab))) (MC (pv 6) (pv 8) vf))))
 (ad (am (pv 6))))))))),?_⟩
  refine⟨_,rfl,_,rfl,_,rfl,f,x,p,m,m,t,rfl,hf,hP,Fh,hT,S,yh _,fun lr H1 e1 Ti=>?_⟩
  refine⟨_,rfl,_,rfl,.ref lr,m,m,red p t m,rfl,Ti,h2.sh.Fe,yh _,by omega,by omega,fun lp H2 e2 Tq Jp=>?_⟩
  have Jp:H2 lp=some (.lst (aP ps)):=by rw[<- Wx];exact Jp
  refine⟨_,rfl,_,rfl,by omega,by omega,sB (n:=((m:Nat):Int).toNat) (fun l i H3=>H2 l=none/\f' H2 H3/\H3 l=some (.lst (aP ((List.range i).filter fun q=>!decide (q∈ps)))))
   (fun l hl=>⟨hl,aq (f'.refl _) hl,a9⟩) (fun l i H3 hi h=>?_) (fun lu H3 h=>?_)⟩
  ·obtain⟨BX,e3,hl⟩:=h
   rw[yZ]at hi
   refine⟨_,rfl,_,rfl,lp,_,rfl,.inl (B'.of (e3 _ _ Jp)),rfl,jx ps,_,rfl,?_⟩
   have hb:(if true=true then !Jl (V.int (0+(i:Int))) (aP ps) else Jl (V.int (0+(i:Int))) (aP ps))=!decide (i∈ps):=by
    rw[if_pos rfl,lF]
   refine bH (fun c=>?_) (fun c=>?_)
   ·have c':(!decide (i∈ps))=true:=hb▸c
    refine⟨_,rfl,_,hl,d7 ?_,BX,ar e3 BX,?_⟩
    ·unfold aP
     rw[y6]
     have:=zj (fun q=>!decide (q∈ps)) (List.range i)
     rw[zi]at this
     omega
    ·rw[a9,Ak,AV,List.filter_cons_of_pos (p:=fun q=>!decide (q∈ps)) c']
     unfold aP
     simp
   ·have c':¬ (!decide (i∈ps))=true:=fun z=>c (hb▸z)
    refine⟨BX,e3,?_⟩
    rw[Ak,AV,List.filter_cons_of_neg (p:=fun q=>!decide (q∈ps)) c']
    simpa using hl
  obtain⟨a1b,e3,R8⟩:=h
  rw[yZ]at R8
  have eun:(List.range m).filter (fun q=>!decide (q∈ps))=be p t m:=by unfold be;rw[Wx]
  rw[eun]at R8
  have HI:f' H H3:=e1.trans (e2.trans e3)
  have hul:(aP (be p t m)).length=(be p t m).length:=by unfold aP;rw[y6]
  refine⟨_,rfl,lu,_,rfl,.inl (B'.of R8),rfl,_,rfl,bH (fun c=>?_) (fun c=>?_)⟩
  ·have c':=yA c
   injection c' with c'
   exact q1 (List.eq_nil_of_length_eq_zero (by omega)) H3 HI
  ·obtain⟨u,rest,eu⟩:∃ u rest,be p t m=u::rest:=by
    cases e:be p t m with
    | nil=>exact absurd (yo (by rw[e];rfl)) c
    | cons u rest=>exact⟨u,rest,rfl⟩
   have LI:u∈be p t m:=by rw[eu];exact yw
   have XW:u<m:=by
    unfold be at LI
    exact zz.mp (zd.mp LI).1
   have Zc:GZ (aP (be p t m)) 0=some (.int (u:Int)):=cz (j:=0) (by rw[eu];rfl)
   refine⟨_,rfl,_,rfl,lu,_,_,_,rfl,rfl,B'.of R8,Zc,m,u,rfl,by omega,fun lt H4 e4 YJ BU=>?_⟩
   obtain⟨lro,Sz,Wy,Vu,QW⟩:=Ti
   cases Wy
   have QT:=Paired.length QW
   have QU:H3 lr=some (.lst Sz):=(e2.trans e3) _ _ Vu
   have R9:H3 lp=some (.lst (aP ps)):=e3 _ _ Jp
   refine⟨_,rfl,_,rfl,lr,lp,rfl,⟨_,B'.of (e4 _ _ QU)⟩,⟨_,B'.of (e4 _ _ R9)⟩,oA (K:=K) (a:=lr) (b:=lp) (xs:=Sz) (ys:=aP ps)
    (fun i σ H5=>∃ o7 o8,σ=[some (.ref f),some x,some (.int (m:Int)),some (.ref lr),some (.ref lp),some (.ref lu),some (.ref lt),o7,o8]/\f' H3 H5/\H5 lt=some (.lst ((Mx.D0 p u (((red p t m).zip ps).take i) (Mx.BG m u)).map V.int)))
    ⟨none,none,rfl,e4,BU⟩ (fun i σ H5 _ j'=>(by obtain⟨_,_,_,e,_⟩:=j';exact⟨B'.of (e _ _ QU),B'.of (e _ _ R9)⟩)) ?_ ?_⟩
   ·rintro i x y T' σ H5 ex ey ⟨o7,o8,rfl,e5,KP⟩ Ry
    obtain⟨r,er,cr,rfl,Ru⟩:=Paired.at QW ex
    obtain⟨q,eq,rfl⟩:∃ q,ps[i]?=some q/\y=.int (q:Int):=by
     unfold aP at ey
     rw[ye]at ey
     cases e:ps[i]? with
     | none=>rw[e]at ey;cases ey
     | some q=>rw[e]at ey;exact⟨q,rfl,(Option.some.inj ey).symm⟩
    have Vy:q<m:=h2.lt q (yj eq)
    have a0X:r.length=m:=h2.sh.Fe r (yj er)
    have e6:=aq (o:=.tup [V.ref cr,V.int (q:Int)]) (f'.refl H5) Ry
    obtain⟨dx,Yw⟩:=hf.mono (HI.trans (e5.trans e6))
    refine⟨T',_,rfl,CT.of a9,rfl,_,_,rfl,_,_,rfl,rfl,?_⟩
    refine⟨_,rfl,f,dx,_,rfl,Yw,rfl,_,rfl,_,rfl,lu,_,_,_,rfl,rfl,B'.of (e6 _ _ (e5 _ _ R8)),Zc,cr,_,_,_,rfl,rfl,B'.of (e6 _ _ (e5 _ _ ((e2.trans e3) _ _ Ru))),lD (by omega),f,0,_,p,rfl,⟨dx,Yw⟩,by omega,?_⟩
    refine⟨_,rfl,_,rfl,lt,_,_,q,rfl,rfl,e6 _ _ KP,xM ?_,?_⟩
    ·rw[y6,Mx.Dx,Mx.Cm];exact Vy
    ·refine⟨_,_,rfl,ar (e5.trans e6) YJ,?_⟩
     have hz:((red p t m).zip ps).take (i+1)=((red p t m).zip ps).take i++[(r,q)]:=by
      rw[z6,Aj (z:=(r,q)) |>.mpr ⟨er,eq⟩]
      rfl
     rw[a9,hz,jh,List.map_set]
   ·rintro σ H5 ⟨o7,o8,rfl,e5,KP⟩
    have hz:((red p t m).zip ps).take (min Sz.length (aP ps).length)=(red p t m).zip ps:=by
     rw[zy]
     unfold aP
     rw[Br,y6,QT]
     exact yh _
    rw[hz]at KP
    refine⟨_,rfl,q2 u rest eu lt H5 (HI.trans e5) (HI.free YJ) ?_⟩
    rw[Wx]
    exact KP
end K51
namespace K51
open PySem L2
open PyProof.Rows (boot_list boot_int boot_bool boot_tuple boot_str boot_dict boot_all boot_sorted)
theorem nu (p:Int)(rows:List aA)(fo:Option (List Int))(ms:List Ek)(many:Nat)(k:Int):(cB p rows fo ms many k).length=many:=by
 unfold cB
 rw[y6,zi]
theorem uY {p:Int}(hp:0<p)(rows:List aA)(msg:List Int)(fo:Option (List Int))(cs:Cs)(m:Ek):0<=cC p rows msg fo cs m/\cC p rows msg fo cs m<p:=by
 unfold cC
 by_cases c:gj fo m.1=true
 ·rw[if_pos c];omega
 ·rw[if_neg c,Mx.Ed]
  exact⟨zo _ (by omega),zb _ hp⟩
theorem qC {p:Int}(hp:0<p)(rows:List aA)(msg:List Int)(fo:Option (List Int)):∀ (ms:List Ek)(cs:Cs),(∀ x∈cs,0<=x.2/\x.2<p)->∀ x∈aU p rows msg fo ms cs,0<=x.2/\x.2<p
 | [],_,h=>h
 | m::ms,cs,h=>qC hp rows msg fo ms _ fun x hx=>by
  rcases yF.mp hx with z|z
  ·exact h x z
  ·rw[yK.mp z];exact uY hp rows msg fo cs m
theorem nw {p:Int}(hp:0<p)(rows:List aA)(fo:Option (List Int))(ms:List Ek)(many:Nat)(k:Int):Fn p (cB p rows fo ms many k):=fun z hz=>by
 unfold cB at hz
 obtain⟨j,_,rfl⟩:=yD.mp hz
 cases hl:bw (aU p rows (Mx.BG many j) fo ms []) k with
 | none=>exact⟨Int.le_refl _,hp⟩
 | some n=>
  unfold bw at hl
  obtain⟨x,hx,e⟩:=yX.mp hl
  have:=qC hp rows (Mx.BG many j) fo ms [] (fun _ h=>(yB h).elim) x (zx hx)
  rw[<- e]
  exact this
theorem wc {S:NS}{many p:Int}{rows rs:List aA}{ms:List (Int×Int)} (pm:ms.Perm (wants S many)) (nd:((wants S many).map (·.1)).Nodup) (nb:ms.find? (lT rows p)=none) (Jb:(rs.map fun r=>(r.1,r.2.2))=cx ms rows) (lz:∀ r∈rows,r.2.2.length<=1000):
  ∀ r∈az S,∃ y,aT rs r.1=some y/\Fn p y.2.2/\y.2.2.length<=1000:=fun r hr=>by
 have hm:(r.1,wide many r.2)∈ms:=pm.mem_iff.mpr (yO (f:=fun r:Ek=>(r.1,wide many r.2)) hr)
 have hb:=ze.mp nb _ hm
 unfold lT at hb
 cases hi:aT rows r.1 with
 | none=>rw[hi]at hb;exact absurd rfl hb
 | some r0=>
  rw[hi]at hb
  have JR:fe p r0.2.2 (wide many r.2)=true:=by
   cases h:fe p r0.2.2 (wide many r.2) with
   | true=>rfl
   | false=>exact absurd (show (!fe p r0.2.2 (wide many r.2))=true by rw[h];rfl) hb
  have hg:(r.1,r0.2.2)∈cx ms rows:=yD.mpr ⟨_,hm,by rw[hi];rfl⟩
  rw[<- Jb]at hg
  obtain⟨y,hy,e⟩:=yD.mp hg
  have e1:y.1=r.1:=congrArg Prod.fst e
  have e2:y.2.2=r0.2.2:=congrArg (fun z:Int×List Int=>z.2) e
  have ks:rs.map (·.1)=ms.map (·.1):=by
   have:=congrArg (List.map Prod.fst) Jb
   unfold cx at this
   rw[yt,yt]at this
   exact this
  have knd:(rs.map (·.1)).Nodup:=by rw[ks];exact (pm.map _).nodup_iff.mpr nd
  refine⟨y,by rw[<- e1];exact bL knd y hy,fun z hz=>?_,by rw[e2];exact lz r0 (cG hi).1⟩
  rw[e2]at hz
  unfold fe at JR
  rw[zg,zF]at JR
  have:=JR.2 z hz
  unfold ju at this
  rw[zg]at this
  exact⟨yA this.1,yA this.2⟩
noncomputable def CB (p:Int)(m:Nat)(t:List (List Int))(H H':Hp)(b:Addr):Prop:=
 (∃ l,H' b=some (.tup [.str "reads",.ref l])/\¬ (Mx.BM (red p (Mx.joined t) m) m).length<m/\Le H H' l (((red p (Mx.joined t) m).take m).map (List.drop m))) \/
 (∃ l0 v,H' b=some (.tup [.str "alike",.ref l0,v])/\(Mx.BM (red p (Mx.joined t) m) m).length<m/\H l0=none/\H' l0=some (.lst ((List.replicate m (0:Int)).map V.int))/\
  (be p t m=[]/\v=.non\/∃ u rest l1,be p t m=u::rest/\v=.ref l1/\H l1=none/\l1≠l0/\H' l1=some (.lst ((Mx.BY p (red p t m) (eS p t m) m u).map V.int))))
theorem Lj (n:Nat):(List.replicate n [V.int 0]).flatten=(List.replicate n (0:Int)).map V.int:=by
 induction n with
 | zero=>rfl
 | succ n ih=>rw[zX,Ba,ih,zX];rfl
noncomputable def hX (C:Addr):Sp:=fun vs H Q _=>∃ (f:Addr)(x:V)(p:Int)(m:Nat)(t:List (List Int)),vs=[.ref f,x,.int (m:Int)]/\BW C H f p/\My.Ee p=true/\p<=1000000/\Tb H x t/\M6 p m t/\m<=100/\
 ∀ b H',f' H H'->H b=none->CB p m t H H' b->Q (.ref b) H'
noncomputable abbrev fB:Stmt:=top 60
theorem EA:ai ["field","table","many","read"] ["field","table","many"] (af fB):=CG
theorem o0 {f:Addr}{fd:FuncData} (F:Cu K "judgement" "judgement" fB f fd) (FJ:Df P w K mg base 6 "reader" ["field","table","many"] (mF C)) (FK:Df P w K mg base 6 "nought" ["field","table","many"] (mG C)):BF P w K mg base Co 7 f fd ["field","table","many"] (hX C):=by
 refine F.k EA fun BJ A outer s H vs Q E hr h=>?_
 ·obtain⟨f,x,p,m,t,rfl,hf,hP,Fh,hT,hS,hm,q⟩:=h
  have ND:=EA.nd
  refine⟨_,(aa (pS 3 ND (ak FJ hr.m rfl (a0 (pv 0) (a0 (pv 1) (a0 (pv 2) ab)))))
 (aa (aK (pT ia (pv 3) cv)
  (ad (am (bv (a0 dm (a0 (pv 3) ab)))))
  ay)
 (ad (am (bv (a0 dm (a0 (aB rL (bE (a0 ag ab)) (pv 2)) (a0 (ak FK hr.m rfl (a0 (pv 0) (a0 (pv 1) (a0 (pv 2) ab)))) ab)))))))),?_⟩
  refine⟨_,rfl,_,rfl,_,rfl,f,x,p,m,t,rfl,hf,hP,Fh,hT,hS,hm,fun BU H1 e1=>?_,fun BU l H1 e1 hN=>?_⟩
  ·refine⟨_,rfl,rfl,_,rfl,ba ?_⟩
   refine⟨(by show 1<=sizeLine;decide),fun l1 H2 e2 h2 DU=>⟨_,rfl,l1,_,_,rfl,rfl,DU,by omega,by omega,?_,fun l0 BX=>?_⟩⟩
   ·rw[yZ]
    show 1 * m<=2 ^ 24
    omega
   have HI:f' H1 (upd H2 l0 (.lst (List.replicate ((m:Nat):Int).toNat [V.int 0]).flatten)):=aq e2 BX
   have P8:(upd H2 l0 (.lst (List.replicate ((m:Nat):Int).toNat [V.int 0]).flatten)) l0=some (.lst ((List.replicate m (0:Int)).map V.int)):=by rw[a9,yZ,Lj]
   have YH:H l0=none:=(e1.trans e2).free BX
   generalize upd H2 l0 (.lst (List.replicate ((m:Nat):Int).toNat [V.int 0]).flatten)=H3 at HI P8
   have Gz:=e1.trans HI
   refine⟨_,rfl,_,rfl,_,rfl,f,x,p,m,t,rfl,hf.mono Gz,hP,Fh,hT.mono Gz,hS,fun hu H4 e4=>?_,fun u rest hu l2 H4 e4 h4 DP=>?_⟩
   ·refine⟨(by show 3<=sizeLine;decide),fun b H5 e5 h5 hb=>q b H5 ((Gz.trans e4).trans e5) ((Gz.trans e4).free h5) (.inr ⟨l0,.non,hb,BU,YH,e5 _ _ (e4 _ _ P8),.inl ⟨hu,rfl⟩⟩)⟩
   ·refine⟨(by show 3<=sizeLine;decide),fun b H5 e5 h5 hb=>q b H5 ((Gz.trans e4).trans e5) ((Gz.trans e4).free h5) (.inr ⟨l0,.ref l2,hb,BU,YH,e5 _ _ (e4 _ _ P8),.inr ⟨u,rest,l2,hu,rfl,Gz.free h4,(ah P8 h4).symm,e5 _ _ DP⟩⟩)⟩
  ·refine⟨_,rfl,rfl,_,rfl,cw ?_⟩
   refine⟨_,rfl,(by show 2<=sizeLine;decide),fun b H2 e2 h2 hb=>q b H2 (e1.trans e2) (e1.free h2) (.inl ⟨l,hb,BU,?_⟩)⟩
   obtain⟨h0,xs,hx,hp⟩:=hN
   exact⟨h0,xs,e2 _ _ hx,Paired.Cp hp fun x r j'=>(by obtain⟨c,q1,q2,q3⟩:=j';exact⟨c,q1,q2,e2 _ _ q3⟩)⟩
theorem CB.keep {p:Int}{m:Nat}{t:List (List Int)}{H H0 G G':Hp}{b:Addr} (h:CB p m t H G b) (e0:f' H0 H) (k:∀ b o,(∀ kvs,o≠.dK kvs)->G b=some o->G' b=some o):CB p m t H0 G' b:=by
 have lk:∀ {a:Addr}{xs:List V},G a=some (.lst xs)->G' a=some (.lst xs):=fun h=>k _ _ (fun _ z=>nomatch z) h
 rcases h with⟨l,h1,h2,h3,xs,h4,h5⟩|⟨l0,v,h1,h2,h3,h4,h5⟩
 ·exact .inl ⟨l,k _ _ (fun _ z=>nomatch z) h1,h2,e0.free h3,xs,lk h4,Paired.Cp h5 fun x r j'=>(by obtain⟨c,q1,q2,q3⟩:=j';exact⟨c,q1,e0.free q2,lk q3⟩)⟩
 ·refine .inr ⟨l0,v,k _ _ (fun _ z=>nomatch z) h1,h2,e0.free h3,lk h4,?_⟩
  rcases h5 with h|⟨u,rest,l1,a1,a2,a3,a4,a5⟩
  ·exact .inl h
  ·exact .inr ⟨u,rest,l1,a1,a2,e0.free a3,a4,lk a5⟩
noncomputable def jb (S:NS)(p:Int)(rs:List aA)(fo:Option (List Int))(many:Nat)(g:Str):List (List Int):=(S.into g).map fun k=>cB p rs fo (az S) many k
noncomputable def BZ (S:NS)(p:Int)(rs:List aA)(fo:Option (List Int))(many:Nat)(H H':Hp)(kvs:List (Key×V))(gs:List Str):Prop:=Paired (fun (kv:Key×V) (g:Str)=>kv.1=Sum.inr g/\∃ b,kv.2=.ref b/\H b=none/\CB p many (jb S p rs fo many g) H H' b) kvs gs
theorem BZ.keys {S:NS}{p:Int}{rs:List aA}{fo:Option (List Int)}{many:Nat}{H H':Hp}:∀ {kvs:List (Key×V)}{gs:List Str},BZ S p rs fo many H H' kvs gs->∀ g,¬ g∈gs->bd kvs (Sum.inr g)=none
 | _,_,.nil,_,_=>rfl
 | _,_,.cons ⟨h1,_⟩ r,g,hg=>by
  rw[bS (by rw[h1];exact fun z=>hg (by simp[Sum.inr.inj z]))]
  exact BZ.keys r g fun z=>hg (by simp[z])
noncomputable def dS (c:Cl)(C:Addr):Sp:=fun vs H Q E=>∃ (n d dp dt:Addr)(S:NS)(rows:List aA)(many:Nat)(p:Int)(x:V)(fo:Option (List Int)),vs=[.ref n,.ref d,.int (many:Int),.int p,x]/\oR c H n d S rows many p/\BS c H n dp dt S/\v4 (az S)/\(az S).length<64/\many<=100/\HL H x fo/\(∀ ks,fo=some ks->ks.length<=1000)/\
 (∀ g∈S.DO,g∈S.names/\(∀ k∈S.into g,k∈(az S).map (·.1))/\(S.into g).length<=100)/\
 p<=1000000/\My.Ee p=true/\∀ ms:List (Int×Int),ms.Perm (wants S many)->(ms.map (·.1)).Pairwise (·<=·)->ms.find? (lT rows p)=none/\qh ms rows=[]/\
  ∀ e H' kvs (rs:List aA),f' H H'->H e=none->(rs.map fun r=>(r.1,r.2.2))=cx ms rows->H' e=some (.dK kvs)->BZ S p rs fo many H H' kvs S.DO->Q (.ref e) H'
noncomputable abbrev kC:Stmt:=top 61
theorem Gi:ai ["net","plan","many","prime","fallen","looked_over","field","rows","told","listener","table"] ["net","plan","many","prime","fallen"] (af kC):=CG
theorem mT {c:Cl}{f:Addr}{fd:FuncData} (F:F0 K "judged" "judged" kC f fd) (CW:Df P w K mg base 5 "checked_plan" ["net","plan","many","prime"] (ke c C)) (D5:Dk P w K mg base 2 "Field" C ["self","prime"] (jM C)) (Eh:Df P w K mg base 5 "carried" ["net","plan","many","prime","fallen"] (gw c))
  (BK:Dm P w K mg base 2 c.CS "listeners" ["self"] (cR c)) (CO:Dm P w K mg base 2 c.CS "into" ["self","name"] (fZ c NS.into)) (Dw:Df P w K mg base 7 "judgement" ["field","table","many"] (hX C)):BF P w K mg base Co 8 f fd ["net","plan","many","prime","fallen"] (dS c C):=by
 refine F0.ok F Gi (fun vs H Q E h=>?_) (fun BJ A outer s H vs Q E hr h=>?_)
 ·obtain⟨n,d,dp,dt,S,rows,many,p,x,fo,rfl,_⟩:=h
  rfl
 ·obtain⟨n,d,dp,dt,S,rows,many,p,x,fo,rfl,ask,N,fits,EM,hm,P',KY,DO,hp,hP,q2⟩:=h
  have ND:=Gi.nd
  refine⟨_,(aa (pS 5 ND (ak CW hr.m rfl (a0 (pv 0) (a0 (pv 1) (a0 (pv 2) (a0 (pv 3) ab))))))
 (aa (pS 6 ND (dZ D5 hr.m rfl (a0 (pv 3) ab)))
 (aa (pS 7 ND (ak Eh hr.m rfl (a0 (pv 0) (a0 (pv 5) (a0 (pv 2) (a0 (pv 3) (a0 (pv 4) ab)))))))
 (aa (pS 8 ND ee)
 (aa (bi yS rfl (bQ K (bo (pv 0) BK hr.m)) (pN 9 ND)
  (aa (br (i:=10) ND rfl rfl rfl (cS 1 [7] ["number","rows"]) (bQ K (aE (pv 0) CO hr.m (a0 (pv 9) ab)))
  (fun _ _ _ _ _=>(pC 0))
  (fun _ _ _ _ _=>aG)
  (fun _ _ _ _ _=>(pD (bc hr) (pv 1) (pv 0))))
 (ad (dw (bc hr) (pv 8) (pv 9) (ak Dw hr.m rfl (a0 (pv 6) (a0 (pv 10) (a0 (pv 2) ab)))) rfl))))
 (ad (am (pv 8)))))))),?_⟩
  refine⟨_,rfl,_,rfl,_,rfl,_,rfl,n,d,S,rows,many,p,rfl,ask,hp,hP,fun ms pm pw=>⟨(q2 ms pm pw).1,(q2 ms pm pw).2.1,fun e H1 rs e1 he pl Jb HQ=>?_⟩⟩
  obtain⟨nb,_,q6⟩:=q2 ms pm pw
  have p0:0<p:=by
   have:=((My.Cq p).mp hP).1
   omega
  refine⟨_,rfl,fun fx dx nx Qk Xr=>⟨fx,dx,p,rfl,a9,hp,hP,rfl,?_⟩⟩
  have Jw:=ar (o:=.ins C dx [("prime",.int p)]) (ar (o:=.ins C dx []) (aq (o:=.own fx) (f'.refl H1) Qk) nx) nx
  have Ta:BW C (upd (upd (upd H1 dx (.own fx)) fx (.ins C dx [])) fx (.ins C dx [("prime",.int p)])) fx p:=⟨dx,a9⟩
  generalize upd (upd (upd H1 dx (.own fx)) fx (.ins C dx [])) fx (.ins C dx [("prime",.int p)])=H2 at Jw Ta
  have Jz:=e1.trans Jw
  refine⟨_,rfl,_,rfl,_,rfl,_,rfl,_,rfl,n,dp,dt,S,e,x,p,rs,fo,many,rfl,⟨N.mono Jz,ask.ac,ask.ends,by have:=ask.tz;omega,ask.pz,fits,EM,hp,hP,pl.mono Jw,wc pm ask.nd nb Jb ask.lz,P'.mono Jz,KY⟩,by omega,fun re H3 PV e3 h3 HV SD OF=>?_⟩
  have Gz:=Jz.trans e3
  have N3:=N.mono Gz
  have Hs:(PV.map (·.1)).Nodup:=by
   have:=(OF.map (·.1)).nodup_iff
   rw[yt,yt]at this
   exact this.mpr fits.nd
  have row:∀ k∈(az S).map (·.1),∃ r∈PV,r.1=k/\r.2.2=cB p rs fo (az S) many k:=fun k hk=>by
   obtain⟨m,Jo,rfl⟩:=yD.mp hk
   obtain⟨r,CI,er⟩:=yD.mp (OF.mem_iff.mpr (yO (f:=fun m:Ek=>(m.1,cB p rs fo (az S) many m.1)) Jo))
   exact⟨r,CI,congrArg Prod.fst er,congrArg Prod.snd er⟩
  have SQ:S.DO.Nodup:=by
   have:=ask.ac.nd
   unfold bI at this
   rw[yt]at this
   have h2:(S.names.map id).Nodup:=this
   rw[As]at h2
   unfold NS.DO
   exact h2.sublist (List.Sublist.map _ List.filter_sublist)
  intro td Vr
  have Wu:f' H3 (upd H3 td (.dK [])):=aq (f'.refl _) Vr
  obtain⟨M0,R5⟩:=id N3.ins
  have VU:=Ta.mono e3
  refine⟨_,rfl,n,M0,_,rfl,Wu _ _ R5,rfl,n,dp,dt,S,rfl,N3.mono Wu,ask.pz,fun ll H4 e4 h4 Gs=>?_⟩
  have Vq:=e4 _ _ (a9 (H:=H3) (a:=td) (o:=HO.dK []))
  have nll:ll≠td:=fun z=>by rw[z,a9]at h4;cases h4
  have LD:∀ {G:Hp},(∀ b o,b≠td->H4 b=some o->G b=some o)->f' H3 G:=fun {G} k b o hb=>k b o (ah hb Vr) (e4 _ _ (Wu _ _ hb))
  refine⟨ll,rfl,⟨_,B'.of Gs⟩,bC (K:=K) (xs:=S.DO.map V.str) (fun i σ G=>(∃ o9 HW,σ=[some (.ref n),some (.ref d),some (.int (many:Int)),some (.int p),some x,some (.ref e),some (.ref fx),some (.ref re),some (.ref td),o9,HW])/\(∀ b o,b≠td->H4 b=some o->G b=some o)/\∃ kvs,G td=some (.dK kvs)/\BZ S p rs fo many H G kvs (S.DO.take i))
   ⟨⟨none,none,rfl⟩,fun b o _ hb=>hb,[],Vq,by rw[zU];exact .nil⟩ (fun i σ G _ h=>B'.of (h.2.1 _ _ nll Gs)) ?_ ?_⟩
  ·rintro i v σ G ev ⟨⟨o9,HW,rfl⟩,kG,kvs,Ny,OV⟩
   obtain⟨g,eg,rfl⟩:=yX.mp (ye▸ev)
   have il:i<(S.DO.map V.str).length:=(yb.mp ev).1
   obtain⟨hgn,Gu,hgl⟩:=DO g (yj eg)
   have eG:=LD kG
   refine⟨_,rfl,n,M0,_,rfl,eG _ _ R5,rfl,_,rfl,n,dp,dt,S,g,rfl,N3.mono eG,hgn,by have:=ask.tz;omega,fun li G2 GO Gx LK=>?_⟩
   have RJ:=eG.trans GO
   have Xh:=HV.mono RJ
   refine⟨li,rfl,⟨_,B'.of LK⟩,gS (fun i=>match aT PV ((S.into g).getD i 0) with|some r=>.ref r.2.1|none=>.non) LK (by rw[y6];omega) (fun i y G3 ey GN=>?_) (fun l G3 BX GN hl=>?_)⟩
   ·obtain⟨k,ek,rfl⟩:=bJ ey
    obtain⟨r,CI,rk,_⟩:=row k (Gu k (yj ek))
    have hv:=bR PV k
    rw[<- rk,bL Hs r CI,Az,rk]at hv
    refine⟨_,rfl,_,rfl,re,_,rfl,hv▸CQ.k (k:=Sum.inl k) (GN _ _ Xh.dict),?_,f'.refl _⟩
    rw[aD ek,<- rk,bL Hs r CI]
   have tb:Tb G3 (.ref l) ((S.into g).map fun k=>cB p rs fo (az S) many k):=by
    refine⟨l,_,rfl,hl,dn (by simp) fun i v cs hv hc=>?_⟩
    rw[ye]at hc
    obtain⟨k,ek,rfl⟩:=yX.mp hc
    have il':i<(S.into g).length:=(yb.mp ek).1
    rw[ye,z8 (by rw[y6];exact il')]at hv
    have hv:(match aT PV ((S.into g).getD i 0) with|some r=>V.ref r.2.1|none=>.non)=v:=Option.some.inj hv
    obtain⟨r,CI,rk,rc⟩:=row k (Gu k (yj ek))
    rw[aD ek,<- rk,bL Hs r CI]at hv
    rw[<- rc]
    exact⟨_,hv.symm,GN _ _ (Xh.row r CI)⟩
   have ZJ:M6 p many ((S.into g).map fun k=>cB p rs fo (az S) many k):=⟨⟨fun r CI=>by
     obtain⟨k,_,rfl⟩:=yD.mp CI
     exact nu _ _ _ _ _ _,fun r CI=>by
     obtain⟨k,_,rfl⟩:=yD.mp CI
     exact nw p0 _ _ _ _ _⟩,by rw[y6];exact hgl,by omega⟩
   have Z1:=RJ.trans GN
   refine⟨_,rfl,_,rfl,_,rfl,fx,.ref l,p,many,_,rfl,VU.mono Z1,hP,hp,tb,ZJ,hm,fun b G4 e4' h4' hj=>?_⟩
   have IY:=(GO.trans GN).trans e4'
   have kl:kvs.length=(S.DO.take i).length:=Paired.length OV
   have il2:i<S.DO.length:=by rw[y6]at il;exact il
   have sl:S.DO.length<=1000:=by
    unfold NS.DO
    rw[y6]
    exact yV (zj _ _) ask.pz
   have ng:¬ g∈S.DO.take i:=fun z=>by
    obtain⟨k,hk,ek⟩:=zH.mp z
    have e1:S.DO[k]?=some g:=by rw[y8 (by omega),ek]
    have ki:k=i:=by
     obtain⟨h1,e2⟩:=yb.mp e1
     obtain⟨h3,e4⟩:=yb.mp eg
     exact (Bj SQ).mp (e2.trans e4.symm)
    omega
   have pn:=dj (.ref b) (OV.keys g ng)
   have Z0:f' H G3:=Gz.trans Z1
   refine⟨_,rfl,_,rfl,td,_,rfl,F7.k (k:=Sum.inr g) (IY _ _ Ny) (by rw[kl,yM];show _<2 ^ 24;omega),⟨_,_,rfl⟩,fun b' o' DC FV=>by rw[ae DC];exact IY _ _ (kG b' o' DC FV),_,a9,?_⟩
   rw[pn,z6,eg]
   have kp:∀ b' o',(∀ kvs,o'≠HO.dK kvs)->G4 b'=some o'->(upd G4 td (.dK (kvs++[(Sum.inr g,.ref b)]))) b'=some o':=fun b' o' FV DC=>by
    rw[ae (fun z=>by rw[z,IY _ _ Ny]at DC;exact FV _ (Option.some.inj DC).symm)]
    exact DC
   refine Paired.El (Paired.Cp OV fun kv g' j'=>(by obtain⟨h1,b',h2,h3,h4⟩:=j';exact⟨h1,b',h2,h3,h4.keep (f'.refl _) fun b2 o2 Nw Jd=>kp b2 o2 Nw (IY _ _ Jd)⟩)) ⟨rfl,b,rfl,Z0.free h4',hj.keep Z0 kp⟩
  ·rintro σ G ⟨⟨o9,HW,rfl⟩,kG,kvs,Ny,OV⟩
   rw[y6,zh]at OV
   exact⟨_,rfl,q6 td G kvs rs (Gz.trans (LD kG)) (Gz.free Vr) Jb Ny OV⟩
end K51
namespace K51
open PySem L2
theorem cover:∀ (m:Nat)(ps:List Nat),(∀ q,q<m->q∈ps)->m<=ps.length
 | 0,_,_=>yR _
 | m+1,ps,h=>by
  have hm:=h m (Bg m)
  have:=cover m (ps.erase m) fun q hq=>(AI (by omega)).mpr (h q (by omega))
  rw[AQ hm]at this
  have:0<ps.length:=List.length_pos_of_mem hm
  omega
structure X0 (p : Int) (t : List (List Int)) (m : Nat) (L : Nat) : Prop where
  rd : (Mx.BM (red p (Mx.joined t) m) m).length = L
  rk : vo p t m = L
  le : L <= m
  un : be p t m = [] ↔ L = m
theorem tS {p:Int}{t:List (List Int)}{m:Nat} (hP:My.Ee p=true) (S:Mx.Sh p m t):∃ L,X0 p t m L:=by
 have Gr:2<=p:=((My.Cq p).mp hP).1
 have Sj:=Mx.EU (p:=p) (by omega) S
 obtain⟨ps,a1,a2,a3,_⟩:=Mx.RR.run (bk:=My.bk p) (by omega) (My.FH hP) Sj m
 obtain⟨JH,b1,b2,b3,_⟩:=Mx.RR.run (bk:=My.bk p) (by omega) (My.FH hP) S m
 have e1:Mx.BM (red p (Mx.joined t) m) m=ps:=Mx.CJ a2
 have e2:Mx.BM (red p t m) m=JH:=Mx.CJ b2
 have el:ps.length=JH.length:=by
  have:=Mx.Hr (p:=p) (bk:=My.bk p) (rows:=Mx.joined t) (m:=m) m (yh _)
  rw[Mx.Hz S]at this
  rw[<- a1,<- b1,this]
 refine⟨ps.length,by rw[e1],by unfold vo;rw[e2,el],by rw[el];exact b2.EM,?_⟩
 have eu:be p t m=(List.range m).filter fun q=>!decide (q∈JH):=by unfold be eS;rw[e2]
 rw[eu,el]
 constructor
 ·intro h
  have:=cover m JH fun q hq=>by
   by_cases c:q∈JH
   ·exact c
   ·have:q∈(List.range m).filter fun q=>!decide (q∈JH):=zd.mpr ⟨zz.mpr hq,by simpa using c⟩
    rw[h]at this
    cases this
  have:=b2.EM
  omega
 ·intro h
  have:=b2.all h
  rw[this,List.filter_eq_nil_iff]
  intro q hq
  simpa using zz.mp hq
noncomputable abbrev Uu (p:Int)(t:List (List Int))(m:Nat):List (List Int):=((red p (Mx.joined t) m).take m).map (List.drop m)
structure qW (p : Int) (t R : List (List Int)) (m : Nat) : Prop where
  len : R.length = m
  Fe : ∀ r ∈ R, r.length = t.length
  fit : ∀ r ∈ R, Fn p r
  ones : ∀ i j, i < m -> j < m -> Mx.dot (R.getD i []) (Mx.col t j) % p = if i = j then 1 else 0
theorem uj {p:Int}{t:List (List Int)}{m:Nat} (hP:My.Ee p=true) (S:Mx.Sh p m t) (h:(Mx.BM (red p (Mx.joined t) m) m).length=m):qW p t (Uu p t m) m:=by
 have Gr:2<=p:=((My.Cq p).mp hP).1
 have Sj:=Mx.EU (p:=p) (by omega) S
 obtain⟨ps,a1,a2,a3,a4⟩:=Mx.RR.run (bk:=My.bk p) (by omega) (My.FH hP) Sj m
 have e1:Mx.BM (red p (Mx.joined t) m) m=ps:=Mx.CJ a2
 rw[e1]at h
 have JT:=a2.all h
 have hl:(red p (Mx.joined t) m).length=t.length:=by rw[show (red p (Mx.joined t) m).length=(Mx.joined t).length from a3,Mx.Cv]
 have hm:m<=(red p (Mx.joined t) m).length:=by have h2:=a2.len;rw[h]at h2;exact h2
 have mem:∀ r∈Uu p t m,∃ r0∈red p (Mx.joined t) m,r=r0.drop m:=fun r hr=>by
  obtain⟨r0,h0,rfl⟩:=yD.mp hr
  exact⟨r0,List.mem_of_mem_take h0,rfl⟩
 refine⟨by rw[y6,yM];omega,fun r hr=>?_,fun r hr=>?_,fun i j hi hj=>?_⟩
 ·obtain⟨r0,h0,rfl⟩:=mem r hr
  rw[AL,a2.sh.Fe r0 h0]
  omega
 ·obtain⟨r0,h0,rfl⟩:=mem r hr
  intro z hz
  exact a2.sh.fit r0 h0 z (List.mem_of_mem_drop hz)
 ·have:=Mx.J5 (by omega) S a2 JT hl a4 i j hi hj
  have eg:(Uu p t m).getD i []=((red p (Mx.joined t) m).getD i []).drop m:=by
   have FW:i<(red p (Mx.joined t) m).length:=by omega
   refine aD ?_
   rw[ye,Aa hi,y8 FW,aD (y8 FW)]
   rfl
  rw[eg]
  exact this
structure xX (p : Int) (t : List (List Int)) (v : List Int) (m : Nat) : Prop where
  len : v.length = m
  fit : Fn p v
  some : v.filter (fun z => !decide (z = 0)) ≠ []
  ker : ∀ r ∈ t, Mx.dot r v % p = 0
theorem wX {p:Int}{t:List (List Int)}{m u:Nat}{rest:List Nat} (hP:My.Ee p=true) (S:Mx.Sh p m t) (h:be p t m=u::rest):xX p t (Mx.BY p (red p t m) (eS p t m) m u) m:=by
 have Gr:2<=p:=((My.Cq p).mp hP).1
 obtain⟨ps,b1,b2,b3,b4⟩:=Mx.RR.run (bk:=My.bk p) (by omega) (My.FH hP) S m
 have e2:eS p t m=ps:=Mx.CJ b2
 have hu:u∈be p t m:=by rw[h];exact yw
 unfold be at hu
 obtain⟨Vn,QL⟩:=zd.mp hu
 have XW:=zz.mp Vn
 have LH:u∉ps:=by rw[e2]at QL;simpa using QL
 obtain⟨n1,n2,n3,n4⟩:=Mx.J7 (by omega) b2 XW LH
 rw[e2]
 generalize Mx.BY p (red p t m) ps m u=v at n1 n2 n3 n4
 refine⟨n3,n4,fun z=>?_,fun r hr=>zQ ((b4 v).mp n1 r hr)⟩
 have hv:v.getD u 0∈v:=mem_getD (by omega)
 have:v.getD u 0∈v.filter (fun z=>!decide (z=0)):=zd.mpr ⟨hv,by
  have n2':v.getD u 0=1:=n2
  rw[n2']
  rfl⟩
 rw[z]at this
 cases this
theorem CB.right {p:Int}{m:Nat}{t:List (List Int)}{H H':Hp}{b:Addr} (hP:My.Ee p=true) (S:Mx.Sh p m t) (h:CB p m t H H' b):
  (∃ l R,H' b=some (.tup [.str "reads",.ref l])/\Le H H' l R/\qW p t R m) \/
  (∃ l0 l1 v,H' b=some (.tup [.str "alike",.ref l0,.ref l1])/\H l0=none/\H l1=none/\l1≠l0/\H' l0=some (.lst ((List.replicate m (0:Int)).map V.int))/\H' l1=some (.lst (v.map V.int))/\xX p t v m):=by
 obtain⟨L,B⟩:=tS hP S
 rcases h with⟨l,h1,h2,h3⟩|⟨l0,v,h1,h2,h3,h4,h5⟩
 ·exact .inl ⟨l,_,h1,h3,uj hP S (by have:=B.rd;have:=B.le;omega)⟩
 ·rcases h5 with⟨hu,_⟩|⟨u,rest,l1,hu,rfl,a3,a4,a5⟩
  ·have:=B.un.mp hu
   have:=B.rd
   omega
  ·exact .inr ⟨l0,l1,_,h1,h3,a3,a4,h4,a5,wX hP S hu⟩
end K51
namespace K51
open PySem L2
open PyProof.Rows (boot_list boot_int boot_bool boot_tuple boot_str boot_dict boot_all boot_sorted)
theorem cz {α:Type}{xs:List α}{j:Nat}{x:α} (h:xs[j]?=some x):GZ xs (j:Int)=some x:=by
 have hj:=(yb.mp h).1
 unfold GZ Ko
 rw[if_pos (Int.natCast_nonneg j),if_pos (by simpa using hj)]
 simpa using h
theorem Og {α:Type}{xs:List α}{i:Int} (h0:0<=i) (h:i<xs.length):∃ v,xs[i.toNat]?=some v/\GZ xs i=some v:=by
 have hj:i.toNat<xs.length:=by omega
 refine⟨xs[i.toNat],y8 hj,?_⟩
 have:=cz (xs:=xs) (j:=i.toNat) (y8 hj)
 rwa [Int.toNat_of_nonneg h0]at this
structure wG (mg : Str -> Option Value) : Prop where
  Ci : mg "len" = none
  CA : mg "range" = none
  D9 : mg "list" = none
  E3 : mg "sorted" = none
  Fd : mg "enumerate" = none
  BQ : mg "isinstance" = none
  Ht : mg "int" = none
  GG : mg "bool" = none
  IE : mg "tuple" = none
  Gp : mg "all" = none
  Xy : mg "any" = none
  Xw : mg "set" = none
  Qo : mg "min" = none
  Xx : mg "max" = none
theorem wA (c b:Int)(hb:0<b)(i:Nat):c / b ^ i / b=c / b ^ (i+1):=by
 have hp:0<b ^ i:=Int.pow_pos hb
 rw[Int.pow_succ,Int.ediv_ediv]
 have:¬ (b ^ i<0/\¬ b ∣ c / b ^ i):=fun z=>by omega
 simp only[this,Aq,Int.sub_zero]
noncomputable def iZ (c:Int):Int:=if c / 2 % 2=0 then 1000 else 1000000000
theorem vS (c:Int):0<iZ c/\iZ c<1073741824:=by
 unfold iZ
 split <;> decide
noncomputable def UY (c k:Int):Int:=(c+7919 * k+1) % 2147483647 * 48271 % 2147483647
noncomputable def UX (x:Int):Int:=x * (x / 1009+69621) % 2147483647
noncomputable def UW (x:Int):Int:=x * (x / 127+30011) % 2147483647
theorem tj (x:Int):-(2 ^ 64)<x % 2147483647/\x % 2147483647<2 ^ 64:=by
 have b1:=zo x (show (2147483647:Int)≠0 by decide)
 have b2:=zb x (show (0:Int)<2147483647 by decide)
 omega
noncomputable def dv (c k:Int):Int:=if c % 2=0/\0<c / 4 / iZ c ^ k.toNat then c / 4 / iZ c ^ k.toNat % iZ c else UW (UX (UY c k))
noncomputable abbrev gJ:Stmt:=top 63
theorem pA:ai ["_law_script","_law_k"] ["_law_script","_law_k"] (af gJ):=CG
noncomputable def jg (K:PySem.W.Frag):Sp:=fun vs H Q _=>∃ (a:Addr)(k:Int)(ns:List Int),vs=[.ref a,.int k]/\0<=k/\B' K H a (ns.map V.int)/\∀ c:Int,Q (.int c) H
theorem qg {f:Addr}{fd:FuncData} (F:Cu K "_law_cell_at" "_law_cell_at" gJ f fd) (T:wG mg):BF P w K mg base Co 1 f fd ["_law_script","_law_k"] (jg K):=by
 refine F.k pA fun BJ A outer s H vs Q E hr h=>?_
 ·obtain⟨a,k,ns,rfl,hk,hS,q⟩:=h
  refine⟨_,(aa (aK (pT kU (pv 1) (aw (dJ K) rfl T.Ci boot_len (a0 (pv 0) ab)))
  (ad (am (pI (d0 K) (pv 0) (pv 1))))
  ay)
 (ad (am ag))),?_⟩
  refine⟨_,rfl,_,rfl,a,_,rfl,.inl hS,_,_,rfl,rfl,_,rfl,?_⟩
  refine bH (fun hc=>?_) (fun hc=>?_)
  ·have hc:=yA hc
   obtain⟨v,ev,e⟩:=Og hk hc
   rw[ye]at ev
   cases hn:ns[k.toNat]? with
   | none=>rw[hn]at ev;cases ev
   | some z=>
    rw[hn]at ev
    have:v=.int z:=by simpa using ev.symm
    subst this
    exact⟨_,rfl,_,rfl,a,_,k,_,rfl,rfl,hS,e,q z⟩
  ·exact q 0
noncomputable abbrev rF:Stmt:=top 64
theorem IA:ai ["_law_cell","_law_k","_law_base","_law_left","_law_step","_law_number"] ["_law_cell","_law_k"] (af rF):=CG
noncomputable def jN:Sp:=fun vs H Q _=>∃ (c k:Int),vs=[.int c,.int k]/\0<=k/\k<1000/\∀ H',f' H H'->Q (.int (dv c k)) H'
theorem xB {f:Addr}{fd:FuncData} (F:Cu K "_law_mix" "_law_mix" rF f fd) (T:wG mg):BF P w K mg base Co 1 f fd ["_law_cell","_law_k"] jN:=by
 refine F.k IA fun BJ A outer s H vs Q E hr h=>?_
 ·obtain⟨c,k,rfl,hk,Ys,q⟩:=h
  have ND:=IA.nd
  refine⟨_,(aa (dk (pT bP (aB bg (pv 0) ag) ag)
  (aa (pS 2 ND (pI (d0 K) (bE (a0 ag (a0 (aB MK ag ag) ab))) (aB bg (aB cZ (pv 0) ag) ag)))
 (aa (pS 3 ND (aB cZ (pv 0) ag))
 (aa (bi yS rfl (cf rfl T.CA (a0 (pv 1) ab)) (pN 4 ND)
  (ad (pS 3 ND (aB cZ (pv 3) (pv 2)))))
 (ad (aK (pT kW (pv 3) ag)
  (ad (am (aB bg (pv 3) (pv 2))))
  ay)))))
  ay)
 (aa (pS 5 ND (aB bg (aB dG (aB bg (aB cH (aB cH (pv 0) (aB dG ag (pv 1))) ag) ag) ag) ag))
 (aa (pS 5 ND (aB bg (aB dG (pv 5) (aB cH (aB cZ (pv 5) ag) ag)) ag))
 (ad (am (aB bg (aB dG (pv 5) (aB cH (aB cZ (pv 5) ag) ag)) ag)))))),?_⟩
  obtain⟨bp,bq⟩:=vS c
  refine⟨fun σ' H'=>(∃ o2 o3 o4,σ'=[some (.int c),some (.int k),o2,o3,o4,none])/\f' H H'/\¬ (c % 2=0/\0<c / 4 / iZ c ^ k.toNat),?_,?_⟩
  ·rintro σ' H' ⟨⟨o2,o3,o4,rfl⟩,e',hn⟩
   refine⟨_,rfl,_,rfl,_,_,rfl,rfl,.inl ⟨by decide,by decide⟩,_,_,rfl,rfl,_,_,rfl,rfl,_,_,rfl,rfl,(by show (0:Int)<2147483647;decide),_,_,rfl,rfl,.inr ⟨by decide,by decide⟩,_,_,rfl,rfl,(by show (0:Int)<2147483647;decide),?_⟩
   refine⟨_,rfl,_,rfl,_,_,rfl,rfl,⟨by decide,by decide⟩,_,_,rfl,rfl,_,_,rfl,rfl,.inl (tj _),_,_,rfl,rfl,(by show (0:Int)<2147483647;decide),?_⟩
   refine⟨_,rfl,_,rfl,_,_,rfl,rfl,⟨by decide,by decide⟩,_,_,rfl,rfl,_,_,rfl,rfl,.inl (tj _),_,_,rfl,rfl,(by show (0:Int)<2147483647;decide),?_⟩
   have:=q H' e'
   unfold dv at this
   rw[if_neg hn]at this
   exact this
  ·refine⟨_,rfl,_,_,rfl,rfl,(by show (0:Int)<2;decide),rfl,_,rfl,bH (fun g=>?_) (fun g=>?_)⟩
   ·have g:c % 2=0:=by
     have:=yA g
     injection this
    refine⟨_,_,rfl,rfl,⟨by decide,by decide⟩,(by show 2<=sizeLine;decide),fun l H1 e1 h1 hl=>?_⟩
    have c3:0<=c / 2 % 2:=zo _ (by decide)
    have c4:c / 2 % 2<2:=zb _ (by decide)
    have hb:GZ [V.int 1000,V.int ((10:Int) ^ (9:Int).toNat)] (c / 2 % 2)=some (.int (iZ c)):=by
     by_cases h:c / 2 % 2=0
     ·rw[h]
      unfold iZ
      rw[if_pos h]
      rfl
     ·have h1:c / 2 % 2=1:=by omega
      rw[h1]
      unfold iZ
      rw[if_neg h]
      rfl
    refine⟨_,rfl,_,_,rfl,rfl,⟨by decide,by decide⟩,_,_,rfl,rfl,(by show (0:Int)<2;decide),l,_,_,_,rfl,rfl,B'.of hl,hb,?_⟩
    refine⟨_,rfl,_,_,rfl,rfl,⟨by decide,by decide⟩,?_⟩
    refine⟨_,rfl,_,rfl,by omega,by omega,eA (lo:=0) (n:=k.toNat) (fun i σ H'=>(∃ o4,σ=[some (.int c),some (.int k),some (.int (iZ c)),some (.int (c / 4 / iZ c ^ i)),o4,none])/\H'=H1) ⟨⟨none,by rw[Int.pow_zero,Int.ediv_one];rfl⟩,rfl⟩ ?_ ?_⟩
    ·rintro i σ H' hi ⟨⟨o4,rfl⟩,rfl⟩
     refine⟨_,rfl,_,rfl,_,_,rfl,rfl,⟨bp,bq⟩,⟨some (.int (0+(i:Int))),?_⟩,rfl⟩
     rw[<- wA (c / 4) (iZ c) bp i]
     rfl
    ·rintro σ H' ⟨⟨o4,rfl⟩,rfl⟩
     refine⟨_,rfl,_,_,rfl,rfl,_,rfl,bH (fun g2=>?_) (fun g2=>?_)⟩
     ·have g2:=yA g2
      refine⟨_,rfl,_,rfl,_,_,rfl,rfl,bp,?_⟩
      have:=q H' e1
      unfold dv at this
      rw[if_pos ⟨g,g2⟩]at this
      exact this
     ·exact⟨⟨_,_,_,rfl⟩,e1,fun z=>g2 (yo z.2)⟩
   ·exact⟨⟨_,_,_,rfl⟩,f'.refl _,fun z=>g (yo (show V.int (c % 2)=V.int 0 by rw[z.1]))⟩
end K51
namespace K51
open PySem L2
theorem lq {cs:Cs}(ds:Cs){k:Int}(h:k∈cs.map (·.1)):bw (cs++ds) k=bw cs k:=by
 obtain⟨n,hn⟩:=gN h
 unfold bw at hn ⊢
 rw[Bb]
 cases hf:cs.find? (fun x=>decide (x.1=k)) with
 | none=>rw[hf]at hn;cases hn
 | some x=>rfl
theorem sk {cs:Cs}{k n:Int} (h:¬ k∈cs.map (·.1)):bw (cs++[(k,n)]) k=some n:=by
 have hn:=eR h
 unfold bw at hn ⊢
 rw[Bb]
 cases hf:cs.find? (fun x=>decide (x.1=k)) with
 | some x=>rw[hf]at hn;cases hn
 | none=>
  show Option.map _ (List.find? (fun x:Int×Int=>decide (x.1=k)) [(k,n)])=some n
  rw[z5,show decide ((k,n).1=k)=true from yo rfl]
  rfl
theorem qz {msg:List Int}{cs:Cs} (ds:Cs):∀ {mo:Option (List Int)},(∀ ks,mo=some ks->∀ k∈ks,k∈cs.map (·.1))->inc msg (cs++ds) mo=inc msg cs mo
 | none,_=>rfl
 | some ks,h=>z7 fun k hk=>by rw[lq ds (h ks rfl k hk)]
theorem jv {p:Int}{rows:List aA}{msg:List Int}{fo:Option (List Int)}{ms:List Ek} (F:v4 ms):∀ i,i<=ms.length->∀ m∈ms.take i,bw (aU p rows msg fo (ms.take i) []) m.1=some (cC p rows msg fo (aU p rows msg fo (ms.take i) []) m)
 | 0,_,_,h=>by rw[zU]at h;exact (yB h).elim
 | i+1,hi,m,h=>by
  have ih:=jv (p:=p) (rows:=rows) (msg:=msg) (fo:=fo) F i (by omega)
  have BU:i<ms.length:=by omega
  obtain⟨r,er⟩:∃ r,ms[i]?=some r:=⟨_,y8 BU⟩
  have tk:ms.take (i+1)=ms.take i++[r]:=by rw[z6,er];rfl
  have ck:=dq p rows msg fo (ms.take i) []
  rw[zZ,zc]at ck
  have nd:=F.nd
  rw[<- Bd (i+1) ms,yN]at nd
  have nd:=(Am.mp nd).1
  rw[tk,yN]at nd
  have fr:¬ r.1∈(aU p rows msg fo (ms.take i) []).map (·.1):=fun z=>by
   rw[ck]at z
   exact (Am.mp nd).2.2 _ z _ (by simp) rfl
  rw[tk]at h ⊢
  rw[gR]
  rcases yF.mp h with h|h
  ·have mk:m.1∈(aU p rows msg fo (ms.take i) []).map (·.1):=by rw[ck];exact yO h
   rw[lq _ mk,ih m h]
   unfold cC
   rw[qz]
   intro ks KR k hk
   rw[ck]
   obtain⟨j,hj,ej⟩:=zp h
   rw[yM]at hj
   have ej':ms[j]?=some m:=by
    rw[List.getElem_take]at ej
    rw[y8 (by omega),ej]
   have:=(F.ahead j m ks ej' KR).2 k hk
   obtain⟨y,hy,e⟩:=yD.mp this
   exact yD.mpr ⟨y,(List.take_sublist_take_left (by omega)).subset hy,e⟩
  ·rw[yK.mp h,sk fr]
   unfold cC
   rw[qz]
   intro ks KR k hk
   rw[ck]
   exact (F.ahead i r ks er KR).2 k hk
theorem wn {p:Int}{rows:List aA}{msg:List Int}{fo:Option (List Int)}{ms:List Ek} (F:v4 ms) {m:Ek} (h:m∈ms):bw (aU p rows msg fo ms []) m.1=some (cC p rows msg fo (aU p rows msg fo ms []) m):=by
 have:=jv (p:=p) (rows:=rows) (msg:=msg) (fo:=fo) F ms.length (yh _)
 rw[zh]at this
 exact this m h
noncomputable def cP (p:Int)(many:Nat)(acc:List Int)(m:Int)(r:List Int):List Int:=(List.range many).map fun k=>(acc.getD k 0+m * r.getD k 0) % p
noncomputable def Hu (p:Int)(many:Nat)(L:Int->List Int):List Int->List Int->List Int->List Int
 | acc,m::ms,t::ts=>Hu p many L (cP p many acc m (L t)) ms ts
 | acc,_,_=>acc
theorem lU {p m:Int}:∀ {many:Nat}{a b:List Int},a.length=many->b.length=many->cP p many a m b=List.zipWith (fun x y=>(x+m * y) % p) a b
 | 0,[],[],_,_=>rfl
 | n+1,x::a,y::b,h1,h2=>by
  have ih:=lU (p:=p) (m:=m) (many:=n) (a:=a) (b:=b) (by simpa using h1) (by simpa using h2)
  unfold cP at ih ⊢
  rw[List.range_succ_eq_map,yJ,yt,List.zipWith_cons_cons,<- ih]
  rfl
theorem oC (p m:Int):∀ (a b v:List Int),b.length=a.length->p ∣ Mx.dot (List.zipWith (fun x y=>(x+m * y) % p) a b) v - (Mx.dot a v+m * Mx.dot b v)
 | [],[],v,_=>by simp[Mx.dot]
 | x::a,y::b,[],_=>by simp[Mx.dot]
 | x::a,y::b,z::v,h=>by
  have ih:=oC p m a b v (by simpa using h)
  have h1:=Mx.Dh p (x+m * y)
  show p ∣ ((x+m * y) % p * z+Mx.dot (List.zipWith (fun x y=>(x+m * y) % p) a b) v) - ((x * z+Mx.dot a v)+m * (y * z+Mx.dot b v))
  have:((x+m * y) % p * z+Mx.dot (List.zipWith (fun x y=>(x+m * y) % p) a b) v) - ((x * z+Mx.dot a v)+m * (y * z+Mx.dot b v))=((x+m * y) % p - (x+m * y)) * z+(Mx.dot (List.zipWith (fun x y=>(x+m * y) % p) a b) v - (Mx.dot a v+m * Mx.dot b v)):=by grind
  rw[this]
  exact AY (AX h1) ih
theorem tM {p:Int}{many:Nat}{L:Int->List Int}{v:List Int}:∀ {acc ms ts:List Int},acc.length=many->(∀ t∈ts,(L t).length=many)->p ∣ Mx.dot (Hu p many L acc ms ts) v - (Mx.dot acc v+Mx.dot ms (ts.map fun t=>Mx.dot (L t) v))
 | acc,[],ts,h,_=>by
  have:Hu p many L acc [] ts=acc:=by cases ts <;> rfl
  rw[this]
  simp[Mx.dot]
 | acc,m::ms,[],h,_=>by
  show p ∣ Mx.dot acc v - (Mx.dot acc v+Mx.dot (m::ms) [])
  simp[Mx.dot]
 | acc,m::ms,t::ts,h,hl=>by
  have hb:=hl t (by simp)
  have ih:=tM (p:=p) (many:=many) (L:=L) (v:=v) (acc:=cP p many acc m (L t)) (ms:=ms) (ts:=ts) (by unfold cP;simp) fun u hu=>hl u (by simp[hu])
  have h1:=oC p m acc (L t) v (by omega)
  rw[<- lU h hb]at h1
  show p ∣ Mx.dot (Hu p many L (cP p many acc m (L t)) ms ts) v - (Mx.dot acc v+(m * Mx.dot (L t) v+Mx.dot ms (ts.map fun t=>Mx.dot (L t) v)))
  have:=AY h1 ih
  have e:(Mx.dot (cP p many acc m (L t)) v - (Mx.dot acc v+m * Mx.dot (L t) v))+(Mx.dot (Hu p many L (cP p many acc m (L t)) ms ts) v - (Mx.dot (cP p many acc m (L t)) v+Mx.dot ms (ts.map fun t=>Mx.dot (L t) v)))=Mx.dot (Hu p many L (cP p many acc m (L t)) ms ts) v - (Mx.dot acc v+(m * Mx.dot (L t) v+Mx.dot ms (ts.map fun t=>Mx.dot (L t) v))):=by omega
  rw[e]at this
  exact this
theorem j5 (n:Nat)(v:List Int):Mx.dot (List.replicate n 0) v=0:=by
 induction n generalizing v with
 | zero=>rfl
 | succ n ih=>
  cases v with
  | nil=>rfl
  | cons x v=>
   show 0 * x+Mx.dot (List.replicate n 0) v=0
   rw[ih v]
   omega
theorem jz {p a b:Int}(h:p ∣ a - b):a % p=b % p:=zG.mpr (zQ h)
theorem kR {bs:List (Str×List Str)}(A:mt bs):∀ k,k<=bs.length->∀ (i:Nat) x,(bU bs k)[i]?=some x->∃ b∈bs,b.1=x/\∀ y∈b.2,y∈(bU bs k).take i
 | 0,_,i,x,h=>by simp[bU]at h
 | k+1,hk,i,x,h=>by
  have hl:=(iW A k (by omega)).2
  unfold bU at h ⊢
  by_cases c:i<(bU bs k).length
  ·rw[yU c]at h
   obtain⟨b,hb,e,hy⟩:=kR A k (by omega) i x h
   exact⟨b,hb,e,fun y yy=>by rw[Bo (by omega)];exact hy y yy⟩
  ·rw[yT (by omega)]at h
   have ei:i=(bU bs k).length:=by
    by_cases c2:i - (bU bs k).length=0
    ·omega
    ·rw[yp (by simp;omega)]at h;cases h
   subst ei
   rw[Nat.sub_self]at h
   obtain⟨z,ez,_,_⟩:=eI A (ts:=bU bs k) (by omega)
   rw[ez]at h
   have h:z=x:=by simpa using h
   subst h
   unfold bu at ez
   obtain⟨b,hf,hb⟩:=yX.mp ez
   refine⟨b,zx hf,hb,fun y hy=>?_⟩
   rw[Bo (yh _),zh]
   have hr:=AA hf
   unfold cu at hr
   simp only[zg,zF,B5]at hr
   exact hr.2 y hy
theorem tH {α β:Type}(f:α->List β):∀ (ns:List α)(i:Nat)(m:β),(ns.flatMap f)[i]?=some m->∃ j x,ns[j]?=some x/\m∈f x/\∀ m'∈(ns.take j).flatMap f,m'∈(ns.flatMap f).take i
 | [],i,m,h=>by simp at h
 | a::ns,i,m,h=>by
  rw[BA]at h ⊢
  by_cases c:i<(f a).length
  ·rw[yU c]at h
   exact⟨0,a,rfl,yj h,fun m' hm=>by simp at hm⟩
  ·rw[yT (by omega)]at h
   obtain⟨j,x,hj,hm,k⟩:=tH f ns _ m h
   refine⟨j+1,x,hj,hm,fun m' Jo=>?_⟩
   rw[List.take_append,zy (by omega)]
   rw[List.take_succ_cons,BA]at Jo
   rcases yF.mp Jo with z|z
   ·exact yY _ z
   ·exact yv _ (k m' z)
theorem bN {α:Type}{xs:List α} (nd:xs.Nodup) {i j:Nat}{x:α} (h1:xs[i]?=some x) (h2:xs[j]?=some x):i=j:=by
 obtain⟨hi,e1⟩:=yb.mp h1
 obtain⟨hj,e2⟩:=yb.mp h2
 exact (Bj nd).mp (e1.trans e2.symm)
noncomputable abbrev LT:=Int×Str×Str
noncomputable def aZ (R:List LT)(x:Str):List Int:=(R.filter fun r=>decide (r.2.2=x)).map (·.1)
structure LN (S : NS) (ord : List Str) (R : List LT) : Prop where
  ID : S.names.Nodup
  GU : ∀ x ∈ S.names, x ∈ ord
  nd : ord.Nodup
  zero : ord[0]? = some ("h" : Str)
  BL : S.BL.map (fun t => (t.1, t.2.1, t.2.2.1)) = R
  mem : ∀ r ∈ R, r.2.1 ∈ S.names /\ r.2.2 ∈ S.names
  ok : ∀ r ∈ R, ∃ u v : Nat, u < v /\ ord[u]? = some r.2.1 /\ ord[v]? = some r.2.2
  asc : (R.map (·.1)).Pairwise (· < ·)
  len : ord.length <= 20
  Mo : R.length <= 40
section
variable {S : NS}{ord : List Str}{R : List LT}
theorem LN.Kl (h:LN S ord R){t:Es}(ht:t∈S.BL):∃ u v:Nat,u<v/\ord[u]?=some t.2.1/\ord[v]?=some t.2.2.1:=h.ok (t.1,t.2.1,t.2.2.1) (h.BL▸yO (f:=fun t:Es=>(t.1,t.2.1,t.2.2.1)) ht)
theorem LN.Mc (h:LN S ord R){t:Es}(ht:t∈S.BL):t.2.1∈S.names/\t.2.2.1∈S.names:=h.mem (t.1,t.2.1,t.2.2.1) (h.BL▸yO (f:=fun t:Es=>(t.1,t.2.1,t.2.2.1)) ht)
theorem LN.Ih (h:LN S ord R):(bI S).map (·.1)=S.names:=by
 unfold bI
 rw[yt]
 exact As _
theorem LN.ends (h:LN S ord R):∀ t∈S.BL,t.2.2.1∈S.names:=fun t ht=>(h.Mc ht).2
theorem LN.Ld (h:LN S ord R):mt (bI S) where
 nd:=by rw[h.Ih];exact h.ID
 ends:=fun b hb y hy=>by
  rw[h.Ih]
  unfold bI at hb
  obtain⟨x,hx,rfl⟩:=yD.mp hb
  unfold cy at hy
  obtain⟨t,ht,rfl⟩:=yD.mp hy
  exact (h.Mc (zd.mp ht).1).1
 rk:=by
  refine⟨fun x=>ord.idxOf x,fun b hb y hy=>?_⟩
  unfold bI at hb
  obtain⟨x,hx,rfl⟩:=yD.mp hb
  unfold cy at hy
  obtain⟨t,ht,rfl⟩:=yD.mp hy
  obtain⟨ht,QM⟩:=zd.mp ht
  have QM:t.2.2.1=x:=yA QM
  obtain⟨u,v,uv,h1,h2⟩:=h.Kl ht
  rw[QM]at h2
  have ix:∀ (i:Nat) z,ord[i]?=some z->ord.idxOf z=i:=fun i z hz=>by
   have hm:=yj hz
   have hl:=List.idxOf_lt_length_of_mem hm
   exact bN h.nd (by rw[y8 hl,List.getElem_idxOf hl]) hz
  show ord.idxOf t.2.1<ord.idxOf x
  rw[ix _ _ h1,ix _ _ h2]
  exact uv
theorem LN.CU (h:LN S ord R):(az S).Perm (S.BL.map fun t=>(t.1,ci S t.2.1)):=by
 have bl:(bI S).length=S.names.length:=y6 _
 obtain⟨Xk,Qb⟩:=iW h.Ld S.names.length (by omega)
 have UH:∀ x∈bU (bI S) S.names.length,x∈S.names:=fun x hx=>by
  have:=nX h.Ld S.names.length (by omega) x hx
  rw[h.Ih]at this
  exact this
 have Qc:=Mw.Hg _ _ Xk UH (by omega)
 have fin:∀ t∈S.BL,t.2.1∈bU (bI S) S.names.length:=fun t ht=>by
  exact Qc _ (h.Mc ht).1
 have e1:az S=((bU (bI S) S.names.length).flatMap fun x=>S.BL.filter fun t=>decide (t.2.1=x)).map fun t=>(t.1,ci S t.2.1):=by
  unfold az K51.CU NS.Dc
  rw[List.map_flatMap]
  congr 1
  funext x
  rw[yt]
  refine z7 fun t ht=>?_
  have ht:t.2.1=x:=yA (zd.mp ht).2
  rw[ht]
  rfl
 rw[e1]
 exact (Mw.Gy (fun t:Es=>t.2.1) _ S.BL Xk fin).map _
theorem LN.keys (h:LN S ord R):((az S).map (·.1)).Perm (R.map (·.1)):=by
 have:=h.CU.map (·.1)
 rw[yt]at this
 rw[<- h.BL,yt]
 exact this
theorem LN.into (h:LN S ord R)(x:Str):S.into x=aZ R x:=by
 unfold NS.into aZ
 rw[<- h.BL,List.filter_map,yt]
 rfl
theorem LN.Qw (h:LN S ord R)(x:Str):(S.into x).length<=1000:=by
 rw[h.into]
 unfold aZ
 rw[y6]
 have:=zj (fun r:LT=>decide (r.2.2=x)) R
 have:=h.Mo
 omega
theorem LN.fits (h:LN S ord R):v4 (az S) where
 nd:=h.keys.nodup_iff.mpr (h.asc.imp fun z=>Int.ne_of_lt z)
 ahead:=fun i m ks hi hk=>by
  have bl:(bI S).length=S.names.length:=y6 _
  unfold az K51.CU at hi ⊢
  obtain⟨j,x,hj,hm,up⟩:=tH _ _ _ _ hi
  obtain⟨k0,_,rfl⟩:=yD.mp hm
  have hk:ci S x=some ks:=hk
  have ek:ks=S.into x:=by
   unfold ci at hk
   by_cases c:V.str x=aM S.Cb
   ·rw[if_pos c]at hk;cases hk
   ·rw[if_neg c]at hk;exact (Option.some.inj hk).symm
  subst ek
  refine⟨h.Qw x,fun k hk=>?_⟩
  unfold NS.into at hk
  obtain⟨t,QP,rfl⟩:=yD.mp hk
  obtain⟨Y2,QM⟩:=zd.mp QP
  obtain⟨b,hb,e,hy⟩:=kR h.Ld S.names.length (by omega) j x hj
  unfold bI at hb
  obtain⟨x',_,rfl⟩:=yD.mp hb
  have e:x'=x:=e
  subst e
  have y:=hy t.2.1 (yO (f:=fun t:Es=>t.2.1) (zd.mpr ⟨Y2,QM⟩))
  have:=up (t.1,ci S t.2.1) (List.mem_flatMap.mpr ⟨_,y,yD.mpr ⟨t.1,yO (f:=fun t:Es=>t.1) (zd.mpr ⟨Y2,yo rfl⟩),rfl⟩⟩)
  exact yO (f:=fun m:Ek=>m.1) this
theorem LN.EM (h:LN S ord R):(az S).length<64:=by
 have:=h.keys.length_eq
 rw[y6,y6]at this
 have:=h.Mo
 omega
structure Di (hv : V) (p : Int) (many : Nat) (rows : List aA) (fo : Option (List Int)) (R : List LT) (L : Int -> List Int) : Prop where
  eq : ∀ r ∈ R, L r.1 = if gj fo r.1 then List.replicate many 0 else if V.str r.2.1 = hv then bx rows r.1 else Hu p many L (List.replicate many 0) (bx rows r.1) (aZ R r.2.1)
  len : ∀ r ∈ R, (L r.1).length = many
  fit : ∀ r ∈ R, Fn p (L r.1)
theorem LN.Wr (h:LN S ord R){p:Int}{many:Nat}{rows:List aA}{fo:Option (List Int)}{L:Int->List Int} (hL:Di (aM S.Cb) p many rows fo R L) (msg:List Int):∀ (n:Nat),∀ r∈R,ord[n]?=some r.2.1->bw (aU p rows msg fo (az S) []) r.1=some (Mx.dot (L r.1) msg % p):=by
 intro n
 induction n using Nat.strongRecOn with
 | ind n ih=>
  intro r hr hn
  obtain⟨t,ht,e⟩:=yD.mp (h.BL▸hr)
  have e1:t.1=r.1:=congrArg Prod.fst e
  have e2:t.2.1=r.2.1:=congrArg (fun z:LT=>z.2.1) e
  have hm:(r.1,ci S r.2.1)∈az S:=h.CU.mem_iff.mpr (yD.mpr ⟨t,ht,by rw[e1,e2]⟩)
  rw[wn h.fits hm,hL.eq r hr]
  congr 1
  unfold cC
  show (if gj fo r.1=true then 0 else Mx.FA p (bx rows r.1) (inc msg (aU p rows msg fo (az S) []) (ci S r.2.1)))=_
  cases hf:gj fo r.1 with
  | true=>
   rw[if_pos rfl,if_pos rfl,j5]
   simp
  | false=>
   rw[if_neg (fun z=>nomatch z),if_neg (fun z=>nomatch z)]
   by_cases c:V.str r.2.1=aM S.Cb
   ·rw[if_pos c]
    have:ci S r.2.1=none:=by
     unfold ci
     rw[if_pos c]
    rw[this,Mx.Ed]
    rfl
   ·rw[if_neg c]
    have hx:ci S r.2.1=some (aZ R r.2.1):=by
     unfold ci
     rw[if_neg c,h.into]
    rw[hx,Mx.Ed]
    have up:∀ k∈aZ R r.2.1,(L k).length=many/\bw (aU p rows msg fo (az S) []) k=some (Mx.dot (L k) msg % p):=fun k hk=>by
     unfold aZ at hk
     obtain⟨r',CI,rfl⟩:=yD.mp hk
     obtain⟨CI,DT⟩:=zd.mp CI
     have DT:r'.2.2=r.2.1:=yA DT
     obtain⟨u,v,uv,hu,hv⟩:=h.ok r' CI
     rw[DT]at hv
     have:=bN h.nd hv hn
     exact⟨hL.len r' CI,ih u (by omega) r' CI hu⟩
    have ei:inc msg (aU p rows msg fo (az S) []) (some (aZ R r.2.1))=((aZ R r.2.1).map fun k=>Mx.dot (L k) msg).map (· % p):=by
     unfold inc
     rw[yt]
     refine z7 fun k hk=>?_
     rw[(up k hk).2]
     rfl
    rw[ei,Mx.Gd]
    have:=tM (p:=p) (many:=many) (L:=L) (v:=msg) (acc:=List.replicate many 0) (ms:=bx rows r.1) (ts:=aZ R r.2.1) (by simp) fun k hk=>(up k hk).1
    rw[j5,AM]at this
    exact (jz this).symm
theorem LN.RE (h:LN S ord R){p:Int}{many:Nat}{rows:List aA}{fo:Option (List Int)}{L:Int->List Int} (hL:Di (aM S.Cb) p many rows fo R L) (msg:List Int) {r:LT} (hr:r∈R):bw (aU p rows msg fo (az S) []) r.1=some (Mx.dot (L r.1) msg % p):=by
 obtain⟨u,_,_,hu,_⟩:=h.ok r hr
 exact h.Wr hL msg u r hr hu
theorem LN.col (h:LN S ord R){p:Int}{many:Nat}{rows:List aA}{fo:Option (List Int)}{L:Int->List Int} (hL:Di (aM S.Cb) p many rows fo R L) {r:LT} (hr:r∈R):cB p rows fo (az S) many r.1=L r.1:=by
 have hl:=hL.len r hr
 unfold cB
 apply zq
 intro j
 rw[ye]
 by_cases c:j<many
 ·rw[z8 c,y8 (by omega)]
  show some ((bw (aU p rows (Mx.BG many j) fo (az S) []) r.1).getD 0)=_
  rw[h.RE hL _ hr,Mx.Dp,Mx.D7 many j _ hl]
  have hj:(L r.1).getD j 0=(L r.1)[j]'(by omega):=aD (y8 _)
  have:=hL.fit r hr _ (zm (l:=L r.1) (n:=j) (by omega))
  rw[hj]
  show some ((L r.1)[j]'(by omega) % p)=_
  rw[zw this.1 this.2]
 ·rw[yp (by simpa using c),yp (by omega)]
  rfl
end
noncomputable def NT:List Str:=["h","abc","b","ca","d","ebb","f"]
noncomputable def EF:List Str:=["h","d","b","f","ebb","ca","abc"]
noncomputable def V0:List Int:=[0,6,2,5,1,4,3]
noncomputable def lv (x:Str):Int:=(EF.idxOf x:Nat)
noncomputable def EI (H:Hp)(v:V)(r:LT):Prop:=∃ b,v=.ref b/\H b=some (.tup [.int r.1,.str r.2.1,.str r.2.2,.int (lv r.2.1)])
noncomputable def Dd (H:Hp)(l:Addr)(R:List LT):Prop:=∃ xs,H l=some (.lst xs)/\Paired (EI H) xs R
theorem EI.mono {H H':Hp}(e:f' H H'){v:V}{r:LT}:EI H v r->EI H' v r:=fun j'=>by obtain⟨b,a,h⟩:=j';exact⟨b,a,e _ _ h⟩
theorem Dd.mono {H H':Hp}{l:Addr}{R:List LT} (e:f' H H') (h:Dd H l R):Dd H' l R:=by
 obtain⟨xs,h1,h2⟩:=h
 exact⟨xs,e _ _ h1,Paired.Cp h2 fun _ _ z=>z.mono e⟩
theorem t5:∀ i:Nat,i<7->∃ x,NT[i]?=some x/\∃ l:Nat,V0[i]?=some (l:Int)/\EF[l]?=some x/\lv x=(l:Int)/\(l=0->i=0):=by
 intro i hi
 match i,hi with
 | 0,_=>exact⟨"h",rfl,0,rfl,rfl,by decide +kernel,fun _=>rfl⟩
 | 1,_=>exact⟨"abc",rfl,6,rfl,rfl,by decide +kernel,(fun z=>nomatch z)⟩
 | 2,_=>exact⟨"b",rfl,2,rfl,rfl,by decide +kernel,(fun z=>nomatch z)⟩
 | 3,_=>exact⟨"ca",rfl,5,rfl,rfl,by decide +kernel,(fun z=>nomatch z)⟩
 | 4,_=>exact⟨"d",rfl,1,rfl,rfl,by decide +kernel,(fun z=>nomatch z)⟩
 | 5,_=>exact⟨"ebb",rfl,4,rfl,rfl,by decide +kernel,(fun z=>nomatch z)⟩
 | 6,_=>exact⟨"f",rfl,3,rfl,rfl,by decide +kernel,(fun z=>nomatch z)⟩
theorem Lz:NT.Nodup:=by decide +kernel
theorem xD:∀ x∈NT,eV x=true:=by decide +kernel
theorem xq:EF.Nodup:=by decide +kernel
theorem MR:∀ x∈NT,x∈EF:=by decide +kernel
theorem vQ {x:Str}(h:eV x=true):x.length<=8:=by
 unfold eV at h
 rw[zg,zg]at h
 exact yA h.1.2
theorem vW {ln:List Str}(nd:ln.Nodup){ts:List Es}(h:∀ t∈ts,∃ u v:Nat,u<v/\ln[u]?=some t.2.1/\ln[v]?=some t.2.2.1){y x:Str}{v:Nat} (hy:ln[v]?=some y) (L:fg ts y x):∃ w,v<=w/\ln[w]?=some x:=by
 induction L with
 | refl=>exact⟨v,yh _,hy⟩
 | step ht _ ih=>
  obtain⟨w,hw,e⟩:=ih
  obtain⟨u',v',a,b,c⟩:=h _ ht
  have:=bN nd e b
  subst this
  exact⟨v',by omega,c⟩
theorem sn {S:NS}{hd y:Str} (h:∀ p∈S.BV,HB p.2=false->p.1=hd) (ne:y≠hd):HB (S.kind y)=true:=by
 unfold NS.kind
 cases hf:S.BV.find? (fun p=>decide (p.1=y)) with
 | none=>rfl
 | some p=>
  have m1:=zx hf
  have m2:p.1=y:=by simpa using AA hf
  show HB p.2=true
  cases hb:HB p.2 with
  | true=>rfl
  | false=>exact absurd (m2.symm.trans (h p m1 hb)) ne
structure PB (FU : List Str) (i : Nat) (ps : List (Str × Kd)) : Prop where
  names : ps.map (·.1) = FU.take i
  kinds : ∀ p ∈ ps, HB p.2 = false -> p.1 = ("h" : Str)
structure WR (FU : List Str) : Prop where
  nd : FU.Nodup
  ok : ∀ x ∈ FU, eV x = true
  len : FU.length <= 20
theorem PB.start (FU:List Str):PB FU 0 []:=⟨by rw[zU];rfl,fun p h=>(yB h).elim⟩
theorem PB.len {FU:List Str}{i:Nat}{ps:List (Str×Kd)} (h:PB FU i ps) (hi:i<=FU.length):ps.length=i:=by
 have:=congrArg List.length h.names
 rw[y6,yM]at this
 omega
theorem PB.due {FU:List Str}(N:WR FU){i:Nat}{ps:List (Str×Kd)} (h:PB FU i ps) {x:Str} (hx:FU[i]?=some x) {k:Kd} (hk:HB k=false->x=("h":Str)) (hl:KH k=true->(NS.DO ⟨ps,[],0⟩).length<8):may ⟨ps,[],0⟩ x k/\PB FU (i+1) (ps++[(x,k)])/\x.length<=1000:=by
 have hi:=(yb.mp hx).1
 have pl:=h.len (by omega)
 have xn:=N.ok x (yj hx)
 have nl:=N.len
 have fresh:¬ x∈FU.take i:=fun z=>by
  obtain⟨j,hj,ej⟩:=zH.mp z
  have:=bN N.nd (i:=j) (j:=i) (x:=x) (by rw[y8 (by omega),ej]) hx
  omega
 refine⟨⟨xn,?_,(fun j'=>?_),?_⟩,⟨?_,fun p hp=>?_⟩,yV (vQ xn) (by decide)⟩
 ·show ¬ x∈ps.map (·.1)
  rw[h.names]
  exact fresh
 ·obtain⟨z1,z2⟩:=j'
  have hxh:=hk z1
  obtain⟨q,hq⟩:=AO.mp z2
  unfold NS.Cb at hq
  have m1:q∈ps:=zx hq
  have m2:HB q.2=false:=by simpa using AA hq
  have m3:=h.kinds q m1 m2
  exact fresh (by rw[<- h.names,hxh,<- m3];exact yO m1)
 ·unfold xP
  show (decide (20<=ps.length) || (KH k&&decide (8<=(NS.DO ⟨ps,[],0⟩).length)))=false
  rw[yq (by omega)]
  cases hr:KH k with
  | false=>rfl
  | true=>
   rw[yq (by have:=hl hr;omega)]
   rfl
 ·rw[yN,h.names,z6,hx]
  rfl
 ·rcases yF.mp hp with z|z
  ·exact h.kinds p z
  ·rw[yK.mp z];exact hk
structure LX (S : NS) (ord : List Str) (R : List LT) : Prop where
  ln : LN S ord R
  OI : ∀ r ∈ R, r.1 < S.next
  SX : ∀ p ∈ S.BV, HB p.2 = false -> p.1 = ("h" : Str)
theorem LX.first {FU ord:List Str}{ps:List (Str×Kd)} (N:WR FU) (h:PB FU FU.length ps) (Gu:∀ x∈FU,x∈ord) (nd:ord.Nodup) (h0:ord[0]?=some ("h":Str)) (hl:ord.length<=20):LX ⟨ps,[],0⟩ ord [] where
 ln:=by
  have nm:NS.names ⟨ps,[],0⟩=FU:=by
   show ps.map (·.1)=_
   rw[h.names,zh]
  exact⟨by rw[nm];exact N.nd,by rw[nm];exact Gu,nd,h0,rfl,fun r hr=>(yB hr).elim,fun r hr=>(yB hr).elim,List.Pairwise.nil,hl,by simp⟩
 OI:=fun r hr=>(yB hr).elim
 SX:=fun p hp hb=>h.kinds p hp hb
theorem LX.step {S:NS}{ord:List Str}{R:List LT} (h:LX S ord R) (hR:R.length<40) {a b:Nat}{x y:Str}{d:Int} (LS:a<b) (hx:ord[a]?=some x) (hy:ord[b]?=some y) (xn:x∈S.names) (yn:y∈S.names):LX (S.Kl x y d) ord (R++[(S.next,x,y)]) where
 ln:=by
  refine⟨h.ln.ID,h.ln.GU,h.ln.nd,h.ln.zero,?_,fun r hr=>?_,fun r hr=>?_,?_,h.ln.len,by rw[yI,zL];omega⟩
  ·show (S.BL++[(S.next,x,y,d)]).map _=_
   rw[yN,h.ln.BL]
   rfl
  ·rcases yF.mp hr with z|z
   ·exact h.ln.mem r z
   ·rw[yK.mp z]
    exact⟨xn,yn⟩
  ·rcases yF.mp hr with z|z
   ·exact h.ln.ok r z
   ·rw[yK.mp z]
    exact⟨a,b,LS,hx,hy⟩
  ·rw[yN,List.pairwise_append]
   refine⟨h.ln.asc,by simp,fun u hu v hv=>?_⟩
   obtain⟨r,hr,rfl⟩:=yD.mp hu
   have:v=S.next:=by simpa using hv
   rw[this]
   exact h.OI r hr
 OI:=fun r hr=>by
  show r.1<S.next+1
  rcases yF.mp hr with z|z
  ·have:=h.OI r z;omega
  ·rw[yK.mp z]
   show S.next<S.next+1
   omega
 SX:=h.SX
theorem LX.free {S:NS}{ord:List Str}{R:List LT} (h:LX S ord R) {a b:Nat}{x y:Str} (LS:a<b) (hx:ord[a]?=some x) (hy:ord[b]?=some y):HB (S.kind y)=true/\¬ fg S.BL y x/\S.BL.length=R.length/\∀ t∈S.BL,t.1<S.next:=by
 refine⟨sn h.SX fun z=>?_,fun L=>?_,?_,fun t ht=>?_⟩
 ·rw[z]at hy
  have:=bN h.ln.nd hy h.ln.zero
  omega
 ·obtain⟨w',hw,ew⟩:=vW h.ln.nd (fun t ht=>h.ln.Kl ht) hy L
  have:=bN h.ln.nd ew hx
  omega
 ·rw[<- h.ln.BL,y6]
 ·exact h.OI (t.1,t.2.1,t.2.2.1) (h.ln.BL▸yO (f:=fun t:Es=>(t.1,t.2.1,t.2.2.1)) ht)
theorem BS.U4 {c:Cl}{H:Hp}{n dp dt l:Addr}{S:NS}{xs:List V}{o:HO} (N:BS c H n dp dt S) (hl:H l=some (.lst xs)):BS c (upd H l o) n dp dt S:=by
 have k:∀ b u,H b=some u->(∀ ys,u≠.lst ys)->upd H l o b=some u:=fun b u hb hu=>by
  rw[ae (fun z=>by rw[z,hl]at hb;cases hb;exact hu _ rfl)];exact hb
 obtain⟨⟨dx,h1⟩,⟨kp,h2,q2⟩,⟨kt,h3,q3⟩,h4⟩:=N
 exact⟨⟨dx,k _ _ h1 (fun _ z=>nomatch z)⟩,⟨kp,k _ _ h2 (fun _ z=>nomatch z),Paired.Cp q2 fun kv p j'=>(by obtain⟨e,a,dy,ev,ha⟩:=j';exact⟨e,a,dy,ev,k _ _ ha (fun _ z=>nomatch z)⟩)⟩,⟨kt,k _ _ h3 (fun _ z=>nomatch z),Paired.Cp q3 fun kv p j'=>(by obtain⟨e,a,ev,ha⟩:=j';exact⟨e,a,ev,k _ _ ha (fun _ z=>nomatch z)⟩)⟩,h4⟩
theorem Dd.but {c:Cl}{H H':Hp}{n dp dt l:Addr}{S:NS}{R:List LT} (N:BS c H n dp dt S) (b:OD n dt H H') (h:Dd H l R):Dd H' l R:=by
 obtain⟨xs,h1,h2⟩:=h
 obtain⟨dx,hn⟩:=N.ins
 obtain⟨kt,hd,_⟩:=N.BL
 exact⟨xs,b _ _ (aY h1 hn (fun z=>nomatch z)) (aY h1 hd (fun z=>nomatch z)) h1,Paired.Cp h2 fun v r j'=>(by obtain⟨t,e,ht⟩:=j';exact⟨t,e,b _ _ (aY ht hn (fun z=>nomatch z)) (aY ht hd (fun z=>nomatch z)) ht⟩)⟩
theorem Dd.snoc {H:Hp}{l T:Addr}{R:List LT}{xs:List V}{r:LT} (hl:H l=some (.lst xs)) (hp:Paired (EI H) xs R) (hT:H T=some (.tup [.int r.1,.str r.2.1,.str r.2.2,.int (lv r.2.1)])):Dd (upd H l (.lst (xs++[.ref T]))) l (R++[r]):=by
 refine⟨_,a9,Paired.El (Paired.Cp hp fun v r ⟨b,e,hb⟩=>⟨b,e,?_⟩) ⟨T,rfl,?_⟩⟩
 ·rw[ae (aY hb hl (fun z=>nomatch z))];exact hb
 ·rw[ae (aY hT hl (fun z=>nomatch z))];exact hT
end K51
namespace K51
open PySem L2
open PyProof.Rows (boot_list boot_int boot_bool boot_tuple boot_str boot_dict boot_all boot_sorted)
theorem pR {α β:Type}(f:α->β){l:List β}{m:List α} (h:l.Perm (m.map f)):∃ m':List α,m'.Perm m/\l=m'.map f:=by
 have base:∀ m:List α,Paired (fun (a:α) (b:β)=>b=f a) m (m.map f):=fun m=>by
  induction m with
  | nil=>exact .nil
  | cons a m ih=>exact .cons rfl ih
 obtain⟨m',p,r⟩:=fM h (base m)
 refine⟨m',p,?_⟩
 clear p h
 induction r with
 | nil=>rfl
 | cons a _ ih=>rw[a,ih];rfl
theorem j8 {α β:Type}{f:α->β}{l:List α}{i:Nat}{y:β} (h:(l.map f)[i]?=some y):∃ x,l[i]?=some x/\f x=y:=yX.mp (ye▸h)
theorem xF (ps:List (Str×Kd)):(NS.DO ⟨ps,[],0⟩).length<=ps.length:=by
 unfold NS.DO
 rw[y6]
 exact zj _ _
noncomputable def fc (is:List Nat):List Str:=is.map fun i=>NT.getD i ""
theorem MT {is:List Nat}{n:Nat} (hn:n<=7) (h:is.Perm (List.range n)):WR (fc is)/\∀ x∈fc is,x∈EF:=by
 have lt:∀ i∈is,i<7:=fun i hi=>yG (zz.mp (h.mem_iff.mp hi)) hn
 have mem:∀ x∈fc is,x∈NT:=fun x hx=>by
  obtain⟨i,hi,rfl⟩:=yD.mp hx
  have:=lt i hi
  exact mem_getD (show i<NT.length from this)
 refine⟨⟨?_,fun x hx=>xD x (mem x hx),?_⟩,fun x hx=>MR x (mem x hx)⟩
 ·have nd:is.Nodup:=h.nodup_iff.mpr List.nodup_range
  refine List.Pairwise.map _ (fun a b LS=>LS) (List.Pairwise.imp_of_mem (R:=fun a b=>a≠b) (fun {a b} ha hb ne z=>ne ?_) nd)
  obtain⟨x,hx,_⟩:=t5 a (lt a ha)
  obtain⟨y,hy,_⟩:=t5 b (lt b hb)
  have e1:NT.getD a ""=x:=by rw[yc,hx];rfl
  have e2:NT.getD b ""=y:=by rw[yc,hy];rfl
  have:x=y:=e1.symm.trans (z.trans e2)
  rw[this]at hx
  exact bN Lz hx hy
 ·unfold fc
  rw[y6,h.length_eq,zi]
  omega
noncomputable def CK (H H':Hp):Prop:=∀ b o,(∀ ps,o≠HO.tbl ps)->H b=some o->H' b=some o
theorem f'.t {H H':Hp}(e:f' H H'):CK H H':=fun b o _ h=>e b o h
theorem CK.trans {H H1 H2:Hp}(a:CK H H1)(b:CK H1 H2):CK H H2:=fun c o n h=>b c o n (a c o n h)
theorem Sx {Pt:Addr}{H H':Hp}{pos:Pos}{q:Str} (s:Sb Pt H H') (t:TabAt Pt pos q H):CK H H':=fun b o n h=>s b o (fun z=>by
 obtain⟨ps,e,_⟩:=t
 rw[z,e]at h
 exact n ps (Option.some.inj h).symm) h
theorem BS.Cn {c:Cl}{H H':Hp}{n dp dt:Addr}{S:NS} (N:BS c H n dp dt S) (k:CK H H'):BS c H' n dp dt S:=by
 obtain⟨⟨dx,h1⟩,⟨kp,h2,q2⟩,⟨kt,h3,q3⟩,h4⟩:=N
 exact⟨⟨dx,k _ _ (fun _ z=>nomatch z) h1⟩,⟨kp,k _ _ (fun _ z=>nomatch z) h2,Paired.Cp q2 fun kv p j'=>(by obtain⟨e,a,dy,ev,ha⟩:=j';exact⟨e,a,dy,ev,k _ _ (fun _ z=>nomatch z) ha⟩)⟩,⟨kt,k _ _ (fun _ z=>nomatch z) h3,Paired.Cp q3 fun kv p j'=>(by obtain⟨e,a,ev,ha⟩:=j';exact⟨e,a,ev,k _ _ (fun _ z=>nomatch z) ha⟩)⟩,h4⟩
theorem t4 {m j:Nat}(hj:j<m)(hm:m<=7):∃ x,NT[j]?=some x/\NT.getD j ""=x/\GZ ((NT.take m).map V.str) (j:Int)=some (.str x):=by
 obtain⟨x,hx,_⟩:=t5 j (by omega)
 refine⟨x,hx,by rw[yc,hx];rfl,cz ?_⟩
 rw[ye,Aa hj,hx]
 rfl
noncomputable def XC:Pos:=⟨376,52,376,100⟩
noncomputable def XB:Str:=("_law_net":Str)++".<locals>."++"<lambda>"
noncomputable def nI (c:Cl)(Pt:Addr):Sp:=fun vs H Q _=>∃ (a:Addr)(f:Int)(cs:List Int),vs=[.int f,.ref a]/\H a=some (.lst (cs.map V.int))/\cs.length<=12/\TabAt Pt XC XB H/\
 ∀ t n lt dp dt H' S R,Sb Pt H H'->H t=none->H' t=some (.tup [.ref n,.ref lt])->BS c H' n dp dt S->Dd H' lt R->LX S EF R->R.length<=12->(∀ r∈R,0<=r.1/\r.1<12)->Q (.ref t) H'
noncomputable abbrev rE:Stmt:=top 65
theorem Iz:ai ["_law_first","_law_cells","_law_names","_law_net_here","_law_order","_law_k","_law_ties","_law_level","_law_cell","_law_one","_law_other"] ["_law_first","_law_cells"] (af rE):=CG
theorem xA {c:Cl}{f Pt:Addr}{fd:FuncData} (F:Cu K "_law_net" "_law_net" rE f fd) (L:xW mg base fd Pt) (T:wG mg) (Ki:Dk P w K mg base 1 "Net" c.CS ["self"] (oZ c)) (CY:Df P w K mg base 1 "_law_mix" ["_law_cell","_law_k"] jN)
  (Ec:Dm P w K mg base 4 c.CS "house" ["self","name"] (iD c .house)) (Ds:Dm P w K mg base 4 c.CS "listener" ["self","name"] (iD c .listener)) (Ey:Dm P w K mg base 4 c.CS "post" ["self","name"] (iD c .post))
  (Ex:U1 P w K mg base 3 c.CS "tie" ["self","one","other","delay"] [.int 1] (rj c)):BF P w K mg base Co 6 f fd ["_law_first","_law_cells"] (nI c Pt):=by
 refine F.Xl L Iz (fun vs H Q E h=>?_) (fun BJ A outer s H vs Q E NX hr h=>?_)
 ·obtain⟨a,f,cs,rfl,_⟩:=h
  rfl
 ·obtain⟨a,fi,cs,rfl,ha,hcs,tab,q⟩:=h
  have ND:=Iz.nd
  refine⟨_,(aa (pS 2 ND (cK (p7 K) (bE (a0 dm (a0 dm (a0 dm (a0 dm (a0 dm (a0 dm (a0 dm ab)))))))) eN (cX (aB cH ag (aB bg (pv 0) ag)))))
 (aa (pS 3 ND (ut Ki hr.m rfl))
 (aa (pS 4 ND (kM (k:=1) (x:="_law_k") (js:=[0]) (N':=["_law_k","_law_first"]) hr.m rfl rfl T.E3 NX (jr rfl rfl (by kernel_rfl)) (a0 (ME rfl T.CA (a0 (aw (dJ K) rfl T.Ci boot_len (a0 (pv 2) ab)) ab)) ab)
  (fun _ _ _ _ _ _ _ hr=>(ak CY hr.m rfl (a0 (pv 1) (a0 (aB cH ag (pv 0)) ab)))) (fun _ _ _ _ _ _=>rfl) rfl))
 (aa (bi yS rfl (bQ K (pv 4)) (pN 5 ND)
  (ad (dk (PW.pt (gK (pT bP (pv 5) ag) (eM (pT kW (aB bg (aB cZ (pv 0) ag) ag) ag))))
  (ad (b8 (aE (pv 3) Ec hr.m (a0 (pI (d0 K) (pv 2) (pv 5)) ab))))
  (ad (dk (PW.pt (gK (pT kW (pv 5) ag) (eM (PW.pt (dY (pT bP (pv 5) ag) (eJ (pT bP (aB bg (ak CY hr.m rfl (a0 (pv 0) (a0 (pv 5) ab))) ag) ag)))))))
  (ad (b8 (aE (pv 3) Ds hr.m (a0 (pI (d0 K) (pv 2) (pv 5)) ab))))
  (ad (b8 (aE (pv 3) Ey hr.m (a0 (pI (d0 K) (pv 2) (pv 5)) ab)))))))))
 (aa (pS 6 ND (bE ab))
 (aa (pS 7 ND (bE (a0 ag (a0 ag (a0 ag (a0 ag (a0 ag (a0 ag (a0 ag ab)))))))))
 (aa (bi yS rfl (bQ K (pv 1)) (pN 8 ND)
  (aa (pS 9 ND (aB bg (ak CY hr.m rfl (a0 (pv 8) (a0 ag ab))) (aw (dJ K) rfl T.Ci boot_len (a0 (pv 2) ab))))
 (aa (pS 10 ND (aB bg (ak CY hr.m rfl (a0 (pv 8) (a0 ag ab))) (aw (dJ K) rfl T.Ci boot_len (a0 (pv 2) ab))))
 (aa (dk (pT kW (pI (d0 K) (pv 7) (pv 9)) (pI (d0 K) (pv 7) (pv 10)))
  (ad (Mu (i:=9) (j:=10) rfl ND rfl rfl (by decide) rfl rfl (a0 (pv 10) (a0 (pv 9) ab)) rfl))
  ay)
 (ad (dk (pT ic (pv 9) (pv 10))
  (ad (b8 (Oe K zt zO zN cg (pv 6) (a0 (bv (a0 (vz (pv 3) Ex hr.m (a0 (pI (d0 K) (pv 2) (pv 9)) (a0 (pI (d0 K) (pv 2) (pv 10)) ab))) (a0 (pI (d0 K) (pv 2) (pv 9)) (a0 (pI (d0 K) (pv 2) (pv 10)) (a0 (pI (d0 K) (pv 7) (pv 9)) ab))))) ab))))
  ay))))))
 (ad (am (bv (a0 (pv 3) (a0 (pv 6) ab)))))))))))),?_⟩
  obtain⟨m,em,m2,m7⟩:∃ m:Nat,2+fi % 6=(m:Int)/\2<=m/\m<=7:=by
   have b1:=zo fi (show (6:Int)≠0 by decide)
   have b2:=zb fi (show (0:Int)<6 by decide)
   exact⟨(2+fi % 6).toNat,by omega,by omega,by omega⟩
  refine⟨(by show 7<=sizeLine;decide),fun L0 H0 e0 h0 RB=>⟨_,rfl,_,_,rfl,rfl,(by show (0:Int)<6;decide),_,_,rfl,rfl,_,rfl,L0,_,rfl,B'.of RB,fun Ln H1 e1 h1 To=>?_⟩⟩
  have To:H1 Ln=some (.lst ((NT.take m).map V.str)):=by
   rw[To,em,ir,BE]
   rfl
  have Kc:=e0.trans e1
  intro n dx hn hdx nd
  refine⟨n,dx,rfl,a9,fun dp dt H2 p1 p2 p3 b1 hi hp ht=>⟨rfl,?_⟩⟩
  have x1:dp≠n:=fun z=>by rw[z,a9]at p1;cases p1
  have x2:dt≠n:=fun z=>by rw[z,a9]at p2;cases p2
  have y1:dp≠dx:=fun z=>by rw[ae x1,z,a9]at p1;cases p1
  have y2:dt≠dx:=fun z=>by rw[ae x2,z,a9]at p2;cases p2
  have p1:H1 dp=none:=by rw[ae x1,ae y1]at p1;exact p1
  have p2:H1 dt=none:=by rw[ae x2,ae y2]at p2;exact p2
  have e2:f' H1 H2:=fun a o ha=>b1 a o (ah ha hn) (by rw[ae (ah ha hn),ae (ah ha hdx)];exact ha)
  have N2:BS c H2 n dp dt ⟨[],[],0⟩:=⟨⟨dx,hi⟩,⟨[],hp,.nil⟩,⟨[],ht,.nil⟩,p3⟩
  clear hp ht b1 hi
  have Nf:((NT.take m).map V.str).length=m:=by rw[y6,yM];show min m 7=m;omega
  refine⟨_,rfl,Ln,_,rfl,.inl (B'.of (e2 _ _ To)),m,by rw[Nf],by omega,fun r CI=>?_⟩
  have e3:f' H2 (upd H2 r (.rng 0 m)):=aq (f'.refl _) CI
  have Y6:(upd H2 r (.rng 0 m)) r=some (.rng 0 m):=a9
  generalize upd H2 r (.rng 0 m)=H3 at e3 Y6
  have Gz:=(Kc.trans e2).trans e3
  refine⟨.ref r,(List.range m).map (fun i:Nat=>V.int (i:Int)),(List.range m).map (fun i:Nat=>dv fi (40+(i:Int))),fun _=>True,rfl,.inr ⟨r,m,rfl,Y6,by omega,rfl⟩,by rw[y6,zi];omega,by rw[y6,y6],tab.same Gz,fun _ _ _=>trivial,fun i x k hx hk G _=>?_,fun G D qs _ sb tb hD pm _=>?_⟩
  ·obtain⟨i',FW,rfl⟩:=j8 hx
   obtain⟨i2,Yt,rfl⟩:=j8 hk
   have:i'=i2:=by rw[FW]at Yt;exact Option.some.inj Yt
   subst this
   have il:i'<m:=zz.mp (yj FW)
   exact⟨_,rfl,_,rfl,_,_,rfl,rfl,fi,40+(i':Int),rfl,by omega,by omega,fun G' Jv=>⟨rfl,Jv,trivial⟩⟩
  have kT:CK H3 (upd G D (.lst (qs.map Prod.snd))):=fun b o no hb=>by
   have:=Sx sb (tab.same Gz) b o no hb
   rw[ae (ah this hD)]
   exact this
  have kS:Sb Pt H (upd G D (.lst (qs.map Prod.snd))):=fun b o nb hb=>by
   have:=sb b o nb (Gz _ _ hb)
   rw[ae (ah this hD)]
   exact this
  have KW:∃ ps,(upd G D (.lst (qs.map Prod.snd))) Pt=some (.tbl ps):=by
   obtain⟨ps,hP,_⟩:=tb
   exact⟨ps,by rw[ae (ah hP hD)];exact hP⟩
  have NY:(upd G D (.lst (qs.map Prod.snd))) D=some (.lst (qs.map Prod.snd)):=a9
  obtain⟨is,SF,YV⟩:=pR (fun i:Nat=>V.int (i:Int)) (l:=qs.map Prod.snd) (m:=List.range m) (by
   have:=pm.map Prod.snd
   rwa [List.map_snd_zip (by rw[y6,y6];exact yh _)]at this)
  rw[YV]at kT kS NY KW ⊢
  generalize upd G D (.lst (is.map fun i:Nat=>V.int (i:Int)))=H4 at kT kS NY KW
  clear sb tb hD pm YV
  have nl:∀ {xs:List V} (ps:Array Value),HO.lst xs≠HO.tbl ps:=fun _ z=>nomatch z
  have EH:=kT _ _ nl (e3 _ _ (e2 _ _ To))
  have Jt:=kT _ _ nl (Gz _ _ ha)
  have N4:BS c H4 n dp dt ⟨[],[],0⟩:=(N2.mono e3).Cn kT
  obtain⟨dx4,Yj⟩:=id N4.ins
  obtain⟨kp4,Yc,_⟩:=id N4.BV
  obtain⟨kt4,XZ,_⟩:=id N4.BL
  have il:is.length=m:=by rw[SF.length_eq,zi]
  have ilt:∀ j∈is,j<m:=fun j hj=>zz.mp (SF.mem_iff.mp hj)
  obtain⟨NM,NO⟩:=MT m7 SF
  have ne4:∀ {b:Addr}{xs:List V},H4 b=some (.lst xs)->b≠n/\b≠dp/\b≠dt:=fun hb=>⟨aY hb Yj (fun z=>nomatch z),aY hb Yc (fun z=>nomatch z),aY hb XZ (fun z=>nomatch z)⟩
  refine⟨_,rfl,D,rfl,⟨_,B'.of NY⟩,bC (K:=K) (xs:=is.map fun i:Nat=>V.int (i:Int)) (fun i σ G=>(∃ o5,σ=[some (.int fi),some (.ref a),some (.ref Ln),some (.ref n),some (.ref D),o5,none,none,none,none,none])/\(∀ b o,b≠n->b≠dp->b≠dt->H4 b=some o->G b=some o)/\∃ ps,PB (fc is) i ps/\BS c G n dp dt ⟨ps,[],0⟩)
   ⟨⟨none,rfl⟩,fun b o _ _ _ h=>h,[],PB.start _,N4⟩ (fun i σ G _ h=>B'.of (h.2.1 _ _ (ne4 NY).1 (ne4 NY).2.1 (ne4 NY).2.2 NY)) ?_ ?_⟩
  ·rintro i v σ G ev ⟨⟨o5,rfl⟩,kb,ps,hB,NG⟩
   obtain⟨j,ej,rfl⟩:=j8 ev
   have jm:=ilt j (yj ej)
   have im:i<m:=by have:=(yb.mp ej).1;omega
   obtain⟨x,hx,gx,ax⟩:=t4 jm m7
   have nx:(fc is)[i]?=some x:=by
    unfold fc
    rw[ye,ej,Az,gx]
   have JZ:=kb _ _ (ne4 EH).1 (ne4 EH).2.1 (ne4 EH).2.2 EH
   have put:∀ k:Kd,(HB k=false->x=("h":Str))->may ⟨ps,[],0⟩ x k/\PB (fc is) (i+1) (ps++[(x,k)])/\x.length<=1000/\(NS.BV ⟨ps,[],0⟩).length<=1000:=fun k hk=>by
    have pl:=hB.len (by unfold fc;rw[y6];omega)
    obtain⟨d1,B2,d3⟩:=hB.due NM nx hk (fun _=>by have:=xF ps;omega)
    exact⟨d1,B2,d3,by show ps.length<=1000;omega⟩
   have kk:∀ {G' G2:Hp},f' G G'->HS dp G' G2->∀ b o,b≠n->b≠dp->b≠dt->H4 b=some o->G2 b=some o:=fun eG b' b o n1 n2 n3 hb=>b' b o n2 (eG _ _ (kb b o n1 n2 n3 hb))
   obtain⟨RN,Rz⟩:=id NG.ins
   refine⟨_,fun σ' G' h=>h,?_⟩
   have cell:∀ (G':Hp),f' G G'->B' K G' Ln ((NT.take m).map V.str):=fun G' eG=>B'.of (eG _ _ JZ)
   refine⟨_,rfl,rfl,_,rfl,bH (fun g=>⟨_,rfl,_,_,rfl,rfl,⟨by decide,by decide⟩,_,_,rfl,rfl,(by show (0:Int)<9;decide),_,_,rfl,rfl,_,rfl,bH (fun g2=>?_) (fun g2=>?_)⟩) (fun g=>ba ?_)⟩
   ·have g:(j:Int)=0:=by have:=yA g;injection this
    have j0:j=0:=by omega
    have xh:x=("h":Str):=by
     rw[j0]at hx
     exact (Option.some.inj hx).symm
    obtain⟨d1,B2,d3,d4⟩:=put .house (fun _=>xh)
    refine⟨_,rfl,n,RN,_,rfl,Rz,rfl,_,rfl,_,rfl,Ln,_,_,_,rfl,rfl,cell G (f'.refl _),ax,n,dp,dt,_,x,rfl,NG.mono (f'.refl _),d3,d4,d1,fun G2 b' a4=>⟨⟨_,rfl⟩,kk (f'.refl _) b',_,B2,a4⟩⟩
   all_goals
    refine⟨_,fun σ' G' h=>h,?_⟩
    refine⟨_,rfl,_,_,rfl,rfl,_,rfl,bH (fun g3=>⟨_,rfl,rfl,_,rfl,bH (fun g4=>cw ?_) (fun g4=>⟨_,rfl,_,rfl,fi,(j:Int),rfl,by omega,by omega,fun G' Jv=>⟨_,_,rfl,rfl,(by show (0:Int)<2;decide),rfl,_,rfl,bH (fun g5=>?_) (fun g5=>?_)⟩⟩)⟩) (fun g3=>ba ?_)⟩
    ·obtain⟨d1,B2,d3,d4⟩:=put .listener (fun z=>nomatch z)
     refine⟨_,rfl,n,RN,_,rfl,Rz,rfl,_,rfl,_,rfl,Ln,_,_,_,rfl,rfl,cell G (f'.refl _),ax,n,dp,dt,_,x,rfl,NG.mono (f'.refl _),d3,d4,d1,fun G2 b' a4=>⟨⟨_,rfl⟩,kk (f'.refl _) b',_,B2,a4⟩⟩
    ·obtain⟨d1,B2,d3,d4⟩:=put .listener (fun z=>nomatch z)
     refine⟨_,rfl,n,RN,_,rfl,Jv _ _ Rz,rfl,_,rfl,_,rfl,Ln,_,_,_,rfl,rfl,cell G' Jv,ax,n,dp,dt,_,x,rfl,NG.mono Jv,d3,d4,d1,fun G2 b' a4=>⟨⟨_,rfl⟩,kk Jv b',_,B2,a4⟩⟩
    ·obtain⟨d1,B2,d3,d4⟩:=put .post (fun z=>nomatch z)
     refine⟨_,rfl,n,RN,_,rfl,Jv _ _ Rz,rfl,_,rfl,_,rfl,Ln,_,_,_,rfl,rfl,cell G' Jv,ax,n,dp,dt,_,x,rfl,NG.mono Jv,d3,d4,d1,fun G2 b' a4=>⟨⟨_,rfl⟩,kk Jv b',_,B2,a4⟩⟩
    ·obtain⟨d1,B2,d3,d4⟩:=put .post (fun z=>nomatch z)
     refine⟨_,rfl,n,RN,_,rfl,Rz,rfl,_,rfl,_,rfl,Ln,_,_,_,rfl,rfl,cell G (f'.refl _),ax,n,dp,dt,_,x,rfl,NG.mono (f'.refl _),d3,d4,d1,fun G2 b' a4=>⟨⟨_,rfl⟩,kk (f'.refl _) b',_,B2,a4⟩⟩
  ·rintro σ G1 ⟨⟨o5,rfl⟩,kb,ps,hB,N1⟩
   rw[y6,il]at hB
   have MU:(fc is).length=m:=by unfold fc;rw[y6,il]
   have X1:LX ⟨ps,[],0⟩ EF []:=LX.first NM (by rw[MU];exact hB) NO xq rfl (by decide)
   have MX:∀ p x,p<m->NT[p]?=some x->x∈ps.map (·.1):=fun p x hp hx=>by
    have h1:=hB.names
    rw[zy (by unfold fc;rw[y6];omega)]at h1
    rw[h1]
    refine yD.mpr ⟨p,SF.mem_iff.mpr (zz.mpr hp),?_⟩
    rw[yc,hx]
    rfl
   refine⟨(by show 0<=sizeLine;decide),fun tl G2 GO Gx IQ=>⟨(by show 7<=sizeLine;decide),fun le G3 GN Wm hle=>?_⟩⟩
   have hle:G3 le=some (.lst (V0.map V.int)):=hle
   have HI:=GO.trans GN
   have k3:∀ b o,b≠n->b≠dp->b≠dt->H4 b=some o->G3 b=some o:=fun b o n1 n2 n3 hb=>HI _ _ (kb b o n1 n2 n3 hb)
   have YD:=k3 _ _ (ne4 Jt).1 (ne4 Jt).2.1 (ne4 Jt).2.2 Jt
   have Wh:=k3 _ _ (ne4 EH).1 (ne4 EH).2.1 (ne4 EH).2.2 EH
   have Nr:=GN _ _ IQ
   have N3:=N1.mono HI
   obtain⟨dx3,R5⟩:=id N3.ins
   obtain⟨kt3,Y0,_⟩:=id N3.BL
   have Ss:∀ b o,b≠n->b≠dp->b≠dt->H4 b=some o->b≠tl:=fun b o n1 n2 n3 hb=>ah (kb b o n1 n2 n3 hb) Gx
   have SJ:tl≠n/\tl≠dt:=⟨aY Nr R5 (fun z=>nomatch z),aY Nr Y0 (fun z=>nomatch z)⟩
   have Qp:Ln≠n/\Ln≠dt/\Ln≠tl:=⟨(ne4 EH).1,(ne4 EH).2.2,Ss _ _ (ne4 EH).1 (ne4 EH).2.1 (ne4 EH).2.2 EH⟩
   have na:a≠n/\a≠dt/\a≠tl:=⟨(ne4 Jt).1,(ne4 Jt).2.2,Ss _ _ (ne4 Jt).1 (ne4 Jt).2.1 (ne4 Jt).2.2 Jt⟩
   have LB:le≠n/\le≠dt/\le≠tl:=⟨aY hle R5 (fun z=>nomatch z),aY hle Y0 (fun z=>nomatch z),(ah IQ Wm).symm⟩
   have mem:∀ r:Int,∃ u:Nat,r % (((NT.take m).map V.str).length:Int)=(u:Int)/\u<m:=fun r=>by
    rw[Nf]
    obtain⟨u,eu⟩:=Int.eq_ofNat_of_zero_le (zo r (show (m:Int)≠0 by omega))
    have:=zb r (show (0:Int)<m by omega)
    exact⟨u,eu,by omega⟩
   refine⟨_,rfl,a,rfl,⟨_,B'.of YD⟩,bC (K:=K) (xs:=cs.map V.int) (fun i σ G=>(∃ o5 o8 o9 HW,σ=[some (.int fi),some (.ref a),some (.ref Ln),some (.ref n),some (.ref D),o5,some (.ref tl),some (.ref le),o8,o9,HW])/\(∀ b o,b≠n->b≠dt->b≠tl->G3 b=some o->G b=some o)/\∃ S R,BS c G n dp dt S/\LX S EF R/\Dd G tl R/\R.length<=i/\0<=S.next/\S.next<=i/\(∀ r∈R,0<=r.1)/\S.names=ps.map (·.1))
    ⟨⟨_,_,_,_,rfl⟩,fun b o _ _ _ h=>h,_,[],N3,X1,⟨[],Nr,.nil⟩,yh _,Int.le_refl _,Int.le_refl _,fun r h=>(yB h).elim,rfl⟩ (fun i σ G _ h=>B'.of (h.2.1 _ _ na.1 na.2.1 na.2.2 YD)) ?_ ?_⟩
   ·rintro i v σ G ev ⟨⟨o5,o8,o9,HW,rfl⟩,kG,S,R,NG,XG,TG,hR,s0,s1,r0,SY⟩
    obtain⟨cell,ec,rfl⟩:=j8 ev
    have i12:i<12:=by have:=(yb.mp ec).1;omega
    have JZ:=kG _ _ Qp.1 Qp.2.1 Qp.2.2 Wh
    obtain⟨u,eu,hu⟩:=mem (dv cell 1)
    obtain⟨v,O3,hv⟩:=mem (dv cell 2)
    have mp:(0:Int)<(((NT.take m).map V.str).length:Int):=by rw[Nf];omega
    refine⟨_,rfl,cell,1,rfl,by decide,by decide,fun Ga ea=>⟨_,rfl,Ln,_,rfl,.inl (B'.of (ea _ _ JZ)),_,_,rfl,rfl,mp,?_⟩⟩
    refine⟨_,rfl,cell,2,rfl,by decide,by decide,fun Gb eb=>⟨_,rfl,Ln,_,rfl,.inl (B'.of (eb _ _ (ea _ _ JZ))),_,_,rfl,rfl,mp,?_⟩⟩
    dsimp only
    rw[eu,O3]
    have Tu:=ea.trans eb
    have V':∀ b o,b≠n->b≠dt->b≠tl->G3 b=some o->Gb b=some o:=fun b o n1 n2 n3 hb=>Tu _ _ (kG b o n1 n2 n3 hb)
    have Nb:=NG.mono Tu
    have Tb:=TG.mono Tu
    have RA:=Tu _ _ JZ
    have JV:=V' _ _ LB.1 LB.2.1 LB.2.2 hle
    have SS:∀ p:Nat,p<m->∃ x,NT[p]?=some x/\GZ ((NT.take m).map V.str) (p:Int)=some (.str x)/\∃ l:Nat,GZ (V0.map V.int) (p:Int)=some (.int (l:Int))/\EF[l]?=some x/\lv x=(l:Int)/\x∈S.names:=fun p hp=>by
     obtain⟨x,hx,_,ax⟩:=t4 hp m7
     obtain⟨x',DT,l,a1,a2,a3,_⟩:=t5 p (by omega)
     rw[hx]at DT
     obtain rfl:=Option.some.inj DT
     exact⟨x,hx,ax,l,cz (by rw[ye,a1];rfl),a2,a3,by rw[SY];exact MX p x hp hx⟩
    refine⟨fun σ G'=>(∃ p q:Nat,p<m/\q<m/\(∀ x y,NT[p]?=some x->NT[q]?=some y->lv x<=lv y)/\σ=[some (.int fi),some (.ref a),some (.ref Ln),some (.ref n),some (.ref D),o5,some (.ref tl),some (.ref le),some (.int cell),some (.int (p:Int)),some (.int (q:Int))])/\G'=Gb,?_,?_⟩
    case refine_2=>
     obtain⟨xu,XO,_,lu,au,_,wu,_⟩:=SS u hu
     obtain⟨xv,XN,_,lv',av,_,wv,_⟩:=SS v hv
     refine⟨_,rfl,_,rfl,le,_,_,_,rfl,rfl,B'.of JV,au,_,rfl,_,rfl,le,_,_,_,rfl,rfl,B'.of JV,av,_,_,rfl,rfl,_,rfl,bH (fun g=>?_) (fun g=>?_)⟩
     ·have g:=yA g
      exact⟨_,rfl,_,rfl,_,_,rfl,⟨v,u,hv,hu,fun x y hx hy=>by rw[XN]at hx;rw[XO]at hy;cases hx;cases hy;rw[wu,wv];omega,rfl⟩,rfl⟩
     ·have g:¬ (lv':Int)<(lu:Int):=fun z=>g (yo z)
      exact⟨⟨u,v,hu,hv,fun x y hx hy=>by rw[XO]at hx;rw[XN]at hy;cases hx;cases hy;rw[wu,wv];omega,rfl⟩,rfl⟩
    rintro σ G' ⟨⟨p,q',hp,hq,VN,rfl⟩,rfl⟩
    refine⟨_,fun σ' G' h=>h,?_⟩
    refine⟨_,rfl,_,rfl,rfl,_,rfl,bH (fun g=>?_) (fun g=>?_)⟩
    case refine_2=>exact⟨⟨_,_,_,_,rfl⟩,V',S,R,Nb,XG,Tb,by omega,s0,by omega,r0,SY⟩
    have ne:p≠q':=fun z=>by
     rw[z]at g
     exact absurd g (by simp)
    obtain⟨xa,XR,Zb,la,ala,oa,wa,ma⟩:=SS p hp
    obtain⟨ya,XJ,Za,ly,aly,oy,wy,my⟩:=SS q' hq
    have BU:la<ly:=by
     have:=VN xa ya XR XJ
     rw[wa,wy]at this
     have:la≠ly:=fun z=>by
      rw[z,oy]at oa
      obtain rfl:=Option.some.inj oa
      exact ne (bN Lz XR XJ)
     omega
    obtain⟨dx8,hN8⟩:=id Nb.ins
    obtain⟨Zv,QO,hp8⟩:=id Tb
    have isd:io 1=true:=by decide
    obtain⟨k1,k2,Zw,U6⟩:=XG.free BU oa oy
    have rl:=XG.ln.Mo
    have sL:=B'.of (K:=K) RA
    refine⟨_,rfl,.inl ⟨rfl,_,B'.of QO⟩,_,rfl,n,dx8,_,rfl,hN8,rfl,_,rfl,_,rfl,Ln,_,_,_,rfl,rfl,sL,Zb,_,rfl,_,rfl,Ln,_,_,_,rfl,rfl,sL,Za,?_⟩
    refine⟨n,dp,dt,S,xa,ya,1,rfl,Nb,ma,my,by omega,U6,k1,k2,isd,by omega,fun H9 b9 N9=>?_⟩
    have T9:Dd H9 tl R:=Dd.but Nb b9 ⟨Zv,QO,hp8⟩
    have Xd:=B'.of (K:=K) (b9 _ _ Qp.1 Qp.2.1 RA)
    have ZH:=B'.of (K:=K) (b9 _ _ LB.1 LB.2.1 JV)
    refine⟨_,rfl,_,rfl,Ln,_,_,_,rfl,rfl,Xd,Zb,_,rfl,_,rfl,Ln,_,_,_,rfl,rfl,Xd,Za,_,rfl,_,rfl,le,_,_,_,rfl,rfl,ZH,ala,(by show 4<=sizeLine;decide),fun T' JA Jx Tp hT=>?_⟩
    obtain⟨Pm,JP,QY⟩:=T9.mono Jx
    have Iu:Pm.length=R.length:=Paired.length QY
    refine⟨tl,Pm,_,rfl,rfl,JP,(by rw[Iu];have:sizeLine=2 ^ 24:=rfl;omega),⟨_,_,_,_,rfl⟩,fun b o n1 n2 n3 hb=>?_,_,R++[(S.next,xa,ya)],(N9.mono Jx).U4 JP,XG.step (by omega) BU oa oy ma my,Dd.snoc JP QY (by show JA T'=some (.tup [.int S.next,.str xa,.str ya,.int (lv xa)]);rw[wa];exact hT),by rw[yI,zL];omega,?_,?_,?_,SY⟩
    ·rw[ae n3]
     exact Jx _ _ (b9 _ _ n1 n2 (V' b o n1 n2 n3 hb))
    ·show 0<=S.next+1
     omega
    ·show S.next+1<=((i+1:Nat):Int)
     omega
    ·intro r CI
     rcases yF.mp CI with z|z
     ·exact r0 r z
     ·rw[yK.mp z];exact s0
   ·rintro σ G ⟨⟨o5,o8,o9,HW,rfl⟩,kG,S,R,NG,XG,TG,hR,s0,s1,r0,SY⟩
    rw[y6]at hR s1
    have RD:∀ {b:Addr}{o:HO},H b=some o->b≠n/\b≠dp/\b≠dt:=fun hb=>⟨ah (Kc _ _ hb) hn,ah (Kc _ _ hb) p1,ah (Kc _ _ hb) p2⟩
    have Sy:Sb Pt H G:=fun b o nb hb=>by
     have h4:=kS b o nb hb
     obtain⟨n1,n2,n3⟩:=RD hb
     exact kG b o n1 n3 (Ss b o n1 n2 n3 h4) (k3 b o n1 n2 n3 h4)
    refine⟨_,rfl,_,rfl,(by show 2<=sizeLine;decide),fun t G2 GO Gx ht=>q t n tl dp dt G2 S R (Sy.trans (f'.sb GO)) ?_ ht (NG.mono GO) (TG.mono GO) XG (by omega) fun r CI=>⟨r0 r CI,?_⟩⟩
    ·cases hq:H t with
     | none=>rfl
     | some o=>
      by_cases z:t=Pt
      ·obtain⟨ps4,KW⟩:=KW
       have n1:=aY KW Yj (fun z=>nomatch z)
       have n2:=aY KW Yc (fun z=>nomatch z)
       have n3:=aY KW XZ (fun z=>nomatch z)
       rw[z,kG _ _ n1 n3 (Ss _ _ n1 n2 n3 KW) (k3 _ _ n1 n2 n3 KW)]at Gx
       cases Gx
      ·rw[Sy t o z hq]at Gx;cases Gx
    ·have:=XG.OI r CI
     omega
noncomputable def cb (hv:V)(R:List LT)(many:Nat)(x:Str):Nat:=if V.str x=hv then many else (aZ R x).length
noncomputable def cQ (hv:V)(p:Int)(many:Nat)(R0:List LT)(y:aA)(r:LT):Prop:=y.1=r.1/\Fn p y.2.2/\y.2.2.length=cb hv R0 many r.2.1
theorem iQ {rows:List aA}{n:Int} (h:¬ n∈rows.map (·.1)):aT rows n=none:=ze.mpr fun x hx z=>h (yA z▸yO hx)
theorem BO.put {H:Hp}{d a:Addr}{rows:List aA}{n:Int}{ns:List Int} (h:BO H d rows) (hn:¬ n∈rows.map (·.1)) (ha:H a=some (.lst (ns.map V.int))):BO (upd H d (.dK (cM (aI rows) (Sum.inl n) (.ref a)))) d (rows++[(n,a,ns)]) where
 dict:=by
  rw[a9,dj _ (by rw[bR,iQ hn];rfl)]
  unfold aI
  rw[yN]
  rfl
 row:=fun r hr=>by
  have k:∀ {b:Addr}{xs:List V},H b=some (.lst xs)->upd H d (.dK (cM (aI rows) (Sum.inl n) (.ref a))) b=some (.lst xs):=fun {b xs} hb=>by
   rw[ae (fun z=>by rw[z,h.dict]at hb;cases hb)];exact hb
  rcases yF.mp hr with z|z
  ·exact k (h.row r z)
  ·rw[yK.mp z];exact k ha
theorem BO.add {H:Hp}{d a:Addr}{rows:List aA}{n:Int}{ns:List Int}{o:HO}{ER:List Int} (h:BO H d (rows++[(n,a,ns)])) (ne:∀ r∈rows,r.2.1≠a) (ho:o=.lst (ER.map V.int)):BO (upd H a o) d (rows++[(n,a,ER)]) where
 dict:=by
  have h1:=h.dict
  have h2:=h.row (n,a,ns) (yv _ yw)
  rw[ae (aY h1 h2 (fun z=>nomatch z)),h1]
  unfold aI
  rw[yN,yN]
  rfl
 row:=fun r hr=>by
  rcases yF.mp hr with z|z
  ·rw[ae (ne r z)];exact h.row r (yY _ z)
  ·rw[yK.mp z]
   show upd H a o a=_
   rw[a9,ho]
noncomputable def p6 (c:Cl):Sp:=fun vs H Q _=>∃ (n dp dt tl:Addr)(S:NS)(many:Nat)(p sc:Int)(R:List LT),vs=[.ref n,.ref tl,.int (many:Int),.int p,.int sc]/\BS c H n dp dt S/\Dd H tl R/\R.length<=12/\(R.map (·.1)).Nodup/\1<p/\many<=4/\
 ∀ d H' rows,f' H H'->H d=none->BO H' d rows->Paired (cQ (aM S.Cb) p many R) rows R->Q (.ref d) H'
noncomputable abbrev nQ:Stmt:=top 66
theorem Hm:ai ["_law_net_here","_law_ties","_law_many","_law_prime","_law_second","_law_plan_here","_law_at","_law_number","_law_one","_law_other","_law_level","_law_size","_law_k","_law_drawn"] ["_law_net_here","_law_ties","_law_many","_law_prime","_law_second"] (af nQ):=CG
theorem vK {c:Cl}{f:Addr}{fd:FuncData} (F:Cu K "_law_plan" "_law_plan" nQ f fd) (T:wG mg) (CY:Df P w K mg base 1 "_law_mix" ["_law_cell","_law_k"] jN) (Cg:Dm P w K mg base 2 c.CS "home" ["self"] (i4 c)):BF P w K mg base Co 3 f fd ["_law_net_here","_law_ties","_law_many","_law_prime","_law_second"] (p6 c):=by
 refine F.k Hm fun BJ A outer s H vs Q E hr h=>?_
 ·obtain⟨n,dp,dt,tl,S,many,p,sc,R,rfl,N,⟨ts,HY,hp⟩,hz,Hs,Fh,hm,q⟩:=h
  have ND:=Hm.nd
  have hl:=Paired.length hp
  refine⟨_,(aa (pS 5 ND ee)
 (aa (pS 6 ND ag)
 (aa (bi yS rfl (bQ K (pv 1)) (dl K (n:=4) rfl (aj (pN 7 ND) (aj (pN 8 ND) (aj (pN 9 ND) (aj (pN 10 ND) aX)))))
  (aa (pS 11 ND (pv 2))
 (aa (dk (pT ic (bo (pv 0) Cg hr.m) (pv 8))
  (ad (pS 11 ND (aw (dJ K) rfl T.Ci boot_len (a0 (aV rfl (cS 1 [8] ["_law_row","_law_one"]) (bQ K (pv 1))
  (fun _ _ _ _ _=>(pC 0))
  (fun _ _ _ _ _=>(cJ (pT bP (pI (cO K) (pv 0) ag) (pv 1))))
  (fun _ _ _ _ _=>(pv 0))) ab))))
  ay)
 (aa (dw (bc hr) (pv 5) (pv 7) (bE ab) rfl)
 (ad (bi yS rfl (cf rfl T.CA (a0 (pv 11) ab)) (pN 12 ND)
  (aa (pS 13 ND (ak CY hr.m rfl (a0 (aB cZ (pv 4) ag) (a0 (pv 6) ab))))
 (aa (pS 6 ND (aB cH (pv 6) ag))
 (ad (dk (pT bP (aB bg (pv 4) ag) ag)
  (ad (b8 (Oe K zt zO zN cg (pD (bc hr) (pv 5) (pv 7)) (a0 (pI (d0 K) (bE (a0 ag (a0 ag (a0 ag (a0 (aB bg (aB cZ (pv 13) ag) (pv 3)) ab))))) (aB bg (pv 13) ag)) ab))))
  (ad (b8 (Oe K zt zO zN cg (pD (bc hr) (pv 5) (pv 7)) (a0 (aB bg (pv 13) (pv 3)) ab))))))))))))))
 (ad (am (pv 5)))))),?_⟩
  intro d hd
  have Vo:(upd H d (.dK [])) tl=some (.lst ts):=by rw[ae (ah HY hd)];exact HY
  obtain⟨M0,hn⟩:=id N.ins
  have wz:∀ x,cb (aM S.Cb) R many x<=12:=fun x=>by
   unfold cb
   split
   ·omega
   ·unfold aZ
    rw[y6]
    exact yV (zj _ _) hz
  have O2:∀ x:Str,(((List.range ts.length).filter fun i=>decide ((R.getD i (0,"","")).2.2=x)).map fun i=>ts.getD i V.non).length=(aZ R x).length:=fun x=>by
   rw[y6,hl]
   have:=eC (d:=((0,"",""):LT)) (fun r=>decide (r.2.2=x)) (fun r=>r.1) R
   unfold aZ
   rw[<- this,y6]
  refine⟨_,rfl,tl,rfl,⟨_,B'.of Vo⟩,bC (K:=K) (xs:=ts) (fun i σ G=>(∃ (at':Nat)(o7 o8 o9 HW MQ GS Fq:Option V),at'<=12 * i/\σ=[some (.ref n),some (.ref tl),some (.int many),some (.int p),some (.int sc),some (.ref d),some (.int (at':Int)),o7,o8,o9,HW,MQ,GS,Fq])/\f' H G/\∃ rows,BO G d rows/\Paired (cQ (aM S.Cb) p many R) rows (R.take i)/\∀ r∈rows,H r.2.1=none)
   ⟨⟨0,none,none,none,none,none,none,none,yh _,rfl⟩,aq (f'.refl _) hd,[],⟨a9,fun r h=>(yB h).elim⟩,by rw[zU];exact .nil,fun r h=>(yB h).elim⟩ (fun i σ G _ h=>B'.of (h.2.1 _ _ HY)) ?_ ?_⟩
  case refine_2=>
   rintro σ G ⟨⟨at',o7,o8,o9,HW,MQ,GS,Fq,_,rfl⟩,eG,rows,PG,hk,_⟩
   rw[hl,zh]at hk
   exact⟨_,rfl,q d G rows eG hd PG hk⟩
  rintro i v σ G ev ⟨⟨at',o7,o8,o9,HW,MQ,GS,Fq,OZ,rfl⟩,eG,rows,PG,hk,HQ⟩
  obtain⟨r,er,b,rfl,hb⟩:=Paired.at hp ev
  have i12:i<12:=by have:=(yb.mp er).1;omega
  have kn:r.1∉rows.map (·.1):=fun hm=>by
   obtain⟨y,hy,ey⟩:=yD.mp hm
   obtain⟨j,hj,ej⟩:=zp hy
   obtain⟨r',GX,h',_⟩:=Paired.at hk (y8 hj)
   have jl:=Paired.length hk
   rw[yM]at jl
   rw[List.getElem?_take]at GX
   have Wv:R[j]?=some r':=by
    by_cases c:j<i
    ·rw[if_pos c]at GX;exact GX
    ·rw[if_neg c]at GX;cases GX
   have:=bN Hs (i:=j) (j:=i) (x:=r.1) (by rw[ye,Wv];show some r'.1=_;rw[<- h',ej,ey]) (by rw[ye,er];rfl)
   omega
  have jl:=Paired.length hk
  rw[yM]at jl
  refine⟨b,_,rfl,CT.of (eG _ _ hb),rfl,_,_,rfl,_,_,rfl,_,_,rfl,_,_,rfl,rfl,?_⟩
  refine⟨_,rfl,?_⟩
  refine⟨fun σ' G'=>(∃ GS Fq,σ'=[some (.ref n),some (.ref tl),some (.int many),some (.int p),some (.int sc),some (.ref d),some (.int (at':Int)),some (.int r.1),some (.str r.2.1),some (.str r.2.2),some (.int (lv r.2.1)),some (.int (cb (aM S.Cb) R many r.2.1:Nat)),GS,Fq])/\f' G G',?_,?_⟩
  case refine_2=>
   refine⟨_,rfl,n,M0,_,rfl,eG _ _ hn,rfl,n,dp,dt,S,rfl,N.mono eG,_,rfl,?_,_,rfl,bH (fun g=>?_) (fun g=>?_)⟩
   ·cases S.Cb <;> rfl
   ·have g:¬ aM S.Cb=V.str r.2.1:=fun z=>by rw[yo z]at g;exact absurd g (by decide)
    refine⟨_,rfl,tl,rfl,⟨_,B'.of (eG _ _ HY)⟩,eZ (keep:=fun i=>decide ((R.getD i (0,"","")).2.2=r.2.1)) (g:=fun i=>ts.getD i V.non) (eG _ _ HY) (by omega) (fun j v G2 ej e2=>?_) (fun l G2 h2 e2 DP=>?_)⟩
    ·obtain⟨r',GX,b',rfl,DC⟩:=Paired.at hp ej
     have gd:R.getD j (0,"","")=r':=by rw[yc,GX];rfl
     have gt:ts.getD j V.non=.ref b':=by rw[yc,ej];rfl
     rw[gd,gt]
     refine⟨_,rfl,b',_,2,.str r'.2.2,rfl,rfl,CT.of (e2 _ _ (eG _ _ DC)),rfl,_,rfl,rfl,_,rfl,?_⟩
     by_cases c:r'.2.2=r.2.1
     ·rw[yo (show V.str r'.2.2=V.str r.2.1 by rw[c]),yo c]
      exact cw ⟨_,rfl,rfl,rfl,f'.refl _⟩
     ·rw[yq (show ¬ V.str r'.2.2=V.str r.2.1 from fun z=>c (by injection z)),yq c]
      exact ba ⟨rfl,f'.refl _⟩
    ·refine⟨l,_,rfl,.inl (B'.of DP),?_⟩
     rw[O2]
     have:(aZ R r.2.1).length=cb (aM S.Cb) R many r.2.1:=by
      unfold cb
      rw[if_neg (fun z=>g z.symm)]
     rw[this]
     exact⟨⟨_,_,rfl⟩,e2⟩
   ·have g:aM S.Cb=V.str r.2.1:=by
     by_cases c:aM S.Cb=V.str r.2.1
     ·exact c
     ·exact absurd (show (!decide (aM S.Cb=V.str r.2.1))=true by rw[yq c];rfl) g
    have:(many:Int)=((cb (aM S.Cb) R many r.2.1:Nat):Int):=by
     unfold cb
     rw[if_pos g.symm]
    rw[this]
    exact⟨⟨_,_,rfl⟩,f'.refl _⟩
  rintro σ' G1 ⟨⟨GS,Fq,rfl⟩,e1⟩
  have Kc:=eG.trans e1
  refine⟨(by show 0<=sizeLine;decide),fun l G2 e2 h2 EK=>⟨_,rfl,_,rfl,d,_,rfl,F7.k (k:=Sum.inl r.1) (e2 _ _ (e1 _ _ PG.dict)) (by unfold aI;rw[y6];show rows.length<2 ^ 24;omega),?_⟩⟩
  have P2:=((PG.mono e1).mono e2).put kn (show G2 l=some (.lst (([]:List Int).map V.int)) from EK)
  have Hl:H l=none:=Kc.free h2
  have ne:∀ y∈rows,y.2.1≠l:=fun y hy=>ah (e1 _ _ (PG.row y hy)) h2
  have e3:f' H (upd G2 d (.dK (cM (aI rows) (Sum.inl r.1) (.ref l)))):=ar (Kc.trans e2) hd
  generalize upd G2 d (.dK (cM (aI rows) (Sum.inl r.1) (.ref l)))=G3 at P2 e3
  have w12:=wz r.2.1
  refine⟨_,rfl,_,rfl,by omega,by omega,eA (lo:=0) (n:=((cb (aM S.Cb) R many r.2.1:Nat):Int).toNat) (fun j σ G=>(∃ GS Fq,σ=[some (.ref n),some (.ref tl),some (.int many),some (.int p),some (.int sc),some (.ref d),some (.int ((at'+j:Nat):Int)),some (.int r.1),some (.str r.2.1),some (.str r.2.2),some (.int (lv r.2.1)),some (.int (cb (aM S.Cb) R many r.2.1:Nat)),GS,Fq])/\f' H G/\∃ ns:List Int,ns.length=j/\Fn p ns/\BO G d (rows++[(r.1,l,ns)]))
   ⟨⟨_,_,rfl⟩,e3,[],rfl,fun a h=>(yB h).elim,P2⟩ ?_ ?_⟩
  case refine_2=>
   rintro σ G ⟨⟨GS,Fq,rfl⟩,Jv,ns,IT,fns,PN⟩
   rw[yZ]at IT ⊢
   refine⟨⟨_,_,_,_,_,_,_,_,by omega,rfl⟩,Jv,_,PN,?_,fun y hy=>?_⟩
   ·rw[z6,er]
    exact Paired.El hk ⟨rfl,fns,IT⟩
   ·rcases yF.mp hy with z|z
    ·exact HQ y z
    ·rw[yK.mp z];exact Hl
  rintro j σ G4 hj ⟨⟨GS,Fq,rfl⟩,e4,ns,IT,fns,P4⟩
  rw[yZ]at hj
  refine⟨_,rfl,_,_,rfl,rfl,⟨by decide,by decide⟩,_,rfl,sc / 2,((at'+j:Nat):Int),rfl,by omega,by omega,fun G5 e5=>?_⟩
  have P5:=P4.mono e5
  have Jy:=e4.trans e5
  refine⟨_,rfl,_,_,rfl,rfl,?_⟩
  refine⟨_,fun σ' G' h=>h,?_⟩
  have hv:bd (aI (rows++[(r.1,l,ns)])) (Sum.inl r.1)=some (.ref l):=by
   rw[bR]
   have:aT (rows++[(r.1,l,ns)]) r.1=some (r.1,l,ns):=by
    unfold aT
    rw[Bb]
    have KO:=iQ kn
    unfold aT at KO
    rw[KO]
    simp
   rw[this]
   rfl
  have get:∀ {G':Hp},f' G5 G'->CQ G' d (.int r.1) (some (.ref l)):=fun e=>hv▸CQ.k (k:=Sum.inl r.1) (e _ _ P5.dict)
  have lst:G5 l=some (.lst (ns.map V.int)):=P5.row (r.1,l,ns) (yv _ yw)
  have fin:∀ (G6:Hp)(z:Int),f' G5 G6->0<=z/\z<p->f' H (upd G6 l (.lst (ns.map V.int++[.int z])))/\∃ ER:List Int,ER.length=j+1/\Fn p ER/\BO (upd G6 l (.lst (ns.map V.int++[.int z]))) d (rows++[(r.1,l,ER)]):=fun G6 z e6 Vg=>by
   refine⟨ar (Jy.trans e6) Hl,ns++[z],by rw[yI,IT];rfl,fun a ha=>?_,(P5.mono e6).add ne (by rw[yN];rfl)⟩
   rcases yF.mp ha with h|h
   ·exact fns a h
   ·rw[yK.mp h];exact Vg
  have e7:((at'+(j+1):Nat):Int)=((at'+j:Nat):Int)+1:=by omega
  have lz:(ns.map V.int).length<sizeLine:=by
   rw[y6,IT]
   have:sizeLine=2 ^ 24:=rfl
   omega
  refine⟨_,rfl,_,_,rfl,rfl,(by show (0:Int)<2;decide),rfl,_,rfl,bH (fun g=>?_) (fun g=>?_)⟩
  ·generalize hdr:dv (sc / 2) ((at'+j:Nat):Int)=dr
   refine⟨_,rfl,_,rfl,d,_,rfl,get (f'.refl _),.inl ⟨rfl,_,B'.of lst⟩,_,rfl,_,_,rfl,rfl,⟨by decide,by decide⟩,_,rfl,_,_,rfl,rfl,(by show (0:Int)<p;omega),(by show 4<=sizeLine;decide),fun l4 G6 e6 h6 VO=>?_⟩
   obtain⟨z,IP,EW⟩:∃ z:Int,GZ [V.int 0,V.int 1,V.int 1,V.int (dr / 4 % p)] (dr % 4)=some (.int z)/\0<=z/\z<p:=by
    have b1:=zo dr (show (4:Int)≠0 by decide)
    have b2:=zb dr (show (0:Int)<4 by decide)
    have c1:=zo (dr / 4) (show p≠0 by omega)
    have c2:=zb (dr / 4) (show (0:Int)<p by omega)
    rcases (show dr % 4=0\/dr % 4=1\/dr % 4=2\/dr % 4=3 by omega) with h|h|h|h <;> rw[h]
    ·exact⟨0,rfl,by omega,by omega⟩
    ·exact⟨1,rfl,by omega,by omega⟩
    ·exact⟨1,rfl,by omega,by omega⟩
    ·exact⟨_,rfl,c1,c2⟩
   exact⟨_,rfl,_,_,rfl,rfl,(by show (0:Int)<4;decide),l4,_,_,_,rfl,rfl,B'.of VO,IP,l,_,_,rfl,rfl,e6 _ _ lst,lz,⟨some (.int (0+(j:Int))),some (.int dr),by rw[e7];rfl⟩,fin G6 z e6 EW⟩
  ·generalize hdr:dv (sc / 2) ((at'+j:Nat):Int)=dr
   exact⟨_,rfl,_,rfl,d,_,rfl,get (f'.refl _),.inl ⟨rfl,_,B'.of lst⟩,_,rfl,_,rfl,_,_,rfl,rfl,(by show (0:Int)<p;omega),l,_,_,rfl,rfl,lst,lz,⟨some (.int (0+(j:Int))),some (.int dr),by rw[e7];rfl⟩,fin G5 _ (f'.refl _) ⟨zo dr (show p≠0 by omega),zb dr (by omega)⟩⟩
noncomputable def nW (hv:V)(p:Int)(many:Nat)(rows:List aA)(fo:Option (List Int))(R:List LT)(L:Int->List Int)(r:LT):List Int:=if gj fo r.1 then List.replicate many 0 else if V.str r.2.1=hv then bx rows r.1 else Hu p many L (List.replicate many 0) (bx rows r.1) (aZ R r.2.1)
theorem mU {p:Int}{many:Nat}{L L':Int->List Int}:∀ {acc ms ts:List Int},(∀ t∈ts,L t=L' t)->Hu p many L acc ms ts=Hu p many L' acc ms ts
 | acc,[],ts,_=>by cases ts <;> rfl
 | acc,_::_,[],_=>rfl
 | acc,m::ms,t::ts,h=>by
  show Hu p many L (cP p many acc m (L t)) ms ts=Hu p many L' (cP p many acc m (L' t)) ms ts
  rw[h t (by simp),mU fun u hu=>h u (by simp[hu])]
theorem t9 {p:Int}{many:Nat}{L:Int->List Int} (hp:0<p):∀ {acc ms ts:List Int},Fn p acc->Fn p (Hu p many L acc ms ts)
 | acc,[],ts,h=>by
  have:Hu p many L acc [] ts=acc:=by cases ts <;> rfl
  rw[this];exact h
 | acc,_::_,[],h=>h
 | acc,m::ms,t::ts,_=>t9 (L:=L) hp (acc:=cP p many acc m (L t)) (ms:=ms) (ts:=ts) fun z hz=>by
  unfold cP at hz
  obtain⟨k,_,rfl⟩:=yD.mp hz
  exact⟨zo _ (by omega),zb _ hp⟩
theorem iR {rs:List aA}(x:aA){k:Int}(h:k∈rs.map (·.1)):bx (rs++[x]) k=bx rs k:=by
 unfold bx aT
 rw[Bb]
 cases hf:rs.find? (fun r=>decide (r.1=k)) with
 | some y=>rfl
 | none=>
  obtain⟨y,hy,e⟩:=yD.mp h
  exact absurd (yo e) (ze.mp hf y hy)
theorem uh {rs:List aA}{k:Int}{a:Addr}{ns:List Int} (h:¬ k∈rs.map (·.1)):bx (rs++[(k,a,ns)]) k=ns:=by
 have hn:=iQ h
 unfold bx
 unfold aT at hn ⊢
 rw[Bb,hn]
 show ((List.find? (fun r:aA=>decide (r.1=k)) [(k,a,ns)]).map (·.2.2)).getD []=ns
 rw[z5,show decide ((k,a,ns).1=k)=true from yo rfl]
 rfl
theorem kI {hv:V}{p:Int}{many:Nat}{rows:List aA}{fo:Option (List Int)}{R:List LT}{L L':Int->List Int}{r:LT} (h:∀ k∈aZ R r.2.1,L k=L' k):nW hv p many rows fo R L r=nW hv p many rows fo R L' r:=by
 unfold nW
 rw[mU h]
structure RI (hv : V) (p : Int) (many : Nat) (rows : List aA) (fo : Option (List Int)) (R Rs : List LT) (rs : List aA) : Prop where
  keys : rs.map (·.1) = Rs.map (·.1)
  cl : ∀ r ∈ Rs, ∀ k ∈ aZ R r.2.1, k ∈ rs.map (·.1)
  eq : ∀ r ∈ Rs, bx rs r.1 = nW hv p many rows fo R (bx rs) r
  len : ∀ y ∈ rs, y.2.2.length = many
  fit : ∀ y ∈ rs, Fn p y.2.2
section
variable {hv : V}{p : Int}{many : Nat}{rows : List aA}{fo : Option (List Int)}{R Rs : List LT}{rs : List aA}
theorem RI.start:RI hv p many rows fo R [] []:=⟨rfl,fun r h=>(yB h).elim,fun r h=>(yB h).elim,fun r h=>(yB h).elim,fun r h=>(yB h).elim⟩
theorem RI.add (h:RI hv p many rows fo R Rs rs){r:LT}{a:Addr}{ns:List Int} (hn:¬ r.1∈rs.map (·.1)) (hi:∀ k∈aZ R r.2.1,k∈rs.map (·.1)) (e:ns=nW hv p many rows fo R (bx rs) r) (hl:ns.length=many) (hf:Fn p ns):RI hv p many rows fo R (Rs++[r]) (rs++[(r.1,a,ns)]) where
 keys:=by rw[yN,yN,h.keys];rfl
 cl:=fun r' hr k hk=>by
  rw[yN]
  refine yY _ ?_
  rcases yF.mp hr with z|z
  ·exact h.cl r' z k hk
  ·rw[yK.mp z]at hk;exact hi k hk
 eq:=fun r' hr=>by
  rcases yF.mp hr with z|z
  ·have hk:r'.1∈rs.map (·.1):=by rw[h.keys];exact yO z
   rw[iR _ hk,h.eq r' z]
   exact kI fun k IU=>(iR _ (h.cl r' z k IU)).symm
  ·rw[yK.mp z,uh hn,e]
   exact kI fun k IU=>(iR _ (hi k IU)).symm
 len:=fun y hy=>by
  rcases yF.mp hy with z|z
  ·exact h.len y z
  ·rw[yK.mp z];exact hl
 fit:=fun y hy=>by
  rcases yF.mp hy with z|z
  ·exact h.fit y z
  ·rw[yK.mp z];exact hf
theorem RI.V4 (h:RI hv p many rows fo R Rs rs)(pm:Rs.Perm R)(nd:(R.map (·.1)).Nodup):Di hv p many rows fo R (bx rs):=by
 have knd:(rs.map (·.1)).Nodup:=by rw[h.keys];exact (pm.map _).nodup_iff.mpr nd
 have at':∀ r∈R,∃ y∈rs,bx rs r.1=y.2.2:=fun r hr=>by
  have:r.1∈rs.map (·.1):=by rw[h.keys];exact yO (pm.mem_iff.mpr hr)
  obtain⟨y,hy,e⟩:=yD.mp this
  exact⟨y,hy,by unfold bx;rw[<- e,bL knd y hy];rfl⟩
 refine⟨fun r hr=>h.eq r (pm.mem_iff.mpr hr),fun r hr=>?_,fun r hr=>?_⟩
 ·obtain⟨y,hy,e⟩:=at' r hr
  rw[e];exact h.len y hy
 ·obtain⟨y,hy,e⟩:=at' r hr
  rw[e];exact h.fit y hy
end
theorem sw {S:NS}{R R':List LT} (O:LN S EF R) (pm:R'.Perm R) (so:R'.Pairwise fun a b=>lv a.2.1<=lv b.2.1) {i:Nat}{r:LT} (hr:R'[i]?=some r):∀ k∈aZ R r.2.1,k∈(R'.take i).map (·.1):=fun k hk=>by
 unfold aZ at hk
 obtain⟨r',CI,rfl⟩:=yD.mp hk
 obtain⟨CI,DT⟩:=zd.mp CI
 have DT:r'.2.2=r.2.1:=yA DT
 obtain⟨u,v,uv,hu,hv⟩:=O.ok r' CI
 have ix:∀ (i:Nat) z,EF[i]?=some z->lv z=(i:Int):=fun i z hz=>by
  have hm:=yj hz
  have hl:=List.idxOf_lt_length_of_mem hm
  have:=bN O.nd (i:=EF.idxOf z) (j:=i) (x:=z) (by rw[y8 hl,List.getElem_idxOf hl]) hz
  unfold lv
  rw[this]
 have l1:lv r'.2.1<lv r.2.1:=by
  rw[ix u _ hu,<- DT,ix v _ hv]
  omega
 obtain⟨j,hj,ej⟩:=zp (pm.mem_iff.mpr CI)
 have ij:j<i:=by
  obtain⟨hi,ei⟩:=yb.mp hr
  rcases Nat.lt_trichotomy j i with h|h|h
  ·exact h
  ·subst h
   rw[ej]at ei
   rw[ei]at l1
   omega
  ·have:=List.pairwise_iff_getElem.mp so i j hi hj h
   rw[ei,ej]at this
   omega
 refine yD.mpr ⟨r',zH.mpr ⟨j,by omega,ej⟩,rfl⟩
theorem i9 {H:Hp}:∀ {ts:List V}{R:List LT},Paired (EI H) ts R->Paired (fun (r:LT) (kv:Int×V)=>kv.1=lv r.2.1/\EI H kv.2 r) R ((R.map fun r=>lv r.2.1).zip ts)
 | _,_,.nil=>.nil
 | _,_,.cons a b=>.cons ⟨rfl,a⟩ (i9 b)
theorem uL {H:Hp}{R':List LT}{qs:List (Int×V)} (r:Paired (fun (r:LT) (kv:Int×V)=>kv.1=lv r.2.1/\EI H kv.2 r) R' qs):Paired (EI H) (qs.map Prod.snd) R'/\(qs.Pairwise (fun a b=>a.1<=b.1)->R'.Pairwise fun a b=>lv a.2.1<=lv b.2.1):=by
 induction r with
 | nil=>exact⟨.nil,fun _=>.nil⟩
 | cons a b ih=>
  refine⟨.cons a.2 ih.1,fun h=>?_⟩
  obtain⟨h1,h2⟩:=Ax.mp h
  refine Ax.mpr ⟨fun y hy=>?_,ih.2 h2⟩
  obtain⟨i,hi⟩:=zB.mp hy
  obtain⟨kv,e,r1,_⟩:=Paired.at b hi
  rw[<- a.1,<- r1]
  exact h1 kv (yj e)
theorem BO.Cn {H H':Hp}{d:Addr}{rows:List aA} (k:CK H H') (h:BO H d rows):BO H' d rows:=⟨k _ _ (fun _ z=>nomatch z) h.dict,fun r hr=>k _ _ (fun _ z=>nomatch z) (h.row r hr)⟩
theorem EI.Cn {H H':Hp}(k:CK H H'){v:V}{r:LT}:EI H v r->EI H' v r:=fun j'=>by obtain⟨b,a,h⟩:=j';exact⟨b,a,k _ _ (fun _ z=>nomatch z) h⟩
noncomputable def OM:Pos:=⟨412,79,412,107⟩
noncomputable def OL:Str:=("_law_rows":Str)++".<locals>."++"<lambda>"
structure RV (mg : Str -> Option Value) : Prop where
  DN : mg "zip" = none
  CA : mg "range" = none
  D9 : mg "list" = none
  E3 : mg "sorted" = none
noncomputable def kf (c:Cl)(Pt:Addr):Sp:=fun vs H Q _=>∃ (n dp dt tl d lf:Addr)(S:NS)(R:List LT)(rows:List aA)(many:Nat)(p:Int)(fs:List Int),vs=[.ref n,.ref tl,.ref d,.int (many:Int),.int p,.ref lf]/\BS c H n dp dt S/\Dd H tl R/\LN S EF R/\R.length<=12/\BO H d rows/\Paired (cQ (aM S.Cb) p many R) rows R/\1<p/\p<=1000000/\many<=4/\H lf=some (.lst (fs.map V.int))/\fs.length<=1000/\TabAt Pt OM OL H/\
 ∀ e H' rs,Sb Pt H H'->TabAt Pt OM OL H'->H e=none->BO H' e rs->(rs.map (·.1)).Perm (R.map (·.1))->Di (aM S.Cb) p many rows (some fs) R (bx rs)->Q (.ref e) H'
noncomputable abbrev nO:Stmt:=top 67
theorem Hj:ai ["_law_net_here","_law_ties","_law_plan_here","_law_many","_law_prime","_law_fallen","_law_rows_here","_law_number","_law_one","_law_other","_law_level","_law_found","_law_multiplier","_law_tie"] ["_law_net_here","_law_ties","_law_plan_here","_law_many","_law_prime","_law_fallen"] (af nO):=CG
theorem vJ {c:Cl}{f Pt:Addr}{fd:FuncData} (F:Cu K "_law_rows" "_law_rows" nO f fd) (L:xW mg base fd Pt) (T:RV mg) (Cg:Dm P w K mg base 2 c.CS "home" ["self"] (i4 c)):BF P w K mg base Co 5 f fd ["_law_net_here","_law_ties","_law_plan_here","_law_many","_law_prime","_law_fallen"] (kf c Pt):=by
 refine F.Xl L Hj (fun vs H Q E h=>?_) (fun BJ A outer s H vs Q E NX hr h=>?_)
 ·obtain⟨n,dp,dt,tl,d,lf,S,R,rows,many,p,fs,rfl,_⟩:=h
  rfl
 ·obtain⟨n,dp,dt,tl,d,lf,S,R,rows,many,p,fs,rfl,N,⟨ts,HY,hp⟩,O,hz,pl,pr,Fh,Gr,hm,LL,LO,tab,q⟩:=h
  have ND:=Hj.nd
  have hl:=Paired.length hp
  refine⟨_,(aa (pS 6 ND ee)
 (aa (bi yS rfl (bQ K (kM (k:=1) (x:="_law_row") (js:=[]) (N':=["_law_row"]) hr.m rfl rfl T.E3 NX (jr rfl rfl (by kernel_rfl)) (a0 (pv 1) ab)
  (fun _ _ _ _ _ _ _ hr=>(pI (cO K) (pv 0) ag)) (fun _ _ _ _ _ _=>rfl) rfl)) (dl K (n:=4) rfl (aj (pN 7 ND) (aj (pN 8 ND) (aj (pN 9 ND) (aj (pN 10 ND) aX)))))
  (aa (pS 11 ND (aB rL (bE (a0 ag ab)) (pv 3)))
 (aa (dk (PW.pt (gK (pT (oo K) (pv 7) (pv 5) (by with_unfolding_all rfl)) (eM (pT bP (bo (pv 0) Cg hr.m) (pv 8)))))
  (ad (pS 11 ND (bz (tq K) rfl T.D9 boot_list (a0 (pD (bc hr) (pv 2) (pv 7)) ab))))
  (ad (dk (pT (oo K) (pv 7) (pv 5) (by with_unfolding_all rfl))
  (ad (bi yS rfl (pQ K rfl T.DN (a0 (pD (bc hr) (pv 2) (pv 7)) (a0 (aV rfl (cS 1 [8] ["_law_row","_law_one"]) (bQ K (pv 1))
  (fun _ _ _ _ _=>(pC 0))
  (fun _ _ _ _ _=>(cJ (pT bP (pI (cO K) (pv 0) ag) (pv 1))))
  (fun _ _ _ _ _=>(pI (cO K) (pv 0) ag))) ab))) (dl K (n:=2) rfl (aj (pN 12 ND) (aj (pN 13 ND) aX)))
  (ad (br (i:=11) ND rfl rfl rfl (cS 2 [4,12] ["_law_a","_law_b","_law_prime","_law_multiplier"]) (pQ K rfl T.DN (a0 (pv 11) (a0 (pD (bc hr) (pv 6) (pv 13)) ab)))
  (fun _ _ _ _ _=>(dl K (n:=2) rfl (aj (pC 0) (aj (pC 1) aX))))
  (fun _ _ _ _ _=>aG)
  (fun _ _ _ _ _=>(aB bg (aB cH (pv 0) (aB dG (pv 3) (pv 1))) (pv 2)))))))
  ay)))
 (ad (dw (bc hr) (pv 6) (pv 7) (pv 11) rfl)))))
 (ad (am (pv 6))))),?_⟩
  intro e0 Gv
  have nl:∀ {xs:List V} (ps:Array Value),HO.lst xs≠HO.tbl ps:=fun _ z=>nomatch z
  have LZ:f' H (upd H e0 (.dK [])):=aq (f'.refl _) Gv
  have YL:(upd H e0 (.dK [])) e0=some (.dK []):=a9
  generalize upd H e0 (.dK [])=H0 at LZ YL
  refine⟨_,rfl,.ref tl,ts,R.map (fun r=>lv r.2.1),CK H,rfl,.inl ⟨tl,rfl,B'.of (LZ _ _ HY)⟩,by omega,by rw[y6];exact hl.symm,tab.same LZ,fun G sb _=>(f'.t LZ).trans (Sx sb (tab.same LZ)),fun i x k hx hk G jG=>?_,fun G D qs jG sb tb hD pm so=>?_⟩
  ·obtain⟨r,er,b,rfl,hb⟩:=Paired.at hp hx
   obtain⟨r',GX,rfl⟩:=j8 hk
   rw[er]at GX
   obtain rfl:=Option.some.inj GX
   exact⟨_,rfl,b,_,3,_,rfl,rfl,CT.of (jG _ _ (fun _ z=>nomatch z) hb),rfl,rfl,f'.refl _,jG⟩
  obtain⟨R',JI,pq⟩:=fM pm (i9 hp)
  obtain⟨ZT,Up⟩:=uL pq
  have Up:=Up so
  have Va:CK H0 (upd G D (.lst (qs.map Prod.snd))):=fun b o no hb=>by
   have:=Sx sb (tab.same LZ) b o no hb
   rw[ae (ah this hD)]
   exact this
  have Xc:Sb Pt H (upd G D (.lst (qs.map Prod.snd))):=fun b o nb hb=>by
   have:=sb b o nb (LZ _ _ hb)
   rw[ae (ah this hD)]
   exact this
  have Pu:=tb.same (aq (o:=.lst (qs.map Prod.snd)) (f'.refl G) hD)
  have P7:(upd G D (.lst (qs.map Prod.snd))) D=some (.lst (qs.map Prod.snd)):=a9
  generalize upd G D (.lst (qs.map Prod.snd))=G0 at Va Xc Pu P7
  clear sb tb hD pm so jG
  have he:G0 e0=some (.dK []):=Va _ _ (fun _ z=>nomatch z) YL
  obtain⟨B,hB⟩:∃ B:Hp,B=fun b=>if b=e0 then none else G0 b:=⟨_,rfl⟩
  have Be:B e0=none:=by rw[hB];exact if_pos rfl
  have Bn:∀ b,b≠e0->B b=G0 b:=fun b h=>by rw[hB];exact if_neg h
  have eB:f' B G0:=fun b o h=>by rw[<- Bn b (fun z=>by rw[z,Be]at h;cases h)];exact h
  have kB:CK H B:=fun b o no h=>by rw[Bn b (ah h Gv)];exact Va b o no (LZ _ _ h)
  have ZK:Sb Pt H B:=fun b o nb h=>by rw[Bn b (ah h Gv)];exact Xc b o nb h
  have U9:TabAt Pt OM OL B:=by
   obtain⟨ps,h1,h2,h3⟩:=Pu
   refine⟨ps,by rw[Bn _ (aY h1 he (fun z=>nomatch z))];exact h1,h2,h3.imp id fun j'=>(by obtain⟨c',a,b⟩:=j';exact⟨c',a,by rw[Bn _ (aY b he (fun z=>nomatch z))];exact b⟩)⟩
  have QN:=kB _ _ nl HY
  have NB:=N.Cn kB
  have SE:=pl.Cn kB
  have Nx:=kB _ _ nl LL
  have hDB:B D=some (.lst (qs.map Prod.snd)):=by rw[Bn _ (aY P7 he (fun z=>nomatch z))];exact P7
  have hpB:Paired (EI B) ts R:=Paired.Cp hp fun _ _ z=>z.Cn kB
  have Q5:Paired (EI B) (qs.map Prod.snd) R':=Paired.Cp ZT fun _ _ z=>z.Cn kB
  obtain⟨M0,hn⟩:=id NB.ins
  have Hs:(R.map (·.1)).Nodup:=O.asc.imp fun h=>Int.ne_of_lt h
  have PX:(R'.map (·.1)).Nodup:=(JI.map _).nodup_iff.mpr Hs
  have Q6:rows.map (·.1)=R.map (·.1):=by
   clear q
   have:∀ {ys:List aA}{rr:List LT},Paired (cQ (aM S.Cb) p many R) ys rr->ys.map (·.1)=rr.map (·.1):=fun {ys rr} h=>by
    induction h with
    | nil=>rfl
    | cons a _ ih=>rw[yJ,yJ,a.1,ih]
   exact this pr
  have UC:∀ r∈R,∃ y∈rows,y.1=r.1/\aT rows r.1=some y/\Fn p y.2.2/\y.2.2.length=cb (aM S.Cb) R many r.2.1:=fun r hr=>by
   obtain⟨j,LM,ej⟩:=zp hr
   have T7:j<rows.length:=by rw[Paired.length pr];exact LM
   obtain⟨r',GX,h1,h2,h3⟩:=Paired.at pr (y8 T7)
   rw[y8 LM,ej]at GX
   obtain rfl:=Option.some.inj GX
   have ym:=zm T7
   exact⟨_,ym,h1,by rw[<- h1];exact bL (Q6▸Hs) _ ym,h2,h3⟩
  have Ph:Fn p (List.replicate many 0):=fun z hz=>by rw[(AU.mp hz).2];omega
  have V1:(qs.map Prod.snd).length=R'.length:=Paired.length Q5
  refine⟨D,rfl,⟨_,B'.of P7⟩,bC (K:=K) (xs:=qs.map Prod.snd) (fun i σ G=>(∃ o7 o8 o9 HW MQ GS Fq,σ=[some (.ref n),some (.ref tl),some (.ref d),some (.int (many:Int)),some (.int p),some (.ref lf),some (.ref e0),o7,o8,o9,HW,MQ,GS,Fq])/\f' B G/\∃ rs,BO G e0 rs/\RI (aM S.Cb) p many rows (some fs) R (R'.take i) rs)
   ⟨⟨_,_,_,_,_,_,_,rfl⟩,eB,[],⟨he,fun r h=>(yB h).elim⟩,by rw[zU];exact RI.start⟩ (fun i σ G _ h=>B'.of (h.2.1 _ _ hDB)) ?_ ?_⟩
  case refine_2=>
   rintro σ G ⟨⟨o7,o8,o9,HW,MQ,GS,Fq,rfl⟩,eG,rs,PG,IG⟩
   rw[V1,zh]at IG
   exact⟨_,rfl,q e0 G rs (ZK.trans (f'.sb eG)) (U9.same eG) Gv PG (by rw[IG.keys];exact JI.map _) (IG.V4 JI Hs)⟩
  rintro i v σ G1 ev ⟨⟨o7,o8,o9,HW,MQ,GS,Fq,rfl⟩,eG,rs,PG,IG⟩
  obtain⟨r,er,b,rfl,hb⟩:=Paired.at Q5 ev
  have rR:r∈R:=JI.mem_iff.mp (yj er)
  have il:i<R'.length:=(yb.mp er).1
  have r12:R'.length<=12:=by rw[JI.length_eq];exact hz
  have ahead:=sw O JI Up er
  rw[<- IG.keys]at ahead
  have rsl:rs.length<=12:=by
   have:=congrArg List.length IG.keys
   rw[y6,y6,yM]at this
   omega
  have small:(aI rs).length<2 ^ 24:=by unfold aI;rw[y6];omega
  have fresh:¬ r.1∈rs.map (·.1):=fun z=>by
   rw[IG.keys]at z
   obtain⟨r',CI,e'⟩:=yD.mp z
   obtain⟨j,hj,ej⟩:=zH.mp CI
   have:=bN PX (i:=j) (j:=i) (x:=r.1) (by rw[ye,y8 (by omega),ej];show some r'.1=_;rw[e']) (by rw[ye,er];rfl)
   omega
  obtain⟨y,ym,yk,yi,yf,yl⟩:=UC r rR
  have vy:=bR rows r.1
  rw[yi,Az]at vy
  have yr:bx rows r.1=y.2.2:=by unfold bx;rw[yi];rfl
  refine⟨b,_,rfl,CT.of (eG _ _ hb),rfl,_,_,rfl,_,_,rfl,_,_,rfl,_,_,rfl,rfl,?_⟩
  refine⟨(by show 1<=sizeLine;decide),fun l1 G2 e2 h2 DU=>⟨_,rfl,l1,_,_,rfl,rfl,DU,by omega,by omega,?_,fun a ha=>?_⟩⟩
  ·rw[yZ]
   show 1 * many<=2 ^ 24
   omega
  have ea:f' G1 (upd G2 a (.lst (List.replicate ((many:Nat):Int).toNat [V.int 0]).flatten)):=aq e2 ha
  have Wa:(upd G2 a (.lst (List.replicate ((many:Nat):Int).toNat [V.int 0]).flatten)) a=some (.lst ((List.replicate many (0:Int)).map V.int)):=by rw[a9,yZ,Lj]
  generalize upd G2 a (.lst (List.replicate ((many:Nat):Int).toNat [V.int 0]).flatten)=G3 at ea Wa
  have Jf:=eG.trans ea
  refine⟨fun σ' G'=>(∃ (a:Addr)(ns:List Int)(GS Fq:Option V),σ'=[some (.ref n),some (.ref tl),some (.ref d),some (.int (many:Int)),some (.int p),some (.ref lf),some (.ref e0),some (.int r.1),some (.str r.2.1),some (.str r.2.2),some (.int (lv r.2.1)),some (.ref a),GS,Fq]/\G' a=some (.lst (ns.map V.int))/\ns=nW (aM S.Cb) p many rows (some fs) R (bx rs) r/\ns.length=many/\Fn p ns)/\f' G1 G',?_,?_⟩
  ·rintro σ' G' ⟨⟨a',ns,Qd,KI,rfl,Wb,IT,EK,Ks⟩,e'⟩
   refine⟨_,rfl,_,rfl,_,rfl,e0,_,rfl,F7.k (k:=Sum.inl r.1) (e' _ _ PG.dict) small,⟨_,_,_,_,_,_,_,rfl⟩,ar (eG.trans e') Be,_,(PG.mono e').put fresh Wb,?_⟩
   rw[z6,er]
   exact IG.add fresh ahead IT EK Ks
  refine⟨_,rfl,_,rfl,lf,_,rfl,.inl (B'.of (Jf _ _ Nx)),rfl,gc fs,_,rfl,?_⟩
  rw[if_pos rfl,fU]
  cases hd:decide (r.1∈fs) with
  | true=>
   refine ba (ba ⟨_,fun σ' H' h=>h,⟨_,rfl,_,rfl,lf,_,rfl,.inl (B'.of (Jf _ _ Nx)),rfl,gc fs,_,rfl,?_⟩⟩)
   rw[if_pos rfl,fU,hd]
   refine ba ⟨⟨a,_,_,_,rfl,Wa,?_,by simp,Ph⟩,ea⟩
   unfold nW
   rw[show gj (some fs) r.1=true from hd,if_pos rfl]
  | false=>
   refine cw ⟨_,rfl,n,M0,_,rfl,Jf _ _ hn,rfl,n,dp,dt,S,rfl,NB.mono Jf,_,rfl,?_,_,rfl,?_⟩
   ·cases S.Cb <;> rfl
   by_cases c2:V.str r.2.1=aM S.Cb
   ·rw[yo c2.symm]
    refine cw ⟨_,rfl,_,rfl,d,_,rfl,vy▸CQ.k (k:=Sum.inl r.1) (Jf _ _ SE.dict),y.2.1,_,rfl,.inl (B'.of (Jf _ _ (SE.row y ym))),fun a' G4 e4 h4 Wb=>⟨⟨a',y.2.2,_,_,rfl,Wb,?_,?_,yf⟩,ea.trans e4⟩⟩
    ·unfold nW
     rw[show gj (some fs) r.1=false from hd,if_neg (fun z=>nomatch z),if_pos c2,yr]
    ·rw[yl]
     unfold cb
     rw[if_pos c2]
   ·rw[yq (fun z=>c2 z.symm)]
    refine ba ⟨_,fun σ' H' h=>h,⟨_,rfl,_,rfl,lf,_,rfl,.inl (B'.of (Jf _ _ Nx)),rfl,gc fs,_,rfl,?_⟩⟩
    rw[if_pos rfl,fU,hd]
    refine cw ⟨_,rfl,_,rfl,d,_,rfl,vy▸CQ.k (k:=Sum.inl r.1) (Jf _ _ SE.dict),_,rfl,tl,rfl,⟨_,B'.of (Jf _ _ QN)⟩,?_⟩
    have O2:((List.range ts.length).filter fun i=>decide ((R.getD i (0,"","")).2.2=r.2.1)).map (fun i=>V.int (R.getD i (0,"","")).1)=(aZ R r.2.1).map V.int:=by
     rw[hl]
     have:=eC (d:=((0,"",""):LT)) (fun r'=>decide (r'.2.2=r.2.1)) (fun r'=>V.int r'.1) R
     rw[this]
     unfold aZ
     rw[yt]
     rfl
    refine eZ (keep:=fun i=>decide ((R.getD i (0,"","")).2.2=r.2.1)) (g:=fun i=>.int (R.getD i (0,"","")).1) (Jf _ _ QN) (by omega) (fun j v G2 ej e2=>?_) (fun li G4 h4 e4 LK=>?_)
    ·obtain⟨r',GX,b',rfl,DC⟩:=Paired.at hpB ej
     have gd:R.getD j (0,"","")=r':=by rw[yc,GX];rfl
     rw[gd]
     refine⟨_,rfl,b',_,2,.str r'.2.2,rfl,rfl,CT.of (e2 _ _ (Jf _ _ DC)),rfl,_,rfl,rfl,_,rfl,?_⟩
     by_cases c:r'.2.2=r.2.1
     ·rw[yo (show V.str r'.2.2=V.str r.2.1 by rw[c]),yo c]
      exact cw ⟨_,rfl,b',_,0,_,rfl,rfl,CT.of (e2 _ _ (Jf _ _ DC)),rfl,rfl,rfl,f'.refl _⟩
     ·rw[yq (show ¬ V.str r'.2.2=V.str r.2.1 from fun z=>c (by injection z)),yq c]
      exact ba ⟨rfl,f'.refl _⟩
    rw[O2]at LK
    have Z5:=ea.trans e4
    have P4:=PG.mono Z5
    have Jt:=e4 _ _ Wa
    have LJ:G4 y.2.1=some (.lst (y.2.2.map V.int)):=e4 _ _ (Jf _ _ (SE.row y ym))
    refine⟨y.2.1,li,rfl,⟨_,B'.of LJ⟩,⟨_,B'.of LK⟩,oA (K:=K) (fun t σ G=>∃ (a:Addr)(acc:List Int),(∃ GS Fq,σ=[some (.ref n),some (.ref tl),some (.ref d),some (.int (many:Int)),some (.int p),some (.ref lf),some (.ref e0),some (.int r.1),some (.str r.2.1),some (.str r.2.2),some (.int (lv r.2.1)),some (.ref a),GS,Fq])/\f' G4 G/\G a=some (.lst (acc.map V.int))/\acc.length=many/\Hu p many (bx rs) (List.replicate many 0) y.2.2 (aZ R r.2.1)=Hu p many (bx rs) acc (y.2.2.drop t) ((aZ R r.2.1).drop t))
     ⟨a,_,⟨_,_,rfl⟩,f'.refl _,Jt,by simp,by rw[Bw,Bw]⟩ (fun t σ G _ j'=>(by obtain⟨_,_,_,e,_⟩:=j';exact⟨B'.of (e _ _ LJ),B'.of (e _ _ LK)⟩)) ?_ ?_⟩
    ·rintro t u v T' σ G5 eu O3 ⟨a5,acc,⟨Qd,KI,rfl⟩,e5,Th,al,em⟩ hT
     obtain⟨m,Jo,rfl⟩:=bJ eu
     obtain⟨k,IU,rfl⟩:=bJ O3
     obtain⟨y2,Sl,Zr⟩:=yD.mp (ahead k (yj IU))
     have Ut:(rs.map (·.1)).Nodup:=by rw[IG.keys];exact PX.sublist (List.Sublist.map _ (List.take_sublist _ _))
     have X2:aT rs k=some y2:=by rw[<- Zr];exact bL Ut y2 Sl
     have v2:=bR rs k
     rw[X2,Az]at v2
     have rk:bx rs k=y2.2.2:=by unfold bx;rw[X2];rfl
     have Zq:=IG.len y2 Sl
     have mf:=yf m (yj Jo)
     refine⟨T',_,rfl,CT.of a9,rfl,_,_,rfl,_,[],rfl,rfl,?_⟩
     have eT:f' G5 (upd G5 T' (.tup [.int m,.int k])):=aq (f'.refl _) hT
     generalize upd G5 T' (.tup [.int m,.int k])=G6 at eT
     have Z3:=e5.trans eT
     have P6:=P4.mono Z3
     refine⟨_,rfl,_,rfl,_,rfl,e0,_,rfl,v2▸CQ.k (k:=Sum.inl k) P6.dict,a5,y2.2.1,rfl,⟨_,B'.of (eT _ _ Th)⟩,⟨_,B'.of (P6.row y2 Sl)⟩,gf (g:=fun z=>(acc.getD z 0+m * (bx rs k).getD z 0) % p) (eT _ _ Th) (P6.row y2 Sl) (by rw[y6];omega) (fun z x1 x2 T2 G7 h1 h2 e7 Kv=>?_) (fun a7 G7 h7 e7 YC=>?_)⟩
     ·obtain⟨z1,IP,rfl⟩:=bJ h1
      obtain⟨z2,EW,rfl⟩:=bJ h2
      refine⟨_,rfl,_,rfl,_,rfl,_,_,rfl,rfl,.inl ⟨by omega,by omega⟩,_,_,rfl,rfl,_,rfl,_,_,rfl,rfl,(by show (0:Int)<p;omega),?_,aq (f'.refl _) Kv⟩
      rw[rk,aD IP,aD EW]
     ·have Nd:min (acc.map V.int).length (y2.2.2.map V.int).length=many:=by rw[y6,y6,al,Zq,Bu]
      rw[Nd]at YC
      refine⟨a7,_,⟨_,_,rfl⟩,Z3.trans e7,YC,by simp,?_⟩
      rw[em,zI (yb.mp Jo).1,zI (yb.mp IU).1,(yb.mp Jo).2,(yb.mp IU).2]
      rfl
    ·rintro σ G5 ⟨a5,acc,⟨Qd,KI,rfl⟩,e5,Th,al,em⟩
     have Tt:Hu p many (bx rs) (List.replicate many 0) y.2.2 (aZ R r.2.1)=acc:=by
      rw[em]
      rw[y6,y6]
      by_cases c3:y.2.2.length<=(aZ R r.2.1).length
      ·rw[Nat.min_eq_left c3,List.drop_length]
       cases (aZ R r.2.1).drop y.2.2.length <;> rfl
      ·rw[Nat.min_eq_right (by omega),List.drop_length]
       cases y.2.2.drop (aZ R r.2.1).length <;> rfl
     refine⟨⟨a5,acc,_,_,rfl,Th,?_,al,?_⟩,Z5.trans e5⟩
     ·unfold nW
      rw[show gj (some fs) r.1=false from hd,if_neg (fun z=>nomatch z),if_neg c2,yr]
      exact Tt.symm
     ·rw[<- Tt]
      exact t9 (by omega) Ph
structure xV (K : PySem.W.Frag) : Prop where
  ll : PySem.W.kitOne K (.type "list") (.type "list") = some true
  ii : PySem.W.kitOne K (.type "int") (.type "int") = some true
  ib : PySem.W.kitOne K (.type "int") (.type "bool") = some false
  tt : PySem.W.kitOne K (.type "tuple") (.type "tuple") = some true
structure wF (mg : Str -> Option Value) : Prop where
  Ci : mg "len" = none
  CA : mg "range" = none
  D9 : mg "list" = none
  DN : mg "zip" = none
  JM : mg "sum" = none
  Fd : mg "enumerate" = none
  BQ : mg "isinstance" = none
  Ht : mg "int" = none
  GG : mg "bool" = none
  IE : mg "tuple" = none
theorem fT {H:Hp}:∀ ns:List Int,Paired (XF H) (ns.map V.int) ns
 | []=>.nil
 | n::ns=>.cons rfl (fT ns)
theorem mz:∀ (xs ys:List Int),xs.length=ys.length->((List.range xs.length).map fun i=>xs.getD i 0 * (0 - ys.getD i 0)).sum=- Mx.dot xs ys
 | [],[],_=>rfl
 | a::x,b::y,h=>by
  have ih:=mz x y (by simpa using h)
  rw[z4,List.range_succ_eq_map,yJ,yt,List.sum_cons]
  show a * (0 - b)+((List.range x.length).map ((fun i=>(a::x).getD i 0 * (0 - (b::y).getD i 0)) ∘ Nat.succ)).sum=- (a * b+Mx.dot x y)
  have e:((List.range x.length).map ((fun i=>(a::x).getD i 0 * (0 - (b::y).getD i 0)) ∘ Nat.succ)).sum=((List.range x.length).map fun i=>x.getD i 0 * (0 - y.getD i 0)).sum:=rfl
  rw[e,ih,Int.mul_sub]
  omega
noncomputable def kg:Sp:=fun vs H Q _=>∃ (l:Addr)(p:Int)(m:Nat)(ns:List Int),vs=[.ref l,.int (m:Int),.int p]/\H l=some (.lst (ns.map V.int))/\ns.length=m/\Fn p ns/\Q (.bl true) H
noncomputable abbrev nR:Stmt:=top 68
theorem Hn:ai ["_law_found","_law_many","_law_prime","_law_number"] ["_law_found","_law_many","_law_prime"] (af nR):=CG
theorem vL {f:Addr}{fd:FuncData} (F:Cu K "_law_list" "_law_list" nR f fd) (T:wF mg) (TK:xV K):BF P w K mg base Co 1 f fd ["_law_found","_law_many","_law_prime"] kg:=by
 refine F.k Hn fun BJ A outer s H vs Q E hr h=>?_
 ·obtain⟨l,p,m,ns,rfl,hl,hn,hf,q⟩:=h
  have ND:=Hn.nd
  refine⟨_,(aa (aK (PW.pt (dY (bZ (bG (aw (ow K) rfl T.BQ aS (a0 (pv 0) (a0 (cY (v:=.ty "list") rfl T.D9 boot_list rfl) ab))))) (eJ (pT ic (aw (dJ K) rfl T.Ci boot_len (a0 (pv 0) ab)) (pv 1)))))
  (ad (am bM))
  ay)
 (aa (bi yS rfl (bQ K (pv 0)) (pN 3 ND)
  (ad (aK (PW.pt (dY (bZ (bG (aw (ow K) rfl T.BQ aS (a0 (pv 3) (a0 (cY (v:=.ty "int") rfl T.Ht boot_int rfl) ab))))) (dY (bG (aw (ow K) rfl T.BQ aS (a0 (pv 3) (a0 (cY (v:=.ty "bool") rfl T.GG boot_bool rfl) ab)))) (dY (pT kU (pv 3) ag) (eJ (pT t3 (pv 3) (pv 2)))))))
  (ad (am bM))
  ay)))
 (ad (am bM)))),?_⟩
  refine⟨_,rfl,.ref l,_,_,_,rfl,.lst hl,TK.ll,_,rfl,ba ?_⟩
  refine⟨_,rfl,l,_,rfl,.inl (B'.of hl),_,rfl,rfl,_,rfl,jt (by rw[y6,hn]) ?_⟩
  refine⟨_,rfl,l,rfl,⟨_,B'.of hl⟩,bC (K:=K) (a:=l) (xs:=ns.map V.int) (fun i σ H2=>H2=H/\∃ o3,σ=[some (.ref l),some (.int (m:Int)),some (.int p),o3])
   ⟨rfl,none,rfl⟩ (fun i σ H2 _ z=>by rw[z.1];exact B'.of hl) ?_ ?_⟩
  ·rintro j y σ H3 ey ⟨rfl,o3,rfl⟩
   obtain⟨n,en,rfl⟩:=bJ ey
   have KO:=hf n (yj en)
   refine⟨_,rfl,.int n,_,_,_,rfl,.int n,TK.ii,_,rfl,ba ?_⟩
   refine⟨_,rfl,.int n,_,_,_,rfl,.int n,TK.ib,_,rfl,ba ?_⟩
   refine⟨_,rfl,_,_,rfl,rfl,_,rfl,bH (fun c=>absurd (yA c) (by omega)) (fun _=>?_)⟩
   refine⟨_,rfl,_,rfl,_,_,rfl,rfl,_,rfl,bH (fun c=>absurd (yA c) (by omega)) (fun _=>⟨rfl,_,rfl⟩)⟩
  ·rintro σ H3 ⟨rfl,o3,rfl⟩
   exact q
noncomputable def mL:Sp:=fun vs H Q _=>∃ (b l0 l1 lc:Addr)(p:Int)(m:Nat)(v:List Int)(cs:List V)(t:List (List Int)),vs=[.ref b,.ref lc,.int (m:Int),.int p]/\H b=some (.tup [.str "alike",.ref l0,.ref l1])/\H l0=some (.lst ((List.replicate m (0:Int)).map V.int))/\H l1=some (.lst (v.map V.int))/\xX p t v m/\1<p/\p<=1000000/\m<=100/\
 H lc=some (.lst cs)/\Paired (Rw H) cs t/\(∀ r∈t,r.length=m/\Fn p r)/\∀ H',f' H H'->Q (.bl true) H'
noncomputable abbrev kH:Stmt:=top 70
theorem Gn:ai ["_law_told","_law_come_in","_law_many","_law_prime","_law_row"] ["_law_told","_law_come_in","_law_many","_law_prime"] (af kH):=CG
theorem uE {f:Addr}{fd:FuncData} (F:Cu K "_law_alike" "_law_alike" kH f fd) (T:wF mg) (DJ:Df P w K mg base 1 "_law_list" ["_law_found","_law_many","_law_prime"] kg):BF P w K mg base Co 2 f fd ["_law_told","_law_come_in","_law_many","_law_prime"] mL:=by
 refine F.k Gn fun BJ A outer s H vs Q E hr h=>?_
 ·obtain⟨b,l0,l1,lc,p,m,v,cs,t,rfl,hb,h0,h1,Hi,Fh,Gr,hm,hc,KS,ht,q⟩:=h
  have ND:=Gn.nd
  have p0:0<p:=by omega
  have tb:=CT.of (K:=K) hb
  refine⟨_,(aa (aK (PW.pt (dY (pT ic (aw (dJ K) rfl T.Ci boot_len (a0 (pv 0) ab)) ag) (dY (bZ (bG (ak DJ hr.m rfl (a0 (pI (cO K) (pv 0) ag) (a0 (pv 2) (a0 (pv 3) ab)))))) (eJ (bZ (bG (ak DJ hr.m rfl (a0 (pI (cO K) (pv 0) ag) (a0 (pv 2) (a0 (pv 3) ab))))))))))
  (ad (am bM))
  ay)
 (aa (aK (pT (Ww K GL (bc hr)) (pI (cO K) (pv 0) ag) (pI (cO K) (pv 0) ag))
  (ad (am bM))
  ay)
 (aa (bi yS rfl (bQ K (pv 1)) (pN 4 ND)
  (ad (aK (pT ic (aB bg (aw (sumK K rfl) rfl T.JM qT (a0 (aV rfl (cS 3 [] ["_law_a","_law_b","_law_c"]) (xc K rfl T.DN (a0 (pv 4) (a0 (pI (cO K) (pv 0) ag) (a0 (pI (cO K) (pv 0) ag) ab))))
  (fun _ _ _ _ _=>(dl K (n:=3) rfl (aj (pC 0) (aj (pC 1) (aj (pC 2) aX)))))
  (fun _ _ _ _ _=>aG)
  (fun _ _ _ _ _=>(aB dG (pv 0) (aB rK (pv 1) (pv 2))))) ab)) (pv 3)) ag)
  (ad (am bM))
  ay)))
 (ad (am bM))))),?_⟩
  refine⟨_,rfl,b,_,rfl,.inr tb,rfl,_,rfl,ba ?_⟩
  refine⟨_,rfl,b,_,1,_,rfl,rfl,tb,rfl,_,rfl,_,rfl,l0,p,m,List.replicate m 0,rfl,h0,by simp,fun z hz=>by rw[(AU.mp hz).2];omega,_,rfl,ba ?_⟩
  refine⟨_,rfl,b,_,2,_,rfl,rfl,tb,rfl,_,rfl,_,rfl,l1,p,m,v,rfl,h1,Hi.len,Hi.fit,_,rfl,ba ?_⟩
  refine⟨_,rfl,b,_,1,_,rfl,rfl,tb,rfl,_,rfl,b,_,2,_,rfl,rfl,tb,rfl,List.replicate m 0,v,⟨l0,_,rfl,B'.of h0,fT _⟩,⟨l1,_,rfl,B'.of h1,fT _⟩,_,rfl,bH (fun g=>?_) (fun g=>?_)⟩
  ·exfalso
   have g:=yA g
   refine Hi.some ?_
   rw[<- g]
   rw[List.filter_eq_nil_iff]
   intro a ha
   rw[(AU.mp ha).2]
   decide
  refine⟨_,rfl,lc,rfl,⟨_,B'.of hc⟩,bC (K:=K) (xs:=cs) (fun i σ G=>(∃ o4,σ=[some (.ref b),some (.ref lc),some (.int (m:Int)),some (.int p),o4])/\f' H G) ⟨⟨none,rfl⟩,f'.refl _⟩ (fun i σ G _ h=>B'.of (h.2 _ _ hc)) ?_ ?_⟩
  ·rintro i x σ G ex ⟨⟨o4,rfl⟩,eG⟩
   obtain⟨r,er,a,rfl,ha⟩:=Paired.at KS ex
   have rm:=yj er
   obtain⟨rl,rf⟩:=ht r rm
   have X9:=CT.of (K:=K) (eG _ _ hb)
   refine⟨_,rfl,_,rfl,b,_,1,_,rfl,rfl,X9,rfl,_,rfl,b,_,2,_,rfl,rfl,X9,rfl,a,l0,l1,rfl,⟨_,B'.of (eG _ _ ha)⟩,⟨_,B'.of (eG _ _ h0)⟩,⟨_,B'.of (eG _ _ h1)⟩,sD (g:=fun i=>r.getD i 0 * (0 - v.getD i 0)) (eG _ _ ha) (eG _ _ h0) (eG _ _ h1) (by rw[y6,y6,Bf,rl]) (by rw[y6,y6,Hi.len,rl]) (by rw[y6,rl];omega) (fun j x1 x2 x3 T2 G2 e1 e2 e3 RJ Kv=>?_) (fun l G2 BX RJ hl=>?_)⟩
   ·obtain⟨z1,IP,rfl⟩:=bJ e1
    obtain⟨z2,EW,rfl⟩:=bJ e2
    obtain⟨z3,Vf,rfl⟩:=bJ e3
    have Zn:z2=0:=(AU.mp (yj EW)).2
    have b1:=rf z1 (yj IP)
    refine⟨_,rfl,_,rfl,_,rfl,_,_,rfl,rfl,_,_,rfl,rfl,.inl ⟨by omega,by omega⟩,?_,aq (f'.refl _) Kv⟩
    rw[aD IP,aD Vf,Zn]
   ·refine⟨l,_,rfl,B'.of hl,_,rfl,_,_,rfl,rfl,p0,rfl,_,rfl,?_⟩
    rw[y6,mz r v (by rw[rl,Hi.len])]
    have hd:(- Mx.dot r v) % p=0:=zQ (Int.dvd_neg.mpr (Int.dvd_of_emod_eq_zero (Hi.ker r rm)))
    refine jt (by show V.int (- Mx.dot r v % p)=V.int 0;rw[hd]) ?_
    exact⟨⟨_,rfl⟩,eG.trans RJ⟩
  ·rintro σ G ⟨⟨o4,rfl⟩,eG⟩
   exact q G eG
noncomputable def GV (p:Int)(many:Nat):List Int->List Int->List (List Int)->List Int
 | acc,m::ms,t::ts=>GV p many (cP p many acc m t) ms ts
 | acc,_,_=>acc
theorem tL {p:Int}{many:Nat}{v:List Int}:∀ {acc ms:List Int}{ts:List (List Int)},acc.length=many->(∀ t∈ts,t.length=many)->p ∣ Mx.dot (GV p many acc ms ts) v - (Mx.dot acc v+Mx.dot ms (ts.map fun t=>Mx.dot t v))
 | acc,[],ts,h,_=>by
  have:GV p many acc [] ts=acc:=by cases ts <;> rfl
  rw[this]
  simp[Mx.dot]
 | acc,m::ms,[],h,_=>by
  show p ∣ Mx.dot acc v - (Mx.dot acc v+Mx.dot (m::ms) [])
  simp[Mx.dot]
 | acc,m::ms,t::ts,h,hl=>by
  have hb:=hl t (by simp)
  have ih:=tL (p:=p) (many:=many) (v:=v) (acc:=cP p many acc m t) (ms:=ms) (ts:=ts) (by unfold cP;simp) fun u hu=>hl u (by simp[hu])
  have h1:=oC p m acc t v (by omega)
  rw[<- lU h hb]at h1
  show p ∣ Mx.dot (GV p many (cP p many acc m t) ms ts) v - (Mx.dot acc v+(m * Mx.dot t v+Mx.dot ms (ts.map fun t=>Mx.dot t v)))
  have:=AY h1 ih
  have e:(Mx.dot (cP p many acc m t) v - (Mx.dot acc v+m * Mx.dot t v))+(Mx.dot (GV p many (cP p many acc m t) ms ts) v - (Mx.dot (cP p many acc m t) v+Mx.dot ms (ts.map fun t=>Mx.dot t v)))=Mx.dot (GV p many (cP p many acc m t) ms ts) v - (Mx.dot acc v+(m * Mx.dot t v+Mx.dot ms (ts.map fun t=>Mx.dot t v))):=by omega
  rw[e]at this
  exact this
theorem t8 {p:Int}{many:Nat} (hp:0<p):∀ {acc ms:List Int}{ts:List (List Int)},Fn p acc->Fn p (GV p many acc ms ts)
 | acc,[],ts,h=>by
  have:GV p many acc [] ts=acc:=by cases ts <;> rfl
  rw[this];exact h
 | acc,_::_,[],h=>h
 | acc,m::ms,t::ts,_=>t8 hp (acc:=cP p many acc m t) (ms:=ms) (ts:=ts) fun z hz=>by
  unfold cP at hz
  obtain⟨k,_,rfl⟩:=yD.mp hz
  exact⟨zo _ (by omega),zb _ hp⟩
theorem t7 {p:Int}{many:Nat}:∀ {acc ms:List Int}{ts:List (List Int)},acc.length=many->(GV p many acc ms ts).length=many
 | acc,[],[],h=>h
 | acc,[],_::_,h=>h
 | acc,_::_,[],h=>h
 | acc,m::ms,t::ts,_=>t7 (ms:=ms) (ts:=ts) (by unfold cP;simp)
theorem ui {p:Int}{t R:List (List Int)}{m k:Nat} (h:qW p t R m) (hp:1<p) (ht:∀ r∈t,r.length=m) (hk:k<m):GV p m (List.replicate m 0) (R.getD k []) t=(List.range m).map fun j=>if j=k then (1:Int) else 0:=by
 have hl:(GV p m (List.replicate m 0) (R.getD k []) t).length=m:=t7 (by simp)
 have hf:Fn p (GV p m (List.replicate m 0) (R.getD k []) t):=t8 (by omega) fun z hz=>by rw[(AU.mp hz).2];omega
 apply zq
 intro j
 by_cases c:j<m
 ·rw[ye,z8 c,y8 (by omega)]
  have d:=tL (p:=p) (v:=Mx.BG m j) (acc:=List.replicate m 0) (ms:=R.getD k []) (ts:=t) (by simp) ht
  rw[j5,AM]at d
  have e1:Mx.dot (GV p m (List.replicate m 0) (R.getD k []) t) (Mx.BG m j)=(GV p m (List.replicate m 0) (R.getD k []) t)[j]'(by omega):=by
   rw[Mx.Dp,Mx.D7 m j _ hl]
   exact aD (y8 _)
  have e2:(t.map fun t=>Mx.dot t (Mx.BG m j))=Mx.col t j:=by
   unfold Mx.col
   refine z7 fun r hr=>?_
   rw[Mx.Dp,Mx.D7 m j _ (ht r hr)]
  rw[e1,e2]at d
  have d:=jz d
  rw[h.ones k j hk c]at d
  have b:=hf _ (zm (l:=GV p m (List.replicate m 0) (R.getD k []) t) (n:=j) (by omega))
  rw[zw b.1 b.2]at d
  rw[d]
  show some (if k=j then (1:Int) else 0)=some (if j=k then (1:Int) else 0)
  by_cases z:k=j
  ·rw[if_pos z,if_pos z.symm]
  ·rw[if_neg z,if_neg (fun y=>z y.symm)]
 ·rw[yp (by omega),yp (by simp;omega)]
noncomputable def mK:Sp:=fun vs H Q _=>∃ (l lc:Addr)(p:Int)(m:Nat)(xs cs:List V)(R t:List (List Int)),vs=[.ref l,.ref lc,.int (m:Int),.int p]/\H l=some (.lst xs)/\Paired (Rw H) xs R/\qW p t R m/\1<p/\p<=1000000/\m<=100/\H lc=some (.lst cs)/\Paired (Rw H) cs t/\(∀ r∈t,r.length=m)/\t.length<=100/\∀ H',f' H H'->Q (.bl true) H'
noncomputable abbrev kF:Stmt:=top 69
theorem Gm:ai ["_law_table","_law_come_in","_law_many","_law_prime","_law_k","_law_row","_law_come","_law_multiplier","_law_other"] ["_law_table","_law_come_in","_law_many","_law_prime"] (af kF):=CG
theorem uD {f:Addr}{fd:FuncData} (F:Cu K "_law_reads" "_law_reads" kF f fd) (T:wF mg) (TK:xV K) (DJ:Df P w K mg base 1 "_law_list" ["_law_found","_law_many","_law_prime"] kg):BF P w K mg base Co 2 f fd ["_law_table","_law_come_in","_law_many","_law_prime"] mK:=by
 refine F.k Gm fun BJ A outer s H vs Q E hr h=>?_
 ·obtain⟨l,lc,p,m,xs,cs,R,t,rfl,hl,XS,rd,Fh,Gr,hm,hc,KS,ht,JO,q⟩:=h
  have ND:=Gm.nd
  have p0:0<p:=by omega
  have xl:=Paired.length XS
  have cl:=Paired.length KS
  have rl:=rd.len
  refine⟨_,(aa (aK (PW.pt (dY (bZ (bG (aw (ow K) rfl T.BQ aS (a0 (pv 0) (a0 (cY (v:=.ty "list") rfl T.D9 boot_list rfl) ab))))) (eJ (pT ic (aw (dJ K) rfl T.Ci boot_len (a0 (pv 0) ab)) (pv 2)))))
  (ad (am bM))
  ay)
 (aa (bi yS rfl (xg K rfl T.Fd (a0 (pv 0) ab)) (dl K (n:=2) rfl (aj (pN 4 ND) (aj (pN 5 ND) aX)))
  (aa (aK (bZ (bG (ak DJ hr.m rfl (a0 (pv 5) (a0 (aw (dJ K) rfl T.Ci boot_len (a0 (pv 1) ab)) (a0 (pv 3) ab))))))
  (ad (am bM))
  ay)
 (aa (pS 6 ND (aB rL (bE (a0 ag ab)) (pv 2)))
 (aa (bi yS rfl (pQ K rfl T.DN (a0 (pv 5) (a0 (pv 1) ab))) (dl K (n:=2) rfl (aj (pN 7 ND) (aj (pN 8 ND) aX)))
  (ad (br (i:=6) ND rfl rfl rfl (cS 2 [3,7] ["_law_a","_law_b","_law_prime","_law_multiplier"]) (pQ K rfl T.DN (a0 (pv 6) (a0 (pv 8) ab)))
  (fun _ _ _ _ _=>(dl K (n:=2) rfl (aj (pC 0) (aj (pC 1) aX))))
  (fun _ _ _ _ _=>aG)
  (fun _ _ _ _ _=>(aB bg (aB cH (pv 0) (aB dG (pv 3) (pv 1))) (pv 2))))))
 (ad (aK (pT (Qj K GL (bc hr)) (pv 6) (aV rfl (cS 1 [4] ["_law_place","_law_k"]) (cf rfl T.CA (a0 (pv 2) ab))
  (fun _ _ _ _ _=>(pC 0))
  (fun _ _ _ _ _=>aG)
  (fun _ _ _ _ _=>(bz v0 rfl T.Ht boot_int (a0 (pM bP (pv 0) (pv 1)) ab)))))
  (ad (am bM))
  ay))))))
 (ad (am bM)))),?_⟩
  refine⟨_,rfl,.ref l,_,_,_,rfl,.lst hl,TK.ll,_,rfl,ba ?_⟩
  refine⟨_,rfl,l,_,rfl,.inl (B'.of hl),_,rfl,rfl,_,rfl,jt (by rw[xl,rl]) ?_⟩
  refine⟨_,rfl,l,xs,rfl,hl,wg (K:=K) (a:=l) (xs:=xs) (fun i σ G=>(∃ o4 o5 o6 o7 o8,σ=[some (.ref l),some (.ref lc),some (.int (m:Int)),some (.int p),o4,o5,o6,o7,o8])/\f' H G) ⟨⟨none,none,none,none,none,rfl⟩,f'.refl _⟩ (fun i σ G _ h=>B'.of (h.2 _ _ hl)) ?_ ?_⟩
  case refine_2=>
   rintro σ G ⟨⟨o4,o5,o6,o7,o8,rfl⟩,eG⟩
   exact q G eG
  rintro k x T' σ G0 ex ⟨⟨o4,o5,o6,o7,o8,rfl⟩,eG0⟩ hT
  obtain⟨r,er,a,rfl,ha⟩:=Paired.at XS ex
  have km:k<m:=by have:=(yb.mp er).1;omega
  have rm:=yj er
  have rg:R.getD k []=r:=aD er
  have eT:f' G0 (upd G0 T' (.tup [.int k,.ref a])):=aq (f'.refl _) hT
  generalize upd G0 T' (.tup [.int k,.ref a])=G at eT
  have eG:=eG0.trans eT
  refine⟨_,rfl,_,rfl,lc,_,rfl,.inl (B'.of (eG _ _ hc)),_,rfl,a,p,cs.length,r,rfl,eG _ _ ha,by rw[rd.Fe r rm,cl],rd.fit r rm,_,rfl,ba ?_⟩
  refine⟨(by show 1<=sizeLine;decide),fun l1 G2 e2 h2 DU=>⟨_,rfl,l1,_,_,rfl,rfl,DU,by omega,by omega,?_,fun b hb=>?_⟩⟩
  ·rw[yZ]
   show 1 * m<=2 ^ 24
   omega
  have ea:f' G (upd G2 b (.lst (List.replicate ((m:Nat):Int).toNat [V.int 0]).flatten)):=aq e2 hb
  have Te:(upd G2 b (.lst (List.replicate ((m:Nat):Int).toNat [V.int 0]).flatten)) b=some (.lst ((List.replicate m (0:Int)).map V.int)):=by rw[a9,yZ,Lj]
  generalize upd G2 b (.lst (List.replicate ((m:Nat):Int).toNat [V.int 0]).flatten)=G3 at ea Te
  have e3:=eG.trans ea
  refine⟨_,rfl,_,rfl,a,lc,rfl,⟨_,B'.of (e3 _ _ ha)⟩,⟨_,B'.of (e3 _ _ hc)⟩,oA (K:=K) (fun i σ G'=>∃ (b:Addr)(acc:List Int),(∃ o7 o8,σ=[some (.ref l),some (.ref lc),some (.int (m:Int)),some (.int p),some (.int k),some (.ref a),some (.ref b),o7,o8])/\f' G3 G'/\G' b=some (.lst (acc.map V.int))/\acc.length=m/\GV p m (List.replicate m 0) r t=GV p m acc (r.drop i) (t.drop i))
   ⟨b,_,⟨_,_,rfl⟩,f'.refl _,Te,by simp,by rw[Bw,Bw]⟩ (fun i σ G' _ j'=>(by obtain⟨_,_,_,e,_⟩:=j';exact⟨B'.of (e _ _ (e3 _ _ ha)),B'.of (e _ _ (e3 _ _ hc))⟩)) ?_ ?_⟩
  ·rintro i u v T2 σ G5 eu O3 ⟨b5,acc,⟨UJ,o8',rfl⟩,e5,NR,al,em⟩ Kv
   obtain⟨n,KO,rfl⟩:=bJ eu
   obtain⟨tr,Vp,c,rfl,Js⟩:=Paired.at KS O3
   have tl:=ht tr (yj Vp)
   have nf:=rd.fit r rm n (yj KO)
   refine⟨T2,_,rfl,CT.of a9,rfl,_,_,rfl,_,[],rfl,rfl,?_⟩
   have Tv:f' G5 (upd G5 T2 (.tup [.int n,.ref c])):=aq (f'.refl _) Kv
   generalize upd G5 T2 (.tup [.int n,.ref c])=G6 at Tv
   have Z4:=e5.trans Tv
   have YA:=Z4 _ _ (e3 _ _ Js)
   refine⟨_,rfl,_,rfl,b5,c,rfl,⟨_,B'.of (Tv _ _ NR)⟩,⟨_,B'.of YA⟩,gf (g:=fun z=>(acc.getD z 0+n * tr.getD z 0) % p) (Tv _ _ NR) YA (by rw[y6];omega) (fun z x1 x2 T3 G7 h1 h2 e7 P0=>?_) (fun b7 G7 h7 e7 Tg=>?_)⟩
   ·obtain⟨z1,IP,rfl⟩:=bJ h1
    obtain⟨z2,EW,rfl⟩:=bJ h2
    refine⟨_,rfl,_,rfl,_,rfl,_,_,rfl,rfl,.inl ⟨by omega,by omega⟩,_,_,rfl,rfl,_,rfl,_,_,rfl,rfl,p0,?_,aq (f'.refl _) P0⟩
    rw[aD IP,aD EW]
   ·have Nd:min (acc.map V.int).length (tr.map V.int).length=m:=by rw[y6,y6,al,tl,Bu]
    rw[Nd]at Tg
    refine⟨b7,_,⟨_,_,rfl⟩,Z4.trans e7,Tg,by simp,?_⟩
    rw[em,zI (yb.mp KO).1,zI (yb.mp Vp).1,(yb.mp KO).2,(yb.mp Vp).2]
    rfl
  ·rintro σ G5 ⟨b5,acc,⟨UJ,o8',rfl⟩,e5,NR,al,em⟩
   have Tt:GV p m (List.replicate m 0) r t=acc:=by
    rw[em,y6,cl,rd.Fe r rm,Bu,List.drop_length]
    cases r.drop t.length <;> rfl
   have row:=ui rd Fh ht km
   rw[rg,Tt]at row
   refine⟨_,rfl,_,rfl,_,rfl,by omega,by omega,?_⟩
   rw[yZ]
   refine jC (n:=m) (fun j=>if j=k then 1 else 0) (by omega) (fun j G7 hj e7=>?_) (fun b7 G7 h7 e7 Tg=>?_)
   ·refine⟨_,rfl,_,rfl,rfl,.inr ⟨_,rfl,?_,f'.refl _⟩⟩
    rw[AM]
    by_cases z:j=k
    ·rw[yo (show V.int (j:Int)=V.int (k:Int) by rw[z]),if_pos rfl,if_pos z]
    ·rw[yq (show ¬ V.int (j:Int)=V.int (k:Int) from fun y=>z (by injection y with y;omega)),if_neg (by decide),if_neg z]
   ·refine⟨acc,_,⟨b5,_,rfl,B'.of (e7 _ _ NR),fT _⟩,⟨b7,_,rfl,B'.of Tg,fT _⟩,_,rfl,jt row ?_⟩
    exact⟨⟨_,_,_,_,_,rfl⟩,(e3.trans e5).trans e7⟩
noncomputable def mJ:Sp:=fun vs H Q _=>∃ (b lc:Addr)(p:Int)(m:Nat)(cs:List V)(t:List (List Int)),vs=[.ref b,.ref lc,.int (m:Int),.int p]/\1<p/\p<=1000000/\m<=100/\H lc=some (.lst cs)/\Paired (Rw H) cs t/\(∀ r∈t,r.length=m/\Fn p r)/\t.length<=100/\
 ((∃ l R xs,H b=some (.tup [.str "reads",.ref l])/\H l=some (.lst xs)/\Paired (Rw H) xs R/\qW p t R m) \/
  (∃ l0 l1 v,H b=some (.tup [.str "alike",.ref l0,.ref l1])/\H l0=some (.lst ((List.replicate m (0:Int)).map V.int))/\H l1=some (.lst (v.map V.int))/\xX p t v m))/\∀ H',f' H H'->Q (.bl true) H'
noncomputable abbrev kE:Stmt:=top 71
theorem ue:ai ["_law_told","_law_come_in","_law_many","_law_prime"] ["_law_told","_law_come_in","_law_many","_law_prime"] (af kE):=CG
theorem uC {f:Addr}{fd:FuncData} (F:Cu K "_law_right" "_law_right" kE f fd) (T:wF mg) (TK:xV K) (FQ:Df P w K mg base 2 "_law_reads" ["_law_table","_law_come_in","_law_many","_law_prime"] mK) (FR:Df P w K mg base 2 "_law_alike" ["_law_told","_law_come_in","_law_many","_law_prime"] mL):BF P w K mg base Co 3 f fd ["_law_told","_law_come_in","_law_many","_law_prime"] mJ:=by
 refine F.k ue fun BJ A outer s H vs Q E hr h=>?_
 ·obtain⟨b,lc,p,m,cs,t,rfl,Fh,Gr,hm,hc,KS,ht,JO,hj,q⟩:=h
  refine⟨_,(aa (aK (PW.pt (dY (bZ (bG (aw (ow K) rfl T.BQ aS (a0 (pv 0) (a0 (cY (v:=.ty "tuple") rfl T.IE boot_tuple rfl) ab))))) (eJ (pT kU (aw (dJ K) rfl T.Ci boot_len (a0 (pv 0) ab)) ag))))
  (ad (am bM))
  ay)
 (aa (aK (pT bP (pI (cO K) (pv 0) ag) dm)
  (ad (am (fK (pM bP (aw (dJ K) rfl T.Ci boot_len (a0 (pv 0) ab)) ag) (fI (ak FQ hr.m rfl (a0 (pI (cO K) (pv 0) ag) (a0 (pv 1) (a0 (pv 2) (a0 (pv 3) ab)))))))))
  ay)
 (ad (am (fK (pM bP (pI (cO K) (pv 0) ag) dm) (fI (ak FR hr.m rfl (a0 (pv 0) (a0 (pv 1) (a0 (pv 2) (a0 (pv 3) ab))))))))))),?_⟩
  rcases hj with⟨l,R,xs,hb,hl,hx,rd⟩|⟨l0,l1,v,hb,h0,h1,Hi⟩
  ·have tb:=CT.of (K:=K) hb
   refine⟨_,rfl,.ref b,_,_,_,rfl,.tup hb,TK.tt,_,rfl,ba ?_⟩
   refine⟨_,rfl,b,_,rfl,.inr tb,_,_,rfl,rfl,_,rfl,ba ?_⟩
   refine⟨_,rfl,b,_,0,_,rfl,rfl,tb,rfl,rfl,_,rfl,cw ?_⟩
   refine⟨_,rfl,b,_,rfl,.inr tb,rfl,_,rfl,cw ?_⟩
   exact⟨_,rfl,b,_,1,_,rfl,rfl,tb,rfl,_,rfl,_,rfl,_,rfl,l,lc,p,m,xs,cs,R,t,rfl,hl,hx,rd,Fh,Gr,hm,hc,KS,fun r CI=>(ht r CI).1,JO,q⟩
  ·have tb:=CT.of (K:=K) hb
   refine⟨_,rfl,.ref b,_,_,_,rfl,.tup hb,TK.tt,_,rfl,ba ?_⟩
   refine⟨_,rfl,b,_,rfl,.inr tb,_,_,rfl,rfl,_,rfl,ba ?_⟩
   refine⟨_,rfl,b,_,0,_,rfl,rfl,tb,rfl,rfl,_,rfl,ba ?_⟩
   refine⟨_,rfl,b,_,0,_,rfl,rfl,tb,rfl,rfl,_,rfl,cw ?_⟩
   exact⟨_,rfl,_,rfl,_,rfl,_,rfl,b,l0,l1,lc,p,m,v,cs,t,rfl,hb,h0,h1,Hi,Fh,Gr,hm,hc,KS,ht,q⟩
end K51
namespace L2
open PySem
section
variable {K : PySem.W.Frag}{js : List Nat}{te : TE}{σ : St}{F : Addr -> Hp -> Prop}{H : Hp}
theorem qO {o:Obj}{d:Addr}{kvs:List (Key×V)} (R:Nat->Hp->V->Prop) (mono:∀ i H H' v,f' H H'->R i H v->R i H' v) (HQ:H d=some (.frz o (.dK kvs))) (hz:kvs.length<=1000)
  (hs:∀ (i:Nat)(kv:Key×V) H2,kvs[i]?=some kv->f' H H2->te (some (kV kv.1)::some kv.2::bD σ js) H2 fun v H5=>(∀ l,H l=none->H2 l≠none->R i (hide l H5) v)/\f' H2 H5)
  (hd:∀ l H' vs,H l=none->f' H H'->H' l=some (.lst vs)->vs.length=kvs.length->(∀ i v,vs[i]?=some v->R i (hide l H') v)->F l H'):bh 2 js (mr K 2 (cm (aO 0) (cm (aO 1) ox))) fh te σ F (WX o d) H:=by
 intro l BX
 refine⟨fun i m σ' H2=>m=kvs.length - i/\i<=kvs.length/\(∃ o o2,σ'=o::o2::bD σ js)/\f' H H2/\∃ vs:List V,vs.length=i/\H2 l=some (.lst vs)/\∀ i v,vs[i]?=some v->R i (hide l H2) v,⟨kvs.length,by simp,yR _,⟨none,none,rfl⟩,aq (f'.refl _) BX,[],rfl,a9,fun i v h=>by simp at h⟩,?_⟩
 rintro i m σ' H2 ⟨rfl,hi,⟨o',o2,rfl⟩,e,vs,hlen,hl,hp⟩
 have q:H2 d=some (.frz o (.dK kvs)):=e _ _ HQ
 by_cases BU:i<kvs.length
 ·refine .inr ⟨⟨kvs,kvs[i],q,by simp[BU]⟩,fun x H3 y=>?_⟩
  obtain⟨T,hT,rfl,kv,ex,rfl⟩:=y
  have ek:=ex kvs q
  refine⟨T,[kV kv.1,kv.2],rfl,CT.of a9,rfl,_,[kv.2],rfl,_,[],rfl,rfl,?_⟩
  have eT:f' H2 (upd H2 T (.tup [kV kv.1,kv.2])):=aq (f'.refl _) hT
  generalize upd H2 T (.tup [kV kv.1,kv.2])=H3 at eT
  refine⟨fun H4=>False,fun v H5=>(∀ l,H l=none->H3 l≠none->R i (hide l H5) v)/\f' H3 H5,fun H4 z=>z.elim,fun v H5 j'=>?_,hs i kv H3 ek (e.trans eT)⟩
  obtain⟨pv,e5⟩:=j'
  have LW:=eT.trans e5
  refine⟨_,LW _ _ hl,by rw[hlen];exact yP hi (yP hz (by decide)),_,?_,rfl,BU,⟨_,_,rfl⟩,ar (e.trans LW) BX,vs++[v],by rw[yI,hlen];rfl,a9,fun j w hj=>?_⟩
  ·omega
  ·rw[lG]
   by_cases c:j<vs.length
   ·rw[yU c]at hj
    exact mono _ _ _ _ (j4 LW) (hp j w hj)
   ·rw[yT (by omega)]at hj
    by_cases c2:j - vs.length=0
    ·rw[c2]at hj
     have:v=w:=by simpa using hj
     have ej:j=i:=by omega
     rw[ej,<- this]
     exact pv l BX (by rw[eT _ _ hl];exact fun z=>nomatch z)
    ·rw[yp (by simp;omega)]at hj;cases hj
 ·have ei:i=kvs.length:=by omega
  subst ei
  exact .inl ⟨⟨kvs,q,yh _⟩,hd l H2 vs BX e hl hlen hp⟩
end
end L2
namespace K51
open PySem L2
theorem pF {H:Hp}:∀ {vs:List V}{rows:List aA},Paired (fun v (r:aA)=>∃ b g,v=V.ref b/\H b=some (.tup [.int r.1,.ref g])/\H g=some (.lst (r.2.2.map V.int))) vs rows->
  ∃ ws:List aA,ws.map (fun r=>(r.1,r.2.2))=rows.map (fun r=>(r.1,r.2.2))/\Paired (fun v (r:aA)=>∃ b,v=V.ref b/\H b=some (.tup [.int r.1,.ref r.2.1])) vs ws/\∀ r∈ws,H r.2.1=some (.lst (r.2.2.map V.int))
 | _,_,.nil=>⟨[],rfl,.nil,fun _ h=>(yB h).elim⟩
 | _,m::_,.cons ⟨b,g,e,hb,hg⟩ t=>by
  obtain⟨ws,h1,h2,h3⟩:=pF t
  refine⟨(m.1,g,m.2.2)::ws,by rw[yJ,yJ,h1],.cons ⟨b,e,hb⟩ h2,fun r hr=>?_⟩
  rcases yx.mp hr with rfl|hr
  ·exact hg
  ·exact h3 r hr
theorem nE {α:Type}[DecidableEq α]:∀ {xs ys:List α},xs.Nodup->(∀ x∈xs,x∈ys)->xs.length<=ys.length
 | [],_,_,_=>yR _
 | x::xs,ys,nd,h=>by
  have hx:=h x (by simp)
  obtain⟨n1,n2⟩:=zk.mp nd
  have ih:=nE (xs:=xs) (ys:=ys.erase x) n2 fun y hy=>(AI (show y≠x from fun z=>n1 (z▸hy))).mpr (h y (by simp[hy]))
  rw[AQ hx]at ih
  have:=List.length_pos_of_mem hx
  rw[z4]
  omega
noncomputable def Rm (hv:V)(R:List LT)(many:Nat):List (Int×Int):=R.map fun r=>(r.1,((cb hv R many r.2.1:Nat):Int))
theorem oP (hv:V)(R:List LT)(many:Nat):(Rm hv R many).map (·.1)=R.map (·.1):=by
 unfold Rm
 rw[yt]
 rfl
section
variable {S : NS}{ord : List Str}{R : List LT}
theorem LN.wide (h:LN S ord R)(many:Nat)(x:Str):K51.wide many (ci S x)=((cb (aM S.Cb) R many x:Nat):Int):=by
 unfold ci cb
 by_cases c:V.str x=aM S.Cb
 ·rw[if_pos c,if_pos c]
  rfl
 ·rw[if_neg c,if_neg c,h.into]
  rfl
theorem LN.wants (h:LN S ord R)(many:Nat):(K51.wants S many).Perm (Rm (aM S.Cb) R many):=by
 have e1:K51.wants S many=(az S).map fun r=>(r.1,K51.wide many r.2):=rfl
 rw[e1]
 refine (h.CU.map _).trans (.of_eq ?_)
 unfold Rm
 rw[yt]
 have:=congrArg (List.map fun r:LT=>(r.1,((cb (aM S.Cb) R many r.2.1:Nat):Int))) h.BL
 rw[yt]at this
 rw[<- this]
 refine z7 fun t _=>?_
 show (t.1,K51.wide many (ci S t.2.1))=(t.1,((cb (aM S.Cb) R many t.2.1:Nat):Int))
 rw[h.wide]
theorem LN.ms (h:LN S ord R){many:Nat}{ms:List (Int×Int)} (p:ms.Perm (K51.wants S many)) (pw:(ms.map (·.1)).Pairwise (·<=·)):ms=Rm (aM S.Cb) R many:=by
 have p2:=p.trans (h.wants many)
 have nd:((Rm (aM S.Cb) R many).map (·.1)).Pairwise (·<·):=by
  rw[oP]
  exact h.asc
 refine p2.eq_of_pairwise (le:=fun a b=>a.1<=b.1) (fun a b ha hb h1 h2=>?_) (zV.mp pw) ((zV.mp nd).imp fun h=>Int.le_of_lt h)
 have e:a.1=b.1:=Int.le_antisymm h1 h2
 have ha:=p2.mem_iff.mp ha
 obtain⟨i,hi,e1⟩:=zp ha
 obtain⟨j,hj,e2⟩:=zp hb
 have nr:((Rm (aM S.Cb) R many).map (·.1)).Nodup:=nd.imp fun h=>Int.ne_of_lt h
 have:i=j:=bN nr (x:=a.1) (by rw[ye,y8 hi,e1];rfl) (by rw[ye,y8 hj,e2];exact congrArg some e.symm)
 subst this
 rw[<- e1,<- e2]
end
section
variable {hv : V}{p : Int}{many : Nat}{R : List LT}
theorem d8:∀ {rows:List aA}{R':List LT},Paired (cQ hv p many R) rows R'->rows.map (·.1)=R'.map (·.1)
 | _,_,.nil=>rfl
 | _,_,.cons h r=>by rw[yJ,yJ,d8 r,h.1]
theorem pO:∀ {rows:List aA}{R':List LT},Paired (cQ hv p many R) rows R'->∀ r∈R',∃ y∈rows,cQ hv p many R y r
 | _,_,.nil,_,h=>(yB h).elim
 | _,_,.cons h t,r,hr=>by
  rcases yx.mp hr with rfl|z
  ·exact⟨_,yw,h⟩
  ·obtain⟨y,hy,k⟩:=pO t r z
   exact⟨y,yE _ hy,k⟩
theorem mQ:∀ {rows:List aA}{R':List LT},Paired (cQ hv p many R) rows R'->∀ y∈rows,∃ r∈R',cQ hv p many R y r
 | _,_,.nil,_,h=>(yB h).elim
 | _,_,.cons h t,r,hr=>by
  rcases yx.mp hr with rfl|z
  ·exact⟨_,yw,h⟩
  ·obtain⟨y,hy,k⟩:=mQ t r z
   exact⟨y,yE _ hy,k⟩
theorem uq {rows:List aA}(pr:Paired (cQ hv p many R) rows R)(nd:(R.map (·.1)).Nodup):(Rm hv R many).find? (lT rows p)=none:=ze.mpr fun m hm hb=>by
 obtain⟨r,hr,rfl⟩:=yD.mp hm
 obtain⟨y,hy,e1,e2,e3⟩:=pO pr r hr
 have hi:aT rows r.1=some y:=e1▸bL (d8 pr▸nd) y hy
 unfold lT at hb
 rw[hi]at hb
 have:fe p y.2.2 ((cb hv R many r.2.1:Nat):Int)=true:=by
  unfold fe
  rw[zg,zF]
  refine⟨yo (by rw[e3]),fun z hz=>?_⟩
  unfold ju
  rw[zg]
  exact⟨yo (e2 z hz).1,yo (e2 z hz).2⟩
 have hb:(!fe p y.2.2 ((cb hv R many r.2.1:Nat):Int))=true:=hb
 rw[this]at hb
 exact absurd hb (by decide)
theorem vw {rows:List aA}(pr:Paired (cQ hv p many R) rows R):qh (Rm hv R many) rows=[]:=by
 unfold qh
 refine List.filter_eq_nil_iff.mpr fun n hn hb=>?_
 rw[oP,<- d8 pr,yo hn]at hb
 exact absurd hb (by decide)
theorem uo {rows:List aA}(pr:Paired (cQ hv p many R) rows R)(nd:(R.map (·.1)).Nodup):cx (Rm hv R many) rows=rows.map fun r=>(r.1,r.2.2):=by
 have knd:(rows.map (·.1)).Nodup:=d8 pr▸nd
 have:∀ {IB:List aA}{R':List LT},Paired (cQ hv p many R) IB R'->(∀ y∈IB,aT rows y.1=some y)->(R'.map fun r=>(r.1,((aT rows r.1).map (·.2.2)).getD []))=IB.map fun r=>(r.1,r.2.2):=by
  intro IB R' h
  induction h with
  | nil=>exact fun _=>rfl
  | cons h t ih=>
   intro hk
   rw[yJ,yJ,ih fun y hy=>hk y (yE _ hy)]
   have:=hk _ yw
   rw[<- h.1,this]
   rfl
 unfold cx Rm
 rw[yt]
 exact this pr fun y hy=>bL knd y hy
end
theorem kJ {n:Int}:∀ {a b:List aA},a.map (fun r=>(r.1,r.2.2))=b.map (fun r=>(r.1,r.2.2))->(aT a n).map (·.2.2)=(aT b n).map (·.2.2)
 | [],[],_=>rfl
 | [],_::_,h=>by cases h
 | _::_,[],h=>by cases h
 | x::a,y::b,h=>by
  rw[yJ,yJ]at h
  obtain⟨h1,h2⟩:=List.cons.inj h
  have k1:x.1=y.1:=congrArg (fun z:Int×List Int=>z.1) h1
  have k2:x.2.2=y.2.2:=congrArg (fun z:Int×List Int=>z.2) h1
  have ih:=kJ (n:=n) h2
  unfold aT at ih ⊢
  rw[z5,z5,k1]
  by_cases c:y.1=n
  ·rw[yo c]
   show some x.2.2=some y.2.2
   rw[k2]
  ·rw[yq c]
   exact ih
theorem mN {a b:List aA}(h:a.map (fun r=>(r.1,r.2.2))=b.map (fun r=>(r.1,r.2.2)))(k:Int):bx a k=bx b k:=by
 unfold bx
 rw[kJ h]
theorem mP {hv:V}{p:Int}{many:Nat}{R:List LT}:∀ {a b:List aA}{R':List LT},a.map (fun r=>(r.1,r.2.2))=b.map (fun r=>(r.1,r.2.2))->Paired (cQ hv p many R) b R'->Paired (cQ hv p many R) a R'
 | [],[],[],h,.nil=>.nil
 | [],_::_,_,h,_=>by cases h
 | _::_,[],_,h,_=>by cases h
 | x::a,y::b,_::_,h,.cons k r=>by
  rw[yJ,yJ]at h
  obtain⟨h1,h2⟩:=List.cons.inj h
  have k1:x.1=y.1:=congrArg (fun z:Int×List Int=>z.1) h1
  have k2:x.2.2=y.2.2:=congrArg (fun z:Int×List Int=>z.2) h1
  refine .cons ⟨k1.trans k.1,?_,?_⟩ (mP h2 r)
  ·rw[k2];exact k.2.1
  ·rw[k2];exact k.2.2
theorem jw {p:Int}{rs rows:List aA}{msg:List Int}{fo:Option (List Int)} (h:∀ k,bx rs k=bx rows k):∀ (ms:List Ek)(cs:Cs),aU p rs msg fo ms cs=aU p rows msg fo ms cs
 | [],_=>rfl
 | m::ms,cs=>by
  have e:cC p rs msg fo cs m=cC p rows msg fo cs m:=by
   unfold cC
   rw[h]
  show aU p rs msg fo ms (cs++[(m.1,cC p rs msg fo cs m)])=aU p rows msg fo ms (cs++[(m.1,cC p rows msg fo cs m)])
  rw[e,jw h]
theorem oW {S:NS}{p:Int}{rs rows:List aA}{fo:Option (List Int)}{many:Nat} (h:∀ k,bx rs k=bx rows k) (g:Str):jb S p rs fo many g=jb S p rows fo many g:=by
 unfold jb cB
 simp only[jw h]
theorem BZ.rows {S:NS}{p:Int}{rs rows:List aA}{fo:Option (List Int)}{many:Nat}{H H':Hp}{kvs:List (Key×V)}{gs:List Str} (h:∀ k,bx rs k=bx rows k) (t:BZ S p rs fo many H H' kvs gs):BZ S p rows fo many H H' kvs gs:=Paired.Cp t fun kv g j'=>by obtain⟨a,b,c,d,e⟩:=j';exact⟨a,b,c,d,oW h g▸e⟩
theorem Di.fo {hv:V}{p:Int}{many:Nat}{rows:List aA}{fo YO:Option (List Int)}{R:List LT}{L:Int->List Int} (hf:∀ k,gj fo k=gj YO k) (h:Di hv p many rows fo R L):Di hv p many rows YO R L:=⟨fun r hr=>(h.eq r hr).trans (by rw[hf]),h.len,h.fit⟩
theorem wP {S:NS}{ord:List Str}{R:List LT} (O:LN S ord R) {p:Int}{many:Nat}{rows:List aA}{fo:Option (List Int)}{L:Int->List Int} (hL:Di (aM S.Cb) p many rows fo R L) (g:Str):jb S p rows fo many g=(aZ R g).map L:=by
 unfold jb
 rw[O.into]
 unfold aZ
 rw[yt,yt]
 exact z7 fun r hr=>O.col hL (zd.mp hr).1
theorem vc {S:NS}{p:Int} (hp:0<p) (rs:List aA) (fo:Option (List Int)) (many:Nat) (g:Str):Mx.Sh p many (jb S p rs fo many g):=by
 refine⟨fun r hr=>?_,fun r hr=>?_⟩ <;> obtain⟨k,_,rfl⟩:=yD.mp hr
 ·exact nu _ _ _ _ _ _
 ·exact nw hp _ _ _ _ _
theorem CB.II {p:Int}{m:Nat}{t:List (List Int)}{H G G':Hp}{b:Addr} (h:CB p m t H G b) (hb:H b=none) (k:∀ b o,H b=none->(∃ xs,o=HO.lst xs\/o=HO.tup xs)->G b=some o->G' b=some o):CB p m t H G' b:=by
 have lk:∀ {a:Addr}{xs:List V},H a=none->G a=some (.lst xs)->G' a=some (.lst xs):=fun z h=>k _ _ z ⟨_,.inl rfl⟩ h
 have tk:∀ {xs:List V},G b=some (.tup xs)->G' b=some (.tup xs):=fun h=>k _ _ hb ⟨_,.inr rfl⟩ h
 rcases h with⟨l,h1,h2,h3,xs,h4,h5⟩|⟨l0,v,h1,h2,h3,h4,h5⟩
 ·exact .inl ⟨l,tk h1,h2,h3,xs,lk h3 h4,Paired.Cp h5 fun x r j'=>(by obtain⟨c,q1,q2,q3⟩:=j';exact⟨c,q1,q2,lk q2 q3⟩)⟩
 ·refine .inr ⟨l0,v,tk h1,h2,h3,lk h3 h4,?_⟩
  rcases h5 with h|⟨u,rest,l1,a1,a2,a3,a4,a5⟩
  ·exact .inl h
  ·exact .inr ⟨u,rest,l1,a1,a2,a3,a4,lk a3 a5⟩
theorem BZ.II {S:NS}{p:Int}{rs:List aA}{fo:Option (List Int)}{many:Nat}{H G G':Hp}{kvs:List (Key×V)}{gs:List Str} (h:BZ S p rs fo many H G kvs gs) (k:∀ b o,H b=none->(∃ xs,o=HO.lst xs\/o=HO.tup xs)->G b=some o->G' b=some o):BZ S p rs fo many H G' kvs gs:=Paired.Cp h fun kv g j'=>by obtain⟨a,b,c,d,e⟩:=j';exact⟨a,b,c,d,e.II d k⟩
theorem BZ.Cn {S:NS}{p:Int}{rs:List aA}{fo:Option (List Int)}{many:Nat}{H G G':Hp}{kvs:List (Key×V)}{gs:List Str} (h:BZ S p rs fo many H G kvs gs) (k:CK G G'):BZ S p rs fo many H G' kvs gs:=h.II fun b o _ j' hb=>by obtain⟨xs,e⟩:=j';exact k b o (fun ps z=>by rcases e with e|e <;> (rw[e]at z;cases z)) hb
theorem BZ.at {S:NS}{p:Int}{rs:List aA}{fo:Option (List Int)}{many:Nat}{H H':Hp}{kvs:List (Key×V)}{gs:List Str} (h:BZ S p rs fo many H H' kvs gs) (g:Str) (hg:g∈gs):∃ b,bd kvs (Sum.inr g)=some (.ref b)/\H b=none/\CB p many (jb S p rs fo many g) H H' b:=by
 unfold BZ at h
 induction h with
 | nil=>exact (yB hg).elim
 | @cons kv g' kvs gs h r ih=>
  obtain⟨h1,b,h2,h3,h4⟩:=h
  by_cases c:g'=g
  ·subst c
   exact⟨b,by rw[c7 h1];exact congrArg some h2,h3,h4⟩
  ·rw[bS (fun z=>c (Sum.inr.inj (h1.symm.trans z)))]
   rcases yx.mp hg with z|z
   ·exact absurd z.symm c
   ·exact ih z
theorem BZ.names {S:NS}{p:Int}{rs:List aA}{fo:Option (List Int)}{many:Nat}{H H':Hp}{kvs:List (Key×V)}{gs:List Str} (h:BZ S p rs fo many H H' kvs gs):kvs.map (·.1)=gs.map fun g=>(Sum.inr g:Key):=by
 unfold BZ at h
 induction h with
 | nil=>rfl
 | cons h r ih=>rw[yJ,yJ,ih,h.1]
theorem kP {α β γ:Type}{F:α->γ->Prop}{F':β->γ->Prop}{G:α->β->Prop}{xs:List α}{ys:List β}{t:List γ} (a:Paired F xs t) (b:Paired F' ys t) (k:∀ a b c,F a c->F' b c->G a b):Paired G xs ys:=by
 induction a generalizing ys with
 | nil=>cases b;exact .nil
 | cons h r ih=>
  cases b with
  | cons h' r'=>exact .cons (k _ _ _ h h') (ih r')
theorem mX {K:PySem.W.Frag}{H:Hp}:∀ ns:List Int,Paired (Dy K H 0) (ns.map V.int) (ns.map V.int)
 | []=>.nil
 | n::ns=>.cons (.inl ⟨n,rfl,rfl⟩) (mX ns)
theorem fQ {K:PySem.W.Frag}{H:Hp}{a b:Addr}{ns:List Int} (ha:H a=some (.lst (ns.map V.int))) (hb:H b=some (.lst (ns.map V.int))):Dy K H 1 (.ref a) (.ref b):=.inr (.inl ⟨a,b,_,_,rfl,rfl,B'.of ha,B'.of hb,mX ns⟩)
theorem CB.Nc {K:PySem.W.Frag}{p:Int}{m:Nat}{t:List (List Int)}{H H' G:Hp}{b b':Addr} (hP:My.Ee p=true) (S:Mx.Sh p m t) (h:CB p m t H G b) (h':CB p m t H' G b'):Dy K G 3 (.ref b) (.ref b'):=by
 obtain⟨L,B⟩:=tS hP S
 rcases h with⟨l,h1,h2,_,xs,h3,h4⟩|⟨l0,v,h1,h2,_,h3,h4⟩
 ·rcases h' with⟨l',k1,k2,_,ys,k3,k4⟩|⟨_,_,_,k2,_⟩
  ·refine .inr (.inr ⟨b,b',_,_,rfl,rfl,CT.of h1,CT.of k1,.cons (.inl (.inl (.inr ⟨_,rfl,rfl⟩))) (.cons (.inr (.inl ⟨l,l',xs,ys,rfl,rfl,B'.of h3,B'.of k3,kP h4 k4 fun x y r j' IP=>?_⟩)) .nil)⟩)
   obtain⟨c,e,_,hc⟩:=j'
   obtain⟨c',e',_,KU⟩:=IP
   rw[e,e']
   exact fQ hc KU
  ·exact absurd k2 h2
 ·rcases h' with⟨_,_,k2,_⟩|⟨l0',v',k1,k2,_,k3,k4⟩
  ·exact absurd h2 k2
  ·have no:be p t m≠[]:=fun hu=>by
    have:=B.un.mp hu
    have:=B.rd
    omega
   rcases h4 with⟨hu,_⟩|⟨u,rest,l1,hu,rfl,_,_,h5⟩
   ·exact absurd hu no
   rcases k4 with⟨hu,_⟩|⟨u',Xf,l1',XX,rfl,_,_,k5⟩
   ·exact absurd hu no
   rw[hu]at XX
   injection XX with e1 e2
   subst e1
   exact .inr (.inr ⟨b,b',_,_,rfl,rfl,CT.of h1,CT.of k1,.cons (.inl (.inl (.inr ⟨_,rfl,rfl⟩))) (.cons (.inl (fQ h3 k3)) (.cons (.inl (fQ h5 k5)) .nil))⟩)
theorem BZ.Nc {K:PySem.W.Frag}{S:NS}{p:Int}{rs:List aA}{fo:Option (List Int)}{many:Nat}{H H' G:Hp} (hP:My.Ee p=true) (hp:0<p) {kvs ES:List (Key×V)}{gs:List Str} (a:BZ S p rs fo many H G kvs gs) (b:BZ S p rs fo many H' G ES gs):Paired (fun (a b:Key×V)=>a.1=b.1/\Dy K G 3 a.2 b.2) kvs ES:=kP a b fun x y g h k=>by
 obtain⟨a1,b,a2,_,a4⟩:=h
 obtain⟨c1,d,c2,_,c4⟩:=k
 exact⟨a1.trans c1.symm,by rw[a2,c2];exact a4.Nc hP (vc hp _ _ _ _) c4⟩
theorem Na {S:NS}(h:S.names.Nodup):S.DO.Nodup:=by
 unfold NS.DO
 exact h.sublist (List.Sublist.map _ List.filter_sublist)
theorem wO {gs:List Str}(h:gs.Nodup):(gs.map fun g=>(Sum.inr g:Key)).Nodup:=yW.mpr (zV.mpr ((yW.mp h).imp fun h z=>h (Sum.inr.inj z)))
theorem BZ.IF {K:PySem.W.Frag}{S:NS}{p:Int}{rs:List aA}{fo:Option (List Int)}{many:Nat}{H H' G:Hp}{a b:Addr}{kvs ES:List (Key×V)} (hP:My.Ee p=true) (hp:0<p) (nd:S.names.Nodup) (ha:G a=some (.dK kvs)) (hb:G b=some (.dK ES)) (h:BZ S p rs fo many H G kvs S.DO) (h':BZ S p rs fo many H' G ES S.DO):Eo K G 3 (.ref a) (.ref b):=
 ⟨a,b,kvs,ES,rfl,rfl,ha,hb,h.Nc hP hp h',by rw[h'.names];exact wO (Na nd)⟩
theorem mO {K:PySem.W.Frag}{H:Hp}:∀ {a b:List aA},a.map (fun r=>(r.1,r.2.2))=b.map (fun r=>(r.1,r.2.2))->(∀ r∈a,H r.2.1=some (.lst (r.2.2.map V.int)))->(∀ r∈b,H r.2.1=some (.lst (r.2.2.map V.int)))->Paired (fun (p q:Key×V)=>p.1=q.1/\Dy K H 1 p.2 q.2) (aI a) (aI b)
 | [],[],_,_,_=>.nil
 | [],_::_,h,_,_=>by cases h
 | _::_,[],h,_,_=>by cases h
 | x::a,y::b,h,ha,hb=>by
  rw[yJ,yJ]at h
  obtain⟨h1,h2⟩:=List.cons.inj h
  have k1:x.1=y.1:=congrArg (fun z:Int×List Int=>z.1) h1
  have k2:x.2.2=y.2.2:=congrArg (fun z:Int×List Int=>z.2) h1
  refine .cons ⟨congrArg Sum.inl k1,fQ (ha x yw) ?_⟩ (mO h2 (fun r hr=>ha r (yE _ hr)) fun r hr=>hb r (yE _ hr))
  rw[k2]
  exact hb y yw
theorem pP {rows:List aA}(nd:(rows.map (·.1)).Nodup):((aI rows).map (·.1)).Nodup:=by
 unfold aI
 rw[yt]
 have:((fun x:Key×V=>x.1) ∘ fun r:aA=>((Sum.inl r.1:Key),V.ref r.2.1))=(fun x:Int=>(Sum.inl x:Key)) ∘ Prod.fst:=rfl
 rw[this,<- yt]
 exact yW.mpr (zV.mpr ((yW.mp nd).imp fun h z=>h (Sum.inl.inj z)))
theorem BO.IF {K:PySem.W.Frag}{H:Hp}{d e:Addr}{a b:List aA} (h:BO H d a) (h':BO H e b) (w:a.map (fun r=>(r.1,r.2.2))=b.map (fun r=>(r.1,r.2.2))) (nd:(b.map (·.1)).Nodup):Eo K H 1 (.ref d) (.ref e):=⟨d,e,_,_,rfl,rfl,h.dict,h'.dict,mO w h.row h'.row,pP nd⟩
theorem sT {H H':Hp}(e:f' H H'):CK H H':=fun b o _ h=>e b o h
noncomputable def adr (rs:List aA)(k:Int):Addr:=((aT rs k).map (·.2.1)).getD 0
theorem ug {rs:List aA}{k:Int} (h:k∈rs.map (·.1)):∃ y∈rs,aT rs k=some y/\y.1=k:=by
 cases hi:aT rs k with
 | some y=>exact⟨y,(cG hi).1,rfl,(cG hi).2⟩
 | none=>
  obtain⟨y,hy,e⟩:=yD.mp h
  have:=ze.mp hi y hy
  exact absurd (yo e) this
theorem BO.adr {H:Hp}{d:Addr}{rs:List aA} (h:BO H d rs) {k:Int} (hk:k∈rs.map (·.1)):bd (aI rs) (Sum.inl k)=some (.ref (K51.adr rs k))/\H (K51.adr rs k)=some (.lst ((bx rs k).map V.int)):=by
 obtain⟨y,hy,hi,_⟩:=ug hk
 rw[bR]
 unfold K51.adr bx
 rw[hi]
 exact⟨rfl,h.row y hy⟩
theorem xS {H:Hp}{d:Addr}{rs:List aA}{R:List LT}{g:Str} (h:BO H d rs) (hk:∀ r∈R,r.1∈rs.map (·.1)):Paired (Rw H) (((List.range R.length).filter fun i=>decide ((R.getD i (0,"","")).2.2=g)).map fun i=>V.ref (adr rs (R.getD i (0,"","")).1)) ((aZ R g).map (bx rs)):=by
 rw[eC (d:=((0,"",""):LT)) (fun r=>decide (r.2.2=g)) (fun r=>V.ref (adr rs r.1)) R]
 unfold aZ
 rw[yt]
 have:∀ (Q:List LT),(∀ r∈Q,r∈R)->Paired (Rw H) (Q.map fun r=>V.ref (adr rs r.1)) (Q.map (bx rs ∘ fun r=>r.1)):=by
  intro Q
  induction Q with
  | nil=>exact fun _=>.nil
  | cons q Q ih=>exact fun hq=>.cons ⟨_,rfl,(h.adr (hk q (hq q yw))).2⟩ (ih fun r hr=>hq r (yE _ hr))
 exact this _ fun r hr=>(zd.mp hr).1
theorem qr {H:Hp}:∀ kvs:List (Key×V),Paired (isA H) (kvs.map fun kv=>kV kv.1) (kvs.map (·.1))
 | []=>.nil
 | _::kvs=>.cons rfl (qr kvs)
theorem oY {H:Hp}:∀ xs:List Str,Paired (isA H) (xs.map V.str) (xs.map fun x=>(Sum.inr x:Key))
 | []=>.nil
 | _::xs=>.cons rfl (oY xs)
noncomputable def Clr (H0 Hk G G':Hp):Prop:=∀ b o,G b=some o->G' b=some o\/∃ xs ys,o=HO.lst xs/\G' b=some (.lst ys)/\H0 b=none/\Hk b≠none
structure Jg (c : Cl) (H : Hp) (n d : Addr) (S : NS) (rows : List aA) (many : Nat) (p : Int) : Prop where
  ask : oR c H n d S rows many p
  DO : ∀ g ∈ S.DO, g ∈ S.names /\ (∀ k ∈ S.into g, k ∈ (az S).map (·.1)) /\ (S.into g).length <= 100
  good : ∀ ms : List (Int × Int), ms.Perm (wants S many) -> (ms.map (·.1)).Pairwise (· <= ·) -> ms.find? (lT rows p) = none
  odd : ∀ ms : List (Int × Int), ms.Perm (wants S many) -> (ms.map (·.1)).Pairwise (· <= ·) -> qh ms rows = []
  same : ∀ ms : List (Int × Int), ms.Perm (wants S many) -> (ms.map (·.1)).Pairwise (· <= ·) -> ∀ rs : List aA, (rs.map fun r => (r.1, r.2.2)) = cx ms rows -> ∀ k, bx rs k = bx rows k
theorem eU {c:Cl}{n d dp dt:Addr}{S:NS}{rows:List aA}{R:List LT}{many:Nat}{p:Int}{H:Hp} (N:BS c H n dp dt S) (X:LX S EF R) (rl:R.length<=12) (pl:BO H d rows) (pr:Paired (cQ (aM S.Cb) p many R) rows R) (hm:many<=4):Jg c H n d S rows many p:=by
 have Hs:(R.map (·.1)).Nodup:=X.ln.asc.imp fun h=>Int.ne_of_lt h
 have wp:=X.ln.wants many
 have tle:S.BL.length=R.length:=by
  have:=congrArg List.length X.ln.BL
  rw[y6]at this
  exact this
 have pz:S.BV.length<=20:=by
  have:=nE X.ln.ID X.ln.GU
  unfold NS.names at this
  rw[y6]at this
  have:=X.ln.len
  omega
 have rz:rows.length=R.length:=Paired.length pr
 have iz:∀ x,(aZ R x).length<=12:=fun x=>by
  unfold aZ
  rw[y6]
  exact yV (zj _ _) rl
 refine⟨⟨⟨dp,dt,N⟩,X.ln.Ld,X.ln.ends,by omega,by omega,(wp.map _).nodup_iff.mpr (by rw[oP];exact Hs),by rw[wp.length_eq];unfold Rm;rw[y6];omega,pl,by omega,fun r hr=>?_⟩,fun g hg=>⟨?_,fun k hk=>?_,?_⟩,fun ms pm pw=>?_,fun ms pm pw=>?_,fun ms pm pw rs Jb=>mN ?_⟩
 ·obtain⟨r',_,_,_,e⟩:=mQ pr r hr
  rw[e]
  unfold cb
  split
  ·omega
  ·have:=iz r'.2.1;omega
 ·unfold NS.DO at hg
  obtain⟨q',Gq,rfl⟩:=yD.mp hg
  exact yO (zd.mp Gq).1
 ·rw[X.ln.into]at hk
  unfold aZ at hk
  obtain⟨r,CI,rfl⟩:=yD.mp hk
  exact X.ln.keys.mem_iff.mpr (yO (zd.mp CI).1)
 ·rw[X.ln.into]
  have:=iz g
  omega
 ·cases X.ln.ms pm pw
  exact uq pr Hs
 ·cases X.ln.ms pm pw
  exact vw pr
 ·cases X.ln.ms pm pw
  rw[Jb,uo pr Hs]
end K51
namespace L2
open PySem
theorem xN {A:Around}{k n:Nat} (hr:Ck k A) (h:n<=64):A.units+n<cLine:=yP (Nat.add_le_add_left h _) hr.units
end L2
namespace K51
open PySem L2
open PyProof.Rows (boot_list boot_int boot_bool boot_tuple boot_str boot_dict boot_all boot_sorted)
theorem wf {es:List Expr}{p:Pos}{env:Env}:∀ x,foldedSetIterable (.List es p) env x=pure x:=fun _=>rfl
theorem wC (ns:List Int)(lo hi:Option Int):∃ cs:List Int,j6 (ns.map V.int) lo hi=cs.map V.int:=by
 unfold j6
 rw[<- List.map_drop,<- BE]
 exact⟨_,rfl⟩
theorem sA (xs:List V):(j6 xs (some 3) (some 15)).length<=12:=by
 unfold j6
 rw[show (some (3:Int))=some ((3:Nat):Int) from rfl,show (some (15:Int))=some ((15:Nat):Int) from rfl,HT.Fp,HT.Fp,yM,AL]
 omega
noncomputable def Pf:List Int:=[2,3,5,7,11,13,999983,2]
theorem Ms:∀ p∈Pf,My.Ee p=true/\1<p/\p<=1000000:=by
 intro p hp
 simp only[Pf,yx,yB,zS]at hp
 rcases hp with rfl|rfl|rfl|rfl|rfl|rfl|rfl|rfl
 all_goals (refine⟨?_,by decide,by decide⟩)
 all_goals first|exact My.HX|exact My.IL (by decide +kernel) (by decide)
structure RW (mg : Str -> Option Value) : Prop where
  D9 : mg "list" = none
  Dl : mg "dict" = none
  BQ : mg "isinstance" = none
noncomputable def nG (K:PySem.W.Frag)(P1 P2:Addr):Sp:=fun vs H Q _=>∃ (a:Addr)(ns:List Int),vs=[.ref a]/\B' K H a (ns.map V.int)/\TabAt P1 XC XB H/\TabAt P2 OM OL H/\P1≠P2/\∀ H',Q (.bl true) H'
noncomputable abbrev vi:Stmt:=top 72
theorem JE:ai ["_law_script","_law_first","_law_second","_law_third","_law_net_here","_law_ties","_law_many","_law_prime","_law_plan_here","_law_fallen","_law_handed","_law_found","_law_whole","_law_told","_law_gone","_law_rows_here","_law_name","_law_come_in","_law_kept"] ["_law_script"] (af vi):=CG
theorem MO {c:Cl}{f P1 P2:Addr}{fd:FuncData} (F:Cu K "law" "law" vi f fd) (T:RW mg) (TD:PySem.W.kitOne K (.type "dict") (.type "dict")=some true) (Dt:Df P w K mg base 1 "_law_cell_at" ["_law_script","_law_k"] (jg K)) (CY:Df P w K mg base 1 "_law_mix" ["_law_cell","_law_k"] jN)
  (Ir:Df P w K mg base 6 "_law_net" ["_law_first","_law_cells"] (nI c P1)) (GQ:Df P w K mg base 3 "_law_plan" ["_law_net_here","_law_ties","_law_many","_law_prime","_law_second"] (p6 c)) (GP:Df P w K mg base 5 "_law_rows" ["_law_net_here","_law_ties","_law_plan_here","_law_many","_law_prime","_law_fallen"] (kf c P2)) (FP:Df P w K mg base 3 "_law_right" ["_law_told","_law_come_in","_law_many","_law_prime"] mJ)
  (E9:Df P w K mg base 8 "judged" ["net","plan","many","prime","fallen"] (dS c C)) (F4:U2 P w K mg base 8 "judged" ["net","plan","many","prime","fallen"] [.non] (dS c C)) (BK:Dm P w K mg base 2 c.CS "listeners" ["self"] (cR c)):BF P w K mg base Co 10 f fd ["_law_script"] (nG K P1 P2):=by
 refine F.k JE fun BJ A outer s H vs Q E hr h=>?_
 ·obtain⟨a,ns,rfl,hS,t1,t2,ne,q⟩:=h
  have ND:=JE.nd
  refine⟨_,(aa (pS 1 ND (ak Dt hr.m rfl (a0 (pv 0) (a0 ag ab))))
 (aa (pS 2 ND (ak Dt hr.m rfl (a0 (pv 0) (a0 ag ab))))
 (aa (pS 3 ND (ak Dt hr.m rfl (a0 (pv 0) (a0 ag ab))))
 (aa (vq (ak Ir hr.m rfl (a0 (pv 1) (a0 (cK (p7 K) (pv 0) (cX ag) (cX ag)) ab))) (dl K (n:=2) rfl (aj (pN 4 ND) (aj (pN 5 ND) aX))))
 (aa (pS 6 ND (aB cH ag (aB bg (ak CY hr.m rfl (a0 (pv 3) (a0 ag ab))) ag)))
 (aa (pS 7 ND (pI (d0 K) (bE (a0 ag (a0 ag (a0 ag (a0 ag (a0 ag (a0 ag (a0 ag (a0 ag ab))))))))) (aB bg (ak CY hr.m rfl (a0 (pv 3) (a0 ag ab))) ag)))
 (aa (pS 8 ND (ak GQ hr.m rfl (a0 (pv 4) (a0 (pv 5) (a0 (pv 6) (a0 (pv 7) (a0 (pv 2) ab)))))))
 (aa (br (i:=9) ND rfl rfl rfl (cS 1 [3] ["_law_row","_law_third"]) (bQ K (pv 5))
  (fun _ _ _ _ _=>(pC 0))
  (fun _ _ _ _ _=>(cJ (pT bP (aB bg (ak CY hr.m rfl (a0 (pv 1) (a0 (aB cH ag (pI (cO K) (pv 0) ag)) ab))) ag) ag)))
  (fun _ _ _ _ _=>(pI (cO K) (pv 0) ag)))
 (aa (pS 10 ND (bv (a0 (bz (bA rfl) rfl T.Dl boot_dict (a0 (fJ rfl (cS 2 [] ["_law_number","_law_row"]) (vx (pv 8))
  (fun _ _ _ _ _=>(dl K (n:=2) rfl (aj (pC 0) (aj (pC 1) aX))))
  (fun _ _ _ _ _=>aG)
  (fun _ _ _ _ _=>(bv (a0 (pv 0) (a0 (bz (tq K) rfl T.D9 boot_list (a0 (pv 1) ab)) ab))))) ab)) (a0 (bz (tq K) rfl T.D9 boot_list (a0 (pv 9) ab)) ab))))
 (aa (pS 11 ND (ak E9 hr.m rfl (a0 (pv 4) (a0 (pI (cO K) (pv 10) ag) (a0 (pv 6) (a0 (pv 7) (a0 (pI (cO K) (pv 10) ag) ab)))))))
 (aa (aK (PW.pt (dY (bZ (bG (aw (ow K) rfl T.BQ aS (a0 (pv 11) (a0 (cY (v:=.ty "dict") rfl T.Dl boot_dict rfl) ab))))) (dY (pT (Qj K IW (bc hr)) (bz (oJ rfl) rfl T.D9 boot_list (a0 (pv 11) ab)) (bo (pv 4) BK hr.m)) (eJ (pT (vO K (k:=1) (xN hr (by decide))) (pv 10) (bv (a0 (pv 8) (a0 (pv 9) ab))))))))
  (ad (am bM))
  ay)
 (aa (pS 12 ND (vD F4 hr.m rfl (a0 (pv 4) (a0 (pI (cO K) (pv 10) ag) (a0 (pv 6) (a0 (pv 7) ab))))))
 (aa (bi yS rfl (bQ K (bE (a0 (bv (a0 (pv 11) (a0 (pv 9) ab))) (a0 (bv (a0 (pv 12) (a0 (bE ab) ab))) ab)))) (dl K (n:=2) rfl (aj (pN 13 ND) (aj (pN 14 ND) aX)))
  (aa (pS 15 ND (ak GP hr.m rfl (a0 (pv 4) (a0 (pv 5) (a0 (pv 8) (a0 (pv 6) (a0 (pv 7) (a0 (pv 14) ab))))))))
 (ad (bi yS rfl (bQ K (bo (pv 4) BK hr.m)) (pN 16 ND)
  (aa (br (i:=17) ND rfl rfl rfl (cS 1 [15,16] ["_law_row","_law_rows_here","_law_name"]) (bQ K (pv 5))
  (fun _ _ _ _ _=>(pC 0))
  (fun _ _ _ _ _=>(cJ (pT bP (pI (cO K) (pv 0) ag) (pv 2))))
  (fun _ _ _ _ _=>(pD (bc hr) (pv 1) (pI (cO K) (pv 0) ag))))
 (ad (aK (bZ (bG (ak FP hr.m rfl (a0 (pD (bc hr) (pv 13) (pv 16)) (a0 (pv 17) (a0 (pv 6) (a0 (pv 7) ab)))))))
  (ad (am bM))
  ay)))))) (hs:=wf))
 (aa (pS 18 ND (ak E9 hr.m rfl (a0 (pv 4) (a0 (pI (cO K) (pv 10) ag) (a0 (pv 6) (a0 (pv 7) (a0 (pI (cO K) (pv 10) ag) ab)))))))
 (aa (aK (pT (vP K (k:=3) (xN hr (by decide))) (pv 18) (pv 11))
  (ad (am bM))
  ay)
 (aa (jO yS rfl (jP (pv 11)) (pN 13 ND)
  (ad (b8 (RS K zt PySem.F.slot_list_clear PySem.F.type_list_clear vR (pI (cO K) (pv 13) ag)))))
 (ad (am (fK (pM (wr K (k:=3) (xN hr (by decide))) (ak E9 hr.m rfl (a0 (pv 4) (a0 (pI (cO K) (pv 10) ag) (a0 (pv 6) (a0 (pv 7) (a0 (pI (cO K) (pv 10) ag) ab)))))) (pv 18)) (fI (pM (wq K (k:=1) (xN hr (by decide))) (pv 10) (bv (a0 (pv 8) (a0 (pv 9) ab)))))))))))))))))))))))),?_⟩
  refine⟨_,rfl,a,0,ns,rfl,by decide,hS,fun c1=>?_⟩
  refine⟨_,rfl,a,1,ns,rfl,by decide,hS,fun c2=>?_⟩
  refine⟨_,rfl,a,2,ns,rfl,by decide,hS,fun c3=>?_⟩
  refine⟨_,rfl,_,rfl,_,rfl,_,rfl,a,_,rfl,hS,fun lc H1 e1 h1 Yo=>?_⟩
  obtain⟨cs,YY⟩:=wC ns (some 3) (some 15)
  have c12:cs.length<=12:=by
   have:=sA (ns.map V.int)
   rw[YY,y6]at this
   exact this
  rw[YY]at Yo
  refine⟨lc,c1,cs,rfl,Yo,c12,t1.same e1,fun tt n lt dp dt H2 S R sb h2 htt N TS Ha hR hR2=>?_⟩
  have ZG:TabAt P2 OM OL H2:=by
   obtain⟨ps,p1,p2,p3⟩:=t2.same e1
   have OK:∀ {b:Addr}{o:HO},H1 b=some o->b≠P1->H2 b=some o:=fun h n=>sb _ _ n h
   refine⟨ps,OK p1 (Ne.symm ne),p2,p3.imp id fun⟨c',a',b'⟩=>⟨c',a',OK b' fun z=>?_⟩⟩
   obtain⟨ps1,q1,_⟩:=t1.same e1
   rw[z,q1]at b'
   cases b'
  refine⟨tt,_,rfl,CT.of htt,rfl,_,_,rfl,_,_,rfl,rfl,?_⟩
  obtain⟨many,em,m1,m4⟩:∃ m:Nat,1+dv c3 1 % 4=(m:Int)/\1<=m/\m<=4:=by
   have b1:=zo (dv c3 1) (show (4:Int)≠0 by decide)
   have b2:=zb (dv c3 1) (show (0:Int)<4 by decide)
   exact⟨(1+dv c3 1 % 4).toNat,by omega,by omega,by omega⟩
  obtain⟨p,VA,Ya⟩:∃ p,p∈Pf/\GZ (Pf.map V.int) (dv c3 2 % 8)=some (.int p):=by
   obtain⟨u,eu⟩:=Int.eq_ofNat_of_zero_le (zo (dv c3 2) (show (8:Int)≠0 by decide))
   have:=zb (dv c3 2) (show (0:Int)<8 by decide)
   have ul:u<Pf.length:=by show u<8;omega
   exact⟨Pf[u],zm ul,by rw[eu];exact cz (by rw[ye,y8 ul];rfl)⟩
  obtain⟨hP,Fh,OR⟩:=Ms p VA
  refine⟨_,rfl,c3,1,rfl,by decide,by decide,fun H3 e3=>⟨_,_,rfl,rfl,(by show (0:Int)<4;decide),_,_,rfl,rfl,?_⟩⟩
  change aO 6 (V.int (1+dv c3 1 % 4)) _ _ _
  rw[em]
  refine⟨(by show 8<=sizeLine;decide),fun lp H4 e4 h4 Jp=>⟨_,rfl,c3,2,rfl,by decide,by decide,fun H5 e5=>?_⟩⟩
  refine⟨_,_,rfl,rfl,(by show (0:Int)<8;decide),lp,_,_,_,rfl,rfl,B'.of (e5 _ _ Jp),Ya,?_⟩
  have LW:=(e3.trans e4).trans e5
  have Hs:(R.map (·.1)).Nodup:=Ha.ln.asc.imp fun h=>Int.ne_of_lt h
  refine⟨_,rfl,_,rfl,_,rfl,_,rfl,_,rfl,n,dp,dt,lt,S,many,p,c2,R,rfl,N.mono LW,TS.mono LW,hR,Hs,Fh,m4,fun d H6 rows e6 hd pl pr=>?_⟩
  have WG:=LW.trans e6
  have N6:=N.mono WG
  have WO:=TS.mono WG
  have t6:=ZG.same WG
  clear e3 e4 e5 e6 LW Jp h4 N TS Ya
  obtain⟨ts,HY,Kp⟩:=id WO
  have tl:=Paired.length Kp
  refine⟨_,rfl,lt,rfl,⟨_,B'.of HY⟩,eZ (keep:=fun i=>decide (dv c3 (10+(R.getD i (0,"","")).1) % 5=0)) (g:=fun i=>V.int (R.getD i (0,"","")).1) HY (by omega) (fun j v G2 ej e2=>?_) (fun lf H7 h7 e7 LL=>?_)⟩
  ·obtain⟨r,er,b,rfl,hb⟩:=Paired.at Kp ej
   have gd:R.getD j (0,"","")=r:=by rw[yc,er];rfl
   have rb:=hR2 r (yj er)
   rw[gd]
   refine⟨_,rfl,_,rfl,b,_,0,.int r.1,rfl,rfl,CT.of (e2 _ _ hb),rfl,_,_,rfl,rfl,c3,10+r.1,rfl,by omega,by omega,fun G3 GN=>⟨_,_,rfl,rfl,(by show (0:Int)<5;decide),rfl,_,rfl,?_⟩⟩
   by_cases c:dv c3 (10+r.1) % 5=0
   ·rw[yo (show V.int (dv c3 (10+r.1) % 5)=V.int 0 by rw[c]),yo c]
    exact cw ⟨_,rfl,b,_,0,.int r.1,rfl,rfl,CT.of (GN _ _ (e2 _ _ hb)),rfl,rfl,rfl,GN⟩
   ·rw[yq (show ¬ V.int (dv c3 (10+r.1) % 5)=V.int 0 from fun z=>c (by injection z)),yq c]
    exact ba ⟨rfl,GN⟩
  obtain⟨fs,YX,fz⟩:∃ fs:List Int,(((List.range ts.length).filter fun i=>decide (dv c3 (10+(R.getD i (0,"","")).1) % 5=0)).map fun i=>V.int (R.getD i (0,"","")).1)=fs.map V.int/\fs.length<=12:=
   ⟨((List.range ts.length).filter fun i=>decide (dv c3 (10+(R.getD i (0,"","")).1) % 5=0)).map fun i=>(R.getD i (0,"","")).1,by rw[yt];rfl,by rw[y6];exact yV (zj _ _) (by rw[zi];omega)⟩
  rw[YX]at LL
  have Km:=pl.mono e7
  have knd:(rows.map (·.1)).Nodup:=d8 pr▸Hs
  have rz:rows.length=R.length:=Paired.length pr
  have En:(aI rows).length=rows.length:=by unfold aI;rw[y6]
  refine⟨_,rfl,d,aI rows,rfl,Km.dict,fun ob M hM=>?_⟩
  have XE:∀ (i:Nat) kv,(aI rows)[i]?=some kv->∃ r,rows[i]?=some r/\kv=((Sum.inl r.1:Key),V.ref r.2.1):=fun i kv h=>by
   unfold aI at h
   rw[ye]at h
   obtain⟨r,er,rfl⟩:=yX.mp h
   exact⟨r,er,rfl⟩
  refine qO (K:=K) (o:=ob) (d:=d) (kvs:=aI rows) (fun i H v=>∀ r,rows[i]?=some r->∃ b g,v=.ref b/\H b=some (.tup [.int r.1,.ref g])/\H g=some (.lst (r.2.2.map V.int))) (fun i H H' v e h r hr=>let ⟨b,g,a1,a2,a3⟩:=h r hr;⟨b,g,a1,e _ _ a2,e _ _ a3⟩) a9 (by rw[En];omega) (fun i kv G ek eG=>?_) (fun l G vs BX eG hl vl hv=>?_)
  ·obtain⟨r,er,rfl⟩:=XE i kv ek
   have rm:=yj er
   have JR:G r.2.1=some (.lst (r.2.2.map V.int)):=eG _ _ (by rw[ae (aY (Km.row r rm) Km.dict (fun z=>nomatch z))];exact Km.row r rm)
   refine⟨_,rfl,_,rfl,r.2.1,_,rfl,.inl (B'.of JR),fun g G2 GO Gx hg=>⟨(by show 2<=sizeLine;decide),fun b G3 GN Wm hb=>⟨fun l' EK DP r' CI=>?_,GO.trans GN⟩⟩⟩
   rw[er]at CI
   cases CI
   exact⟨b,g,rfl,eh DP (GO.free Wm) hb,eh DP Gx (GN _ _ hg)⟩
  refine⟨d,ob,_,hM,eG _ _ a9,?_⟩
  have Qh:l≠d:=fun z=>by rw[z,a9]at BX;cases BX
  have LO:=eG _ _ (a9 (H:=H7) (a:=d) (o:=HO.frz ob (HO.dK (aI rows))))
  have Pa:f' H7 (upd G d (.dK (aI rows))):=ce Km.dict eG
  have KQ:(upd G d (.dK (aI rows))) l=some (.lst vs):=by rw[ae Qh];exact hl
  have Uz:Paired (fun v (r:aA)=>∃ b g,v=V.ref b/\(upd G d (.dK (aI rows))) b=some (.tup [.int r.1,.ref g])/\(upd G d (.dK (aI rows))) g=some (.lst (r.2.2.map V.int))) vs rows:=dn (by rw[vl,En]) fun i v r QJ CI=>by
   obtain⟨b,g,a1,a2,a3⟩:=hv i v QJ r CI
   have a2:=d9 _ _ a2
   have a3:=d9 _ _ a3
   exact⟨b,g,a1,by rw[ae (aY a2 LO (fun z=>nomatch z))];exact a2,by rw[ae (aY a3 LO (fun z=>nomatch z))];exact a3⟩
  generalize upd G d (.dK (aI rows))=H8 at Pa KQ Uz
  obtain⟨ws,w1,w2,w3⟩:=pF Uz
  have pw:=mP w1 pr
  have wz:ws.length=R.length:=Paired.length pw
  have Kz:(ws.map (·.1)).Nodup:=d8 pw▸Hs
  clear hv LO hl eG BX vl Qh XE Uz En
  refine⟨l,aI ws,rfl,⟨vs,KQ,fN w2 fun v r j'=>(by obtain⟨b,e,hb⟩:=j';exact⟨b,e,hb⟩)⟩,by unfold aI;rw[y6];omega,fun dd H9 e9 h9 Rq=>?_⟩
  rw[c9 _ [] (by rw[zc];exact pP Kz),zc]at Rq
  have PW:BO H9 dd ws:=⟨Rq,fun r CI=>e9 _ _ (w3 r CI)⟩
  have WA:=Pa.trans e9
  refine⟨_,rfl,lf,_,rfl,.inl (B'.of (WA _ _ LL)),fun KJ JA Jx Tp Rc=>⟨(by show 2<=sizeLine;decide),fun hh H0 Pb h11 OW=>?_⟩⟩
  have Tw:=(WA.trans Jx).trans Pb
  have Tx:=e7.trans Tw
  have N0:=N6.mono Tx
  have TS0:=WO.mono Tx
  have t0:=t6.same Tx
  have Xi:=Km.mono Tw
  have S4:=(PW.mono Jx).mono Pb
  have XD:=Tw _ _ LL
  have SR:=Pb _ _ Rc
  clear e7 e9 Jx Pb Tw Tx Pa WA h7 h9 Tp h11 LL Rc Rq PW KQ w2 w3 pl Km N6 WO t6 HY Kp tl YX
  have J1:=eU N0 Ha hR S4 pw m4
  refine⟨_,rfl,_,rfl,hh,_,0,.ref dd,rfl,rfl,CT.of OW,rfl,_,rfl,_,rfl,_,rfl,hh,_,1,.ref KJ,rfl,rfl,CT.of OW,rfl,n,dd,dp,dt,S,ws,many,p,.ref KJ,some fs,rfl,J1.ask,N0,Ha.ln.fits,Ha.ln.EM,by omega,⟨KJ,rfl,SR⟩,(fun ks h=>by cases h;omega),J1.DO,OR,hP,fun ms pm JG=>⟨J1.good ms pm JG,J1.odd ms pm JG,fun e H12 kvs PU Jw he Jb NL told=>?_⟩⟩
  have told:=told.rows (J1.same ms pm JG PU Jb)
  have KG:=mN w1
  have told:=told.rows KG
  have ID:=Ha.ln.ID
  have p0:0<p:=by omega
  have pz:S.BV.length<=1000:=by
   have:=nE ID Ha.ln.GU
   unfold NS.names at this
   rw[y6]at this
   have:=Ha.ln.len
   omega
  have Zk:=N0.mono Jw
  obtain⟨M0,hn0⟩:=id N0.ins
  refine⟨_,rfl,.ref e,_,_,_,rfl,.dK NL,TD,_,rfl,ba ?_⟩
  refine⟨_,rfl,e,kvs,rfl,NL,fun l1 H13 HI P8 DU=>⟨_,rfl,n,M0,_,rfl,HI _ _ (Jw _ _ hn0),rfl,n,dp,dt,S,rfl,Zk.mono HI,pz,fun l2 H14 Jh h14 DP=>⟨kvs.map (·.1),S.DO.map fun g=>(Sum.inr g:Key),⟨l1,_,rfl,B'.of (Jh _ _ DU),qr kvs⟩,⟨l2,_,rfl,B'.of DP,oY S.DO⟩,_,rfl,jt told.names ?_⟩⟩⟩
  have LY:=(Jw.trans HI).trans Jh
  have lk:∀ {G:Hp},CK H0 G->∀ T2,G T2=some (.tup [.ref d,.ref lf])->qX K G 1 (.ref hh) (.ref T2):=fun {G} eG T2 hT=>⟨hh,T2,_,_,rfl,rfl,CT.of (eG _ _ (fun _ z=>nomatch z) OW),CT.of hT,.cons (.inr ((S4.Cn eG).IF (Xi.Cn eG) w1 knd)) (.cons (.inl (fQ (eG _ _ (fun _ z=>nomatch z) SR) (eG _ _ (fun _ z=>nomatch z) XD))) .nil)⟩
  refine⟨_,rfl,_,rfl,_,rfl,(by show 2<=sizeLine;decide),fun T2 H15 RL Wn Kv=>⟨lk (sT (LY.trans RL)) T2 Kv,_,rfl,ba ?_⟩⟩
  have Jy:=LY.trans RL
  have Po:=told.Cn (sT ((HI.trans Jh).trans RL))
  have hd5:=RL _ _ (Jh _ _ (HI _ _ NL))
  clear HI Jh RL P8 h14 Wn DU DP Kv LY Zk
  have J2:=eU (N0.mono Jy) Ha hR (S4.mono Jy) pw m4
  refine⟨_,rfl,_,rfl,hh,_,0,.ref dd,rfl,rfl,CT.of (Jy _ _ OW),rfl,_,rfl,_,rfl,n,dd,dp,dt,S,ws,many,p,.non,none,rfl,J2.ask,N0.mono Jy,Ha.ln.fits,Ha.ln.EM,by omega,rfl,(fun ks h=>by cases h),J2.DO,OR,hP,fun ms pm JG=>⟨J2.good ms pm JG,J2.odd ms pm JG,fun ew H16 kvw PU e16 hew Jb hdw Hd=>?_⟩⟩
  have Hd:=Hd.rows (J2.same ms pm JG PU Jb)
  have Hd:=Hd.rows KG
  refine⟨_,rfl,_,rfl,(by show 2<=sizeLine;decide),fun T1 H17 Z6 h17 Ti=>⟨_,rfl,(by show 0<=sizeLine;decide),fun le H18 WI h18 hle=>⟨(by show 2<=sizeLine;decide),fun T2 H19 Tz h19 Kv=>⟨(by show 2<=sizeLine;decide),fun L Hb RK h20 hL=>?_⟩⟩⟩⟩
  have WB:=(((e16.trans Z6).trans WI).trans Tz).trans RK
  have Z2:=((Z6.trans WI).trans Tz).trans RK
  have Pc:=Jy.trans WB
  have Lo:=Po.Cn (sT WB)
  have Pn:=Hd.Cn (sT Z2)
  have Gw:=WB _ _ hd5
  have hdv:=Z2 _ _ hdw
  have We:=RK _ _ (Tz _ _ (WI _ _ Ti))
  have Wd:=RK _ _ Kv
  have JV:=RK _ _ (Tz _ _ hle)
  have two:∀ (i:Nat) v,[V.ref T1,V.ref T2][i]?=some v->∃ (T e' Qr:Addr)(ES:List (Key×V))(fo:Option (List Int))(NZ:List Int)(Hx:Hp),v=.ref T/\Hb T=some (.tup [.ref e',.ref Qr])/\Hb e'=some (.dK ES)/\BZ S p rows fo many Hx Hb ES S.DO/\Hb Qr=some (.lst (NZ.map V.int))/\NZ.length<=12/\∀ k,gj (some NZ) k=gj fo k:=by
   intro i v h
   match i,h with
   | 0,h=>exact⟨T1,e,lf,kvs,some fs,fs,H0,(Option.some.inj h).symm,We,Gw,Lo,Pc _ _ XD,fz,fun _=>rfl⟩
   | 1,h=>exact⟨T2,ew,le,kvw,none,[],_,(Option.some.inj h).symm,Wd,hdv,Pn,JV,yR _,fun k=>by unfold gj;exact yq (fun z=>yB z)⟩
   | i+2,h=>cases h
  have tb:=t0.same Pc
  have Nb:=N0.mono Pc
  have Ze:=TS0.mono Pc
  have ZW:=Xi.mono Pc
  refine⟨L,rfl,⟨_,B'.of hL⟩,bC (K:=K) (xs:=[V.ref T1,V.ref T2]) (fun i σ G=>(∃ Fq SI SH OH OG,σ=[some (.ref a),some (.int c1),some (.int c2),some (.int c3),some (.ref n),some (.ref lt),some (.int (many:Int)),some (.int p),some (.ref d),some (.ref lf),some (.ref hh),some (.ref e),some (.ref ew),Fq,SI,SH,OH,OG,none])/\CK Hb G/\TabAt P2 OM OL G)
   ⟨⟨none,none,none,none,none,rfl⟩,sT (f'.refl _),tb⟩ (fun i σ G _ h=>B'.of (h.2.1 _ _ (fun _ z=>nomatch z) hL)) ?_ ?_⟩
  ·rintro i v σ G ev ⟨⟨Fq,SI,SH,OH,OG,rfl⟩,kG,tG⟩
   obtain⟨T',e',Qr,ES,fo,NZ,Hx,rfl,Ry,NJ,Pp,VM,a1o,hfe⟩:=two i v ev
   have kl:∀ {G:Hp},CK Hb G->∀ {b:Addr}{xs:List V},Hb b=some (.lst xs)->G b=some (.lst xs):=fun k _ _ h=>k _ _ (fun _ z=>nomatch z) h
   refine⟨T',_,rfl,CT.of (kG _ _ (fun _ z=>nomatch z) Ry),rfl,_,_,rfl,_,_,rfl,rfl,?_⟩
   have TSG:Dd G lt R:=by
    obtain⟨xs,h1,h2⟩:=Ze
    exact⟨xs,kl kG h1,Paired.Cp h2 fun _ _ h=>h.Cn kG⟩
   refine⟨_,rfl,_,rfl,_,rfl,_,rfl,_,rfl,_,rfl,n,dp,dt,lt,d,Qr,S,R,rows,many,p,NZ,rfl,Nb.Cn kG,TSG,Ha.ln,hR,ZW.Cn kG,pr,Fh,OR,m4,kl kG VM,by omega,tG,fun er G2 rs Uq ZF her ZV ZU V4=>?_⟩
   have k2:=kG.trans (Sx Uq tG)
   have N2:=Nb.Cn k2
   obtain⟨dx2,OU⟩:=id N2.ins
   have V3:=V4.fo hfe
   refine⟨_,rfl,n,dx2,_,rfl,OU,rfl,n,dp,dt,S,rfl,N2,pz,fun ll G3 e3 h3 Gs=>⟨ll,rfl,⟨_,B'.of Gs⟩,bC (K:=K) (xs:=S.DO.map V.str) (fun i σ G=>(∃ OH OG,σ=[some (.ref a),some (.int c1),some (.int c2),some (.int c3),some (.ref n),some (.ref lt),some (.int (many:Int)),some (.int p),some (.ref d),some (.ref lf),some (.ref hh),some (.ref e),some (.ref ew),some (.ref e'),some (.ref Qr),some (.ref er),OH,OG,none])/\f' G3 G) ⟨⟨_,_,rfl⟩,f'.refl _⟩ (fun i σ G _ h=>B'.of (h.2 _ _ Gs)) ?_ ?_⟩⟩
   ·rintro j v σ G4 O3 ⟨⟨UL,UK,rfl⟩,e4⟩
    obtain⟨g,eg,rfl⟩:=j8 O3
    have gm:=yj eg
    have k4:CK Hb G4:=(k2.trans (sT e3)).trans (sT e4)
    obtain⟨ts,HY,Kp⟩:=Ze
    have tl:=Paired.length Kp
    have Mv:=(ZV.mono e3).mono e4
    have rk:∀ r∈R,r.1∈rs.map (·.1):=fun r hr=>ZU.mem_iff.mpr (yO hr)
    refine⟨_,rfl,lt,rfl,⟨_,B'.of (kl k4 HY)⟩,eZ (keep:=fun i=>decide ((R.getD i (0,"","")).2.2=g)) (g:=fun i=>V.ref (adr rs (R.getD i (0,"","")).1)) (kl k4 HY) (by omega) (fun j v G5 ej e5=>?_) (fun lc' G5 h5 e5 Rg=>?_)⟩
    ·obtain⟨r,GX,b,rfl,hb⟩:=Paired.at Kp ej
     have gd:R.getD j (0,"","")=r:=by rw[yc,GX];rfl
     rw[gd]
     have NR:G5 b=some (.tup [.int r.1,.str r.2.1,.str r.2.2,.int (lv r.2.1)]):=e5 _ _ (k4 _ _ (fun _ z=>nomatch z) hb)
     refine⟨_,rfl,b,_,2,.str r.2.2,rfl,rfl,CT.of NR,rfl,_,rfl,rfl,_,rfl,?_⟩
     by_cases c:r.2.2=g
     ·rw[yo (show V.str r.2.2=V.str g by rw[c]),yo c]
      obtain⟨a1,_⟩:=Mv.adr (rk r (yj GX))
      exact cw ⟨_,rfl,_,rfl,b,_,0,.int r.1,rfl,rfl,CT.of NR,rfl,er,_,rfl,a1▸CQ.k (k:=Sum.inl r.1) (e5 _ _ Mv.dict),rfl,rfl,f'.refl _⟩
     ·rw[yq (show ¬ V.str r.2.2=V.str g from fun z=>c (by injection z)),yq c]
      exact ba ⟨rfl,f'.refl _⟩
    ·rw[tl]at Rg
     have k5:=k4.trans (sT e5)
     obtain⟨b,Rv,Jd,hj⟩:=(Pp.Cn k5).at g gm
     have tab:=wP Ha.ln V3 g
     rw[tab]at hj
     have sh:Mx.Sh p many ((aZ R g).map (bx rs)):=tab▸vc p0 _ _ _ _
     have di:=hj.right hP sh
     refine⟨_,rfl,_,rfl,e',_,rfl,Rv▸CQ.k (k:=Sum.inr g) (k5 _ _ (fun _ z=>nomatch z) NJ),_,rfl,_,rfl,_,rfl,b,lc',p,many,_,_,rfl,Fh,OR,by omega,Rg,xS (Mv.mono e5) rk,fun r hr=>⟨sh.Fe r hr,sh.fit r hr⟩,?_,?_,fun G6 e6=>⟨_,rfl,ba ⟨⟨_,_,rfl⟩,(e4.trans e5).trans e6⟩⟩⟩
     ·rw[y6]
      unfold aZ
      rw[y6]
      exact yV (zj _ _) (by omega)
     ·rcases di with⟨l,Rr,d1,⟨_,xs,d2,d3⟩,d4⟩|⟨l0,l1,vv,d1,_,_,_,d2,d3,d4⟩
      ·exact .inl ⟨l,Rr,xs,d1,d2,Paired.Cp d3 fun _ _ h=>h.rw,d4⟩
      ·exact .inr ⟨l0,l1,vv,d1,d2,d3,d4⟩
   ·rintro σ G4 ⟨⟨UL,UK,rfl⟩,e4⟩
    exact⟨⟨_,_,_,_,_,rfl⟩,(k2.trans (sT e3)).trans (sT e4),(ZF.same e3).same e4⟩
  rintro σ Hk ⟨⟨Fq,SI,SH,OH,OG,rfl⟩,kk,tk⟩
  have nt:∀ {xs:List V} (ps:Array Value),HO.tup xs≠HO.tbl ps:=fun _ z=>nomatch z
  have nl:∀ {xs:List V} (ps:Array Value),HO.lst xs≠HO.tbl ps:=fun _ z=>nomatch z
  have nk:∀ {xs:List (Key×V)} (ps:Array Value),HO.dK xs≠HO.tbl ps:=fun _ z=>nomatch z
  have ON:CK H0 Hk:=(sT Pc).trans kk
  have Yu:=ON _ _ nt OW
  have Lm:=Lo.Cn kk
  have Ro:=kk _ _ nk Gw
  have J3:=eU (N0.Cn ON) Ha hR (S4.Cn ON) pw m4
  refine⟨_,rfl,_,rfl,hh,_,0,.ref dd,rfl,rfl,CT.of Yu,rfl,_,rfl,_,rfl,_,rfl,hh,_,1,.ref KJ,rfl,rfl,CT.of Yu,rfl,n,dd,dp,dt,S,ws,many,p,.ref KJ,some fs,rfl,J3.ask,N0.Cn ON,Ha.ln.fits,Ha.ln.EM,by omega,⟨KJ,rfl,ON _ _ nl SR⟩,(fun ks h=>by cases h;omega),J3.DO,OR,hP,fun ms pm JG=>⟨J3.good ms pm JG,J3.odd ms pm JG,fun ek Gk Qt PU eK hek Jb Yy Iv=>?_⟩⟩
  have Iv:=(Iv.rows (J3.same ms pm JG PU Jb)).rows KG
  refine⟨_,rfl,_,rfl,Iv.IF hP p0 ID Yy (eK _ _ Ro) (Lm.Cn (sT eK)),_,rfl,ba ?_⟩
  refine⟨_,rfl,e,kvs,rfl,eK _ _ Ro,fun ob Nn hN=>?_⟩
  refine ip (pr:=(·.2)) (o:=ob) (d:=e) (kvs:=kvs) (fun i σ G=>(∃ Fq,σ=[some (.ref a),some (.int c1),some (.int c2),some (.int c3),some (.ref n),some (.ref lt),some (.int (many:Int)),some (.int p),some (.ref d),some (.ref lf),some (.ref hh),some (.ref e),some (.ref ew),Fq,SI,SH,OH,OG,some (.ref ek)])/\G e=some (.frz ob (.dK kvs))/\∀ b u,b≠e->Gk b=some u->G b=some u\/∃ xs ys,u=HO.lst xs/\G b=some (.lst ys)/\H0 b=none/\Hk b≠none)
   ⟨⟨_,rfl⟩,a9,fun b u nb hb=>.inl (by rw[ae nb];exact hb)⟩ (fun i σ G _ h=>h.2.1) ?_ ?_
  ·rintro i kv σ G ev ⟨⟨KI,rfl⟩,LO,cl⟩
   obtain⟨g,eg,hk1,bb,Ys,hbn,hj⟩:=Paired.at Lm ev
   obtain⟨l,xs,x0,rest,hb,BX,hl⟩:∃ (l:Addr)(xs:List V)(x0:V)(rest:List V),Hk bb=some (.tup (x0::.ref l::rest))/\H0 l=none/\Hk l=some (.lst xs):=by
    rcases hj with⟨l,h1,_,h0,xs,h2,_⟩|⟨l0,v,h1,_,h0,h2,_⟩
    ·exact⟨l,xs,_,[],h1,h0,h2⟩
    ·exact⟨l0,_,_,[v],h1,h0,h2⟩
   have Tf:G bb=some (.tup (x0::.ref l::rest)):=by
    rcases cl bb _ (aY hb Ro (fun z=>nomatch z)) (eK _ _ hb) with h|⟨_,_,z,_⟩
    ·exact h
    ·cases z
   have LB:l≠e:=aY hl Ro (fun z=>nomatch z)
   obtain⟨ys,Yp⟩:∃ ys,G l=some (.lst ys):=by
    rcases cl l _ LB (eK _ _ hl) with h|⟨_,ys,_,h,_⟩
    ·exact⟨_,h⟩
    ·exact⟨ys,h⟩
   rw[Ys]
   refine⟨_,rfl,bb,_,1,.ref l,rfl,rfl,CT.of Tf,(show GZ (x0::V.ref l::rest) ((1:Nat):Int)=some (V.ref l) from cz rfl),.inl ⟨rfl,_,B'.of Yp⟩,l,ys,rfl,rfl,Yp,⟨_,rfl⟩,?_,fun b u nb hu=>?_⟩
   ·rw[ae LB.symm];exact LO
   ·by_cases z:b=l
    ·subst z
     rw[eK _ _ hl]at hu
     cases hu
     exact .inr ⟨xs,[],rfl,a9,BX,by rw[hl];exact fun z=>nomatch z⟩
    ·rw[ae z];exact cl b u nb hu
  rintro σ G ⟨⟨KI,rfl⟩,LO,cl⟩
  refine⟨e,ob,kvs,hN,LO,?_⟩
  have CL:Clr H0 Hk Gk (upd G e (.dK kvs)):=fun b u hb=>by
   by_cases z:b=e
   ·subst z
    rw[eK _ _ Ro]at hb
    cases hb
    exact .inl a9
   ·rw[ae z];exact cl b u z hb
  generalize upd G e (.dK kvs)=G9 at CL
  have OO:CK H0 G9:=fun b u hu hb=>by
   rcases CL b u (eK _ _ (ON _ _ hu hb)) with h|⟨_,_,_,_,z,_⟩
   ·exact h
   ·rw[hb]at z;cases z
  have Ma:=Iv.II (G':=G9) fun b u OY _ hbo=>(CL b u hbo).resolve_right fun j'=>by obtain⟨_,_,_,_,_,z⟩:=j';exact z OY
  have W0:G9 ek=some (.dK Qt):=by
   rcases CL ek _ Yy with h|⟨_,_,z,_⟩
   ·exact h
   ·cases z
  have Yv:=OO _ _ nt OW
  have J4:=eU (N0.Cn OO) Ha hR (S4.Cn OO) pw m4
  refine⟨_,rfl,_,rfl,hh,_,0,.ref dd,rfl,rfl,CT.of Yv,rfl,_,rfl,_,rfl,_,rfl,hh,_,1,.ref KJ,rfl,rfl,CT.of Yv,rfl,n,dd,dp,dt,S,ws,many,p,.ref KJ,some fs,rfl,J4.ask,N0.Cn OO,Ha.ln.fits,Ha.ln.EM,by omega,⟨KJ,rfl,OO _ _ nl SR⟩,(fun ks h=>by cases h;omega),J4.DO,OR,hP,fun UU OF SD=>⟨J4.good UU OF SD,J4.odd UU OF SD,fun el Hl kvl Us eL hel Vv VZ JD=>?_⟩⟩
  have JD:=(JD.rows (J4.same UU OF SD Us Vv)).rows KG
  refine⟨_,rfl,JD.IF hP p0 ID VZ (eL _ _ W0) (Ma.Cn (sT eL)),_,rfl,cw ?_⟩
  exact⟨_,rfl,_,rfl,_,rfl,(by show 2<=sizeLine;decide),fun T3 H22 e22 h22 P0=>⟨lk (OO.trans (sT (eL.trans e22))) T3 P0,q _⟩⟩
end K51
namespace K51
open PySem L2
section
variable {P : Program}{w : World}{K : PySem.W.Frag}{mg : Str -> Option Value}{base h : Heap}
noncomputable def OA (K:PySem.W.Frag)(C:Addr)(qual:Str)(st:Stmt):Prop:=∃ f fd,Mk K C f/\Cu K "__init__" qual st f fd
theorem in0_mk {C:Addr}{qual:Str}{st:Stmt}{f:Addr}{oc:Value}{od an:Option Addr}{DS:Array (Option Value)}{kV doc pm BJ ct:Value} (mk:PySem.W.makesIn K C=true) (a:PySem.W.findIn K (.ref C) "__init__"=some (some (.ref f))) (i:PySem.W.isFn K (.ref f)=true) (kc:PySem.W.keepIn K (.ref C)=true)
  (l:K.lookup f=some ⟨oc,od,.func (PySem.W.fnOf "__init__" qual (bf st) (aR st) (af st) .none kV doc pm an BJ ct),DS⟩)
  (c:PySem.W.codeIn K BJ qual=true) (k:PySem.W.keepIn K (.ref f)=true):OA K C qual st:=⟨f,_,⟨mk,a,i,kc⟩,oz l c k⟩
noncomputable def Ox (K:PySem.W.Frag)(C:Addr)(m qual:Str)(st:Stmt):Prop:=∃ (f T:Addr)(t:Tok)(kV doc pm:Value)(an:Option Addr)(BJ ct:Value)(oc:Value)(od:Option Addr)(DS:Array (Option Value))(tc:Value)(td:Option Addr)(n:Nat)(Iu:Array (Option Value)),sI K C m f/\
 K.lookup f=some ⟨oc,od,.func (PySem.W.fnOf m qual (bf st) (aR st) (af st) (.ref T) kV doc pm an BJ ct),DS⟩/\PySem.W.codeIn K BJ qual=true/\PySem.W.keepIn K (.ref f)=true/\K.lookup T=some ⟨tc,td,.seq #[.int 1 t] n,Iu⟩
theorem meD0_mk {C:Addr}{m qual:Str}{st:Stmt}{f T:Addr}{t:Tok}{oc tc:Value}{od an td:Option Addr}{DS Iu:Array (Option Value)}{n:Nat}{kV doc pm BJ ct:Value} (a:PySem.W.findIn K (.ref C) m=some (some (.ref f))) (i:PySem.W.isFn K (.ref f)=true)
  (l:K.lookup f=some ⟨oc,od,.func (PySem.W.fnOf m qual (bf st) (aR st) (af st) (.ref T) kV doc pm an BJ ct),DS⟩)
  (c:PySem.W.codeIn K BJ qual=true) (k:PySem.W.keepIn K (.ref f)=true) (d:K.lookup T=some ⟨tc,td,.seq #[.int 1 t] n,Iu⟩):Ox K C m qual st:=⟨f,T,t,kV,doc,pm,an,BJ,ct,oc,od,DS,tc,td,n,Iu,⟨a,i,k⟩,l,c,k,d⟩
theorem vT {C:Addr}{x qual:Str}{st:Stmt}{ps:List Str}{sp:Sp}{k:Nat} (F:Ox K C x qual st) (cl:F8 K C)
  (hb:∀ (T:Addr)(t:Tok)(kV doc pm:Value)(an:Option Addr)(BJ ct:Value)(us:List Value),us.length+1=ps.length->∃ kk,bindArgs (PySem.W.fnOf x qual (bf st) (aR st) (af st) (.ref T) kV doc pm an BJ ct) ⟨us,[]⟩=seqItems? (.ref T) >>= kk/\kk (some #[.int 1 t])=pure (ps.zip (us++[.int 1 t])))
  (ok:∀ f fd,F0 K x qual st f fd->BF P w K mg base Co k f fd ps sp):U1 P w K mg base k C x ps [.int 1] sp:=by
 obtain⟨f,T,t,kV,doc,pm,an,BJ,ct,oc,od,DS,tc,td,n,Iu,m,l,c,kp,d⟩:=F
 refine⟨f,_,[.int 1 t],cl,m,fun s us Gu hl=>?_,.cons ⟨t,rfl⟩ .nil,ok f _ ⟨⟨oc,od,.ref T,kV,doc,pm,an,BJ,ct,DS,rfl,l,c⟩,kp⟩⟩
 obtain⟨kk,h1,h2⟩:=hb T t kV doc pm an BJ ct us (by rw[yI]at hl;exact hl)
 exact BindsTo.of_defaults rfl (Gu _ _ d) rfl h1 h2
noncomputable def wJ (K:PySem.W.Frag)(x qual:Str)(st:Stmt):Prop:=∃ (f T:Addr)(kV doc pm:Value)(an:Option Addr)(BJ ct:Value)(oc:Value)(od:Option Addr)(DS:Array (Option Value))(tc:Value)(td:Option Addr)(n:Nat)(Iu:Array (Option Value)),PySem.W.nsIn K mainGlobals x=some (some (.ref f))/\
 K.lookup f=some ⟨oc,od,.func (PySem.W.fnOf x qual (bf st) (aR st) (af st) (.ref T) kV doc pm an BJ ct),DS⟩/\PySem.W.codeIn K BJ qual=true/\PySem.W.keepIn K (.ref f)=true/\K.lookup T=some ⟨tc,td,.seq #[.none] n,Iu⟩
theorem fnD0_mk {x qual:Str}{st:Stmt}{f T:Addr}{oc tc:Value}{od an td:Option Addr}{DS Iu:Array (Option Value)}{n:Nat}{kV doc pm BJ ct:Value} (a:PySem.W.nsIn K mainGlobals x=some (some (.ref f)))
  (l:K.lookup f=some ⟨oc,od,.func (PySem.W.fnOf x qual (bf st) (aR st) (af st) (.ref T) kV doc pm an BJ ct),DS⟩)
  (c:PySem.W.codeIn K BJ qual=true) (k:PySem.W.keepIn K (.ref f)=true) (d:K.lookup T=some ⟨tc,td,.seq #[.none] n,Iu⟩):wJ K x qual st:=⟨f,T,kV,doc,pm,an,BJ,ct,oc,od,DS,tc,td,n,Iu,a,l,c,k,d⟩
theorem tE {x qual:Str}{st:Stmt}{ps:List Str}{sp:Sp}{k:Nat} (F:wJ K x qual st) (X:K.In h) (G:h.Ns mainGlobals mg)
  (hb:∀ (T:Addr)(kV doc pm:Value)(an:Option Addr)(BJ ct:Value)(us:List Value),us.length=ps.length->∃ kk,bindArgs (PySem.W.fnOf x qual (bf st) (aR st) (af st) (.ref T) kV doc pm an BJ ct) ⟨us,[]⟩=seqItems? (.ref T) >>= kk/\kk (some #[.none])=pure (ps.zip us))
  (ok:∀ f fd,F0 K x qual st f fd->BF P w K mg base Co k f fd ps sp):Df P w K mg base k x ps sp:=by
 obtain⟨f,T,kV,doc,pm,an,BJ,ct,oc,od,DS,tc,td,n,Iu,a,l,c,kp,d⟩:=F
 refine⟨f,_,zM X G a,kp,fun s us Gu hl=>?_,ok f _ ⟨⟨oc,od,.ref T,kV,doc,pm,an,BJ,ct,DS,rfl,l,c⟩,kp⟩⟩
 rw[AB]at hl ⊢
 obtain⟨kk,h1,h2⟩:=hb T kV doc pm an BJ ct us hl
 exact BindsTo.of_defaults rfl (Gu _ _ d) rfl h1 h2
theorem wm {x qual:Str}{st:Stmt}{ps:List Str}{sp:Sp}{k:Nat} (F:wJ K x qual st) (X:K.In h) (G:h.Ns mainGlobals mg)
  (hb:∀ (T:Addr)(kV doc pm:Value)(an:Option Addr)(BJ ct:Value)(us:List Value),us.length+1=ps.length->∃ kk,bindArgs (PySem.W.fnOf x qual (bf st) (aR st) (af st) (.ref T) kV doc pm an BJ ct) ⟨us,[]⟩=seqItems? (.ref T) >>= kk/\kk (some #[.none])=pure (ps.zip (us++[.none])))
  (ok:∀ f fd,F0 K x qual st f fd->BF P w K mg base Co k f fd ps sp):U2 P w K mg base k x ps [.non] sp:=by
 obtain⟨f,T,kV,doc,pm,an,BJ,ct,oc,od,DS,tc,td,n,Iu,a,l,c,kp,d⟩:=F
 refine⟨f,_,[.none],zM X G a,kp,fun s us Gu hl=>?_,.cons rfl .nil,ok f _ ⟨⟨oc,od,.ref T,kV,doc,pm,an,BJ,ct,DS,rfl,l,c⟩,kp⟩⟩
 obtain⟨kk,h1,h2⟩:=hb T kV doc pm an BJ ct us (by rw[yI]at hl;exact hl)
 exact BindsTo.of_defaults rfl (Gu _ _ d) rfl h1 h2
noncomputable def xY (K:PySem.W.Frag)(x qual:Str)(st:Stmt)(c Pt:Addr):Prop:=∃ f fd,PySem.W.nsIn K mainGlobals x=some (some (.ref f))/\Cu K x qual st f fd/\fd.code=.ref c/\PySem.W.tabIn K x=some (c,Pt)
theorem fnL0_mk {x qual:Str}{st:Stmt}{f c Pt:Addr}{oc uc:Value}{od an ud:Option Addr}{DS Zu:Array (Option Value)}{X5:Array Value}{kV doc pm ct:Value} (a:PySem.W.nsIn K mainGlobals x=some (some (.ref f)))
  (l:K.lookup f=some ⟨oc,od,.func (PySem.W.fnOf x qual (bf st) (aR st) (af st) .none kV doc pm an (.ref c) ct),DS⟩)
  (cc:PySem.W.codeIn K (.ref c) qual=true) (k:PySem.W.keepIn K (.ref f)=true) (u:K.lookup c=some ⟨uc,ud,.fields X5,Zu⟩) (v:X5[11]?=some (.ref Pt)):xY K x qual st c Pt:=by
 refine⟨f,_,a,oz l cc k,rfl,?_⟩
 unfold PySem.W.tabIn
 rw[a]
 dsimp only
 rw[l]
 show (match K.lookup c with
    | some ⟨_,_,.fields vs,_⟩=>(match (vs[11]?:Option Value) with
     | some (.ref P)=>some (c,P)
     | _=>none)
    | _=>none)=some (c,Pt)
 rw[u]
 dsimp only
 rw[v]
theorem tD {x qual:Str}{st:Stmt}{ps:List Str}{sp:Sp}{k:Nat}{c Pt:Addr} (F:xY K x qual st c Pt) (X:K.In h) (G:h.Ns mainGlobals mg) (bm:Bm mg base) (hc:PySem.W.CodeHd base c Pt)
  (hb:∀ (kV doc pm:Value)(an:Option Addr)(BJ ct:Value)(us:List Value),us.length=ps.length->bindArgs (PySem.W.fnOf x qual (bf st) (aR st) (af st) .none kV doc pm an BJ ct) ⟨us,[]⟩=pure (ps.zip us))
  (ok:∀ f fd,Cu K x qual st f fd->xW mg base fd Pt->BF P w K mg base Co k f fd ps sp):Df P w K mg base k x ps sp:=by
 obtain⟨f,fd,a,F,e,_⟩:=F
 exact⟨f,fd,zM X G a,F.kp,F.binds hb,ok f fd F ⟨⟨c,e,hc⟩,bm⟩⟩
@[elab_as_elim] theorem len1 {α:Type}{P:List α->Prop}:∀ (us:List α),us.length=1->(∀ a,P [a])->P us
 | [_],_,f=>f _
@[elab_as_elim] theorem xK {α:Type}{P:List α->Prop}:∀ (us:List α),us.length=2->(∀ a b,P [a,b])->P us
 | [_,_],_,f=>f _ _
@[elab_as_elim] theorem xJ {α:Type}{P:List α->Prop}:∀ (us:List α),us.length=3->(∀ a b c,P [a,b,c])->P us
 | [_,_,_],_,f=>f _ _ _
@[elab_as_elim] theorem xI {α:Type}{P:List α->Prop}:∀ (us:List α),us.length=4->(∀ a b c d,P [a,b,c,d])->P us
 | [_,_,_,_],_,f=>f _ _ _ _
@[elab_as_elim] theorem vV {α:Type}{P:List α->Prop}:∀ (us:List α),us.length=5->(∀ a b c d e,P [a,b,c,d,e])->P us
 | [_,_,_,_,_],_,f=>f _ _ _ _ _
@[elab_as_elim] theorem xH {α:Type}{P:List α->Prop}:∀ (us:List α),us.length=6->(∀ a b c d e f,P [a,b,c,d,e,f])->P us
 | [_,_,_,_,_,_],_,f=>f _ _ _ _ _ _
theorem O1 (X:K.In h)(G:h.Ns mainGlobals mg){x qual:Str}{st:Stmt}{ps:List Str}{sp:Sp}{k:Nat} (F:DG K x qual st) (ok:∀ f fd,Cu K x qual st f fd->BF P w K mg base Co k f fd ps sp) (hb:∀ (kV doc pm:Value)(an:Option Addr)(BJ ct:Value)(us:List Value),us.length=ps.length->bindArgs (PySem.W.fnOf x qual (bf st) (aR st) (af st) .none kV doc pm an BJ ct) ⟨us,[]⟩=pure (ps.zip us):=by intro _ _ _ _ _ _ us hl;first|exact len1 us hl fun _=>rfl|exact xK us hl fun _ _=>rfl|exact xJ us hl fun _ _ _=>rfl|exact xI us hl fun _ _ _ _=>rfl|exact vV us hl fun _ _ _ _ _=>rfl|exact xH us hl fun _ _ _ _ _ _=>rfl):Df P w K mg base k x ps sp:=by
 obtain⟨f,fd,a,F⟩:=F
 exact⟨f,fd,zM X G a,F.kp,F.binds hb,ok f fd F⟩
theorem MZ {C:Addr}{x qual:Str}{st:Stmt}{ps:List Str}{sp:Sp}{k:Nat} (F:Fm K C x qual st) (cl:F8 K C) (ok:∀ f fd,Cu K x qual st f fd->BF P w K mg base Co k f fd ps sp) (hb:∀ (kV doc pm:Value)(an:Option Addr)(BJ ct:Value)(us:List Value),us.length=ps.length->bindArgs (PySem.W.fnOf x qual (bf st) (aR st) (af st) .none kV doc pm an BJ ct) ⟨us,[]⟩=pure (ps.zip us):=by intro _ _ _ _ _ _ us hl;first|exact len1 us hl fun _=>rfl|exact xK us hl fun _ _=>rfl|exact xJ us hl fun _ _ _=>rfl|exact xI us hl fun _ _ _ _=>rfl|exact vV us hl fun _ _ _ _ _=>rfl|exact xH us hl fun _ _ _ _ _ _=>rfl):Dm P w K mg base k C x ps sp:=by
 obtain⟨f,fd,m,F⟩:=F
 exact⟨f,fd,cl,m,F.binds hb,ok f fd F⟩
theorem Nm (X:K.In h)(G:h.Ns mainGlobals mg){C:Addr}{x qual:Str}{st:Stmt}{ps:List Str}{sp:Sp}{k:Nat} (F:OA K C qual st) (aC:PySem.W.nsIn K mainGlobals x=some (some (.ref C))) (ok:∀ f fd,Cu K "__init__" qual st f fd->BF P w K mg base Co k f fd ps sp) (hb:∀ (kV doc pm:Value)(an:Option Addr)(BJ ct:Value)(us:List Value),us.length=ps.length->bindArgs (PySem.W.fnOf "__init__" qual (bf st) (aR st) (af st) .none kV doc pm an BJ ct) ⟨us,[]⟩=pure (ps.zip us):=by intro _ _ _ _ _ _ us hl;first|exact len1 us hl fun _=>rfl|exact xK us hl fun _ _=>rfl|exact xJ us hl fun _ _ _=>rfl|exact xI us hl fun _ _ _ _=>rfl|exact vV us hl fun _ _ _ _ _=>rfl|exact xH us hl fun _ _ _ _ _ _=>rfl):Dk P w K mg base k x C ps sp:=by
 obtain⟨f,fd,m,F⟩:=F
 exact⟨f,fd,zM X G aC,m,F.binds hb,ok f fd F⟩
end
theorem all_mk {l:PySem.W.OpenLaw}{w:World}{K:PySem.W.Frag}{h:Heap}{mg:Str->Option Value}{fa CN CP CH CL CF:Addr}{c1 P1 c2 P2:Addr}{J0 Ft GC EN Hf Ff EO:Tok} (X:K.In h) (G:h.Ns mainGlobals mg) (hfa:mg "law"=some (.ref fa))
  (aCN:PySem.W.nsIn K mainGlobals "Net"=some (some (.ref CN)))
  (aCP:PySem.W.nsIn K mainGlobals "Post"=some (some (.ref CP)))
  (aCH:PySem.W.nsIn K mainGlobals "House"=some (some (.ref CH)))
  (aCL:PySem.W.nsIn K mainGlobals "Listener"=some (some (.ref CL)))
  (aCF:PySem.W.nsIn K mainGlobals "Field"=some (some (.ref CF)))
  (pgCN:PySem.W.plainGet K CN Str.empty=true)
  (hdCN:PySem.W.hasDictIn K CN=true)
  (poCN:PySem.W.plainOver K CN=true)
  (saCN:PySem.W.findIn K (.ref CN) "__setattr__"=some (some (.builtin "object.__setattr__")))
  (pgCP:PySem.W.plainGet K CP Str.empty=true)
  (hdCP:PySem.W.hasDictIn K CP=true)
  (poCP:PySem.W.plainOver K CP=true)
  (saCP:PySem.W.findIn K (.ref CP) "__setattr__"=some (some (.builtin "object.__setattr__")))
  (pgCH:PySem.W.plainGet K CH Str.empty=true)
  (hdCH:PySem.W.hasDictIn K CH=true)
  (poCH:PySem.W.plainOver K CH=true)
  (saCH:PySem.W.findIn K (.ref CH) "__setattr__"=some (some (.builtin "object.__setattr__")))
  (pgCL:PySem.W.plainGet K CL Str.empty=true)
  (hdCL:PySem.W.hasDictIn K CL=true)
  (poCL:PySem.W.plainOver K CL=true)
  (saCL:PySem.W.findIn K (.ref CL) "__setattr__"=some (some (.builtin "object.__setattr__")))
  (pgCF:PySem.W.plainGet K CF Str.empty=true)
  (hdCF:PySem.W.hasDictIn K CF=true)
  (poCF:PySem.W.plainOver K CF=true)
  (saCF:PySem.W.findIn K (.ref CF) "__setattr__"=some (some (.builtin "object.__setattr__")))
  (nCN_kept_posts:PySem.W.findIn K (.ref CN) "kept_posts"=some none)
  (nCN_kept_ties:PySem.W.findIn K (.ref CN) "kept_ties"=some none)
  (nCN_next_number:PySem.W.findIn K (.ref CN) "next_number"=some none)
  (nCP_name:PySem.W.findIn K (.ref CP) "name"=some none)
  (nCH_name:PySem.W.findIn K (.ref CH) "name"=some none)
  (nCL_name:PySem.W.findIn K (.ref CL) "name"=some none)
  (nCF_prime:PySem.W.findIn K (.ref CF) "prime"=some none)
  (g_LETTERS:PySem.W.nsIn K mainGlobals "LETTERS"=some (some (.str "abcdefghijklmnopqrstuvwxyz" J0)))
  (g_LONGEST_NAME:PySem.W.nsIn K mainGlobals "LONGEST_NAME"=some (some (.int 8 Ft)))
  (g_MOST_POSTS:PySem.W.nsIn K mainGlobals "MOST_POSTS"=some (some (.int 20 GC)))
  (g_MOST_LISTENERS:PySem.W.nsIn K mainGlobals "MOST_LISTENERS"=some (some (.int 8 EN)))
  (g_MOST_TIES:PySem.W.nsIn K mainGlobals "MOST_TIES"=some (some (.int 40 Hf)))
  (g_LONGEST_DELAY:PySem.W.nsIn K mainGlobals "LONGEST_DELAY"=some (some (.int 99 Ff)))
  (g_GREATEST_PRIME:PySem.W.nsIn K mainGlobals "GREATEST_PRIME"=some (some (.int 1000000 EO)))
  (k_str_str:PySem.W.kitOne K (.type "str") (.type "str")=some true)
  (k_int_int:PySem.W.kitOne K (.type "int") (.type "int")=some true)
  (k_int_bool:PySem.W.kitOne K (.type "int") (.type "bool")=some false)
  (k_dict_dict:PySem.W.kitOne K (.type "dict") (.type "dict")=some true)
  (k_list_list:PySem.W.kitOne K (.type "list") (.type "list")=some true)
  (k_tuple_tuple:PySem.W.kitOne K (.type "tuple") (.type "tuple")=some true)
  (ne_ph:CP≠CH)
  (ne_pl:CP≠CL)
  (ne_hl:CH≠CL)
  (z_len:PySem.W.nsIn K mainGlobals "len"=some none)
  (z_isinstance:PySem.W.nsIn K mainGlobals "isinstance"=some none)
  (z_str:PySem.W.nsIn K mainGlobals "str"=some none)
  (z_all:PySem.W.nsIn K mainGlobals "all"=some none)
  (z_list:PySem.W.nsIn K mainGlobals "list"=some none)
  (z_int:PySem.W.nsIn K mainGlobals "int"=some none)
  (z_bool:PySem.W.nsIn K mainGlobals "bool"=some none)
  (z_enumerate:PySem.W.nsIn K mainGlobals "enumerate"=some none)
  (z_range:PySem.W.nsIn K mainGlobals "range"=some none)
  (z_min:PySem.W.nsIn K mainGlobals "min"=some none)
  (z_max:PySem.W.nsIn K mainGlobals "max"=some none)
  (z_dict:PySem.W.nsIn K mainGlobals "dict"=some none)
  (z_sorted:PySem.W.nsIn K mainGlobals "sorted"=some none)
  (z_zip:PySem.W.nsIn K mainGlobals "zip"=some none)
  (z_sum:PySem.W.nsIn K mainGlobals "sum"=some none)
  (z_tuple:PySem.W.nsIn K mainGlobals "tuple"=some none)
  (z_any:PySem.W.nsIn K mainGlobals "any"=some none)
  (z_set:PySem.W.nsIn K mainGlobals "set"=some none)
  (f0:DG K "is_name" "is_name" iM)
  (f1:Fm K CP "reads" "Post.reads" cV)
  (f2:Fm K CH "reads" "Post.reads" cV)
  (f3:Fm K CL "reads" "Listener.reads" cF)
  (f4:Fm K CP "hears" "Post.hears" cW)
  (f5:Fm K CH "hears" "House.hears" dF)
  (f6:Fm K CL "hears" "Post.hears" cW)
  (f7:OA K CP "Post.__init__" bK)
  (f8:OA K CH "Post.__init__" bK)
  (f9:OA K CL "Post.__init__" bK)
  (f10:OA K CN "Net.__init__" dh)
  (f11:Fm K CN "check_new_name" "Net.check_new_name" bT)
  (f12:Fm K CN "listeners" "Net.listeners" cL)
  (f13:Fm K CN "home" "Net.home" gI)
  (f14:Fm K CN "put_in" "Net.put_in" eE)
  (f15:Fm K CN "post" "Net.post" gG)
  (f16:Fm K CN "listener" "Net.listener" dg)
  (f17:Fm K CN "house" "Net.house" fF)
  (f18:DG K "is_whole" "is_whole" gC)
  (f19:DG K "is_delay" "is_delay" gE)
  (f20:Fm K CN "ties" "Net.ties" gF)
  (f21:DG K "led_to" "led_to" ky)
  (f22:Fm K CN "check_there" "Net.check_there" cq)
  (f23:Fm K CN "check_ends" "Net.check_ends" cE)
  (f24:Ox K CN "tie" "Net.tie" iP)
  (f25:Fm K CN "into" "Net.into" gH)
  (f26:Fm K CN "out_of" "Net.out_of" eF)
  (f27:DG K "first_ready" "first_ready" dC)
  (f28:Fm K CN "ordered" "Net.ordered" dE)
  (f29:DG K "mixing_ties" "mixing_ties" dA)
  (f30:DG K "by_number" "by_number" fE)
  (f31:DG K "wanted_lengths" "wanted_lengths" cD)
  (f32:DG K "is_number_of" "is_number_of" de)
  (f33:DG K "is_row_of" "is_row_of" fC)
  (f34:DG K "is_prime" "is_prime" gD)
  (f35:OA K CF "Field.__init__" rB)
  (f36:DG K "checked_plan" "checked_plan" df)
  (f37:Fm K CF "fit" "Field.fit" vj)
  (f38:Fm K CF "times" "Field.times" nM)
  (f39:Fm K CF "minus" "Field.minus" nN)
  (f40:Fm K CF "back" "Field.back" rD)
  (f41:DG K "row_sum" "row_sum" iK)
  (f42:DG K "column" "column" kD)
  (f43:DG K "ones_row" "ones_row" gB)
  (f44:DG K "ones" "ones" rA)
  (f45:DG K "coming_in" "coming_in" fD)
  (f46:DG K "flow" "flow" rC)
  (f47:wJ K "carried" "carried" iO)
  (f48:DG K "fitted_row" "fitted_row" eD)
  (f49:DG K "row_with" "row_with" gA)
  (f50:DG K "scaled" "scaled" kr)
  (f51:DG K "without" "without" iJ)
  (f52:DG K "cleared" "cleared" iN)
  (f53:DG K "reduced" "reduced" iL)
  (f54:DG K "first_place" "first_place" dD)
  (f55:DG K "lead_places" "lead_places" dB)
  (f56:DG K "reader" "reader" ku)
  (f57:DG K "nought" "nought" kx)
  (f58:DG K "judgement" "judgement" fB)
  (YS:wJ K "judged" "judged" kC)
  (f60:DG K "_law_cell_at" "_law_cell_at" gJ)
  (f61:DG K "_law_mix" "_law_mix" rF)
  (YR:xY K "_law_net" "_law_net" rE c1 P1)
  (f63:DG K "_law_plan" "_law_plan" nQ)
  (YQ:xY K "_law_rows" "_law_rows" nO c2 P2)
  (f65:DG K "_law_list" "_law_list" nR)
  (f66:DG K "_law_alike" "_law_alike" kH)
  (f67:DG K "_law_reads" "_law_reads" kF)
  (f68:DG K "_law_right" "_law_right" kE)
  (fl:DG K "law" "law" vi)
  (n1:K.lookup P1=none)
  (n2:K.lookup P2=none)
  (ne12:P1≠P2):
  ∃ (fd:FuncData)(c1 P1 c2 P2:Addr),(∀ (s:Shared)(v:Value),BindsTo s fd ⟨[v],[]⟩ [("_law_script",v)])/\PySem.W.tabIn K "_law_net"=some (c1,P1)/\PySem.W.tabIn K "_law_rows"=some (c2,P2)/\P1≠P2/\K.lookup P1=none/\K.lookup P2=none/\
   ∀ base:Heap,K.In base->base.Ns mainGlobals mg->Bm mg base->PySem.W.CodeHd base c1 P1->PySem.W.CodeHd base c2 P2->BF l.prog w K mg base Co 10 fa fd ["_law_script"] (nG K P1 P2):=by
 obtain⟨fL,fdL,aL,FL⟩:=fl
 have e:=hfa.symm.trans (zM X G aL)
 cases e
 have Er:F8 K CN:=⟨pgCN,hdCN,poCN,saCN⟩
 have Oa:F8 K CP:=⟨pgCP,hdCP,poCP,saCP⟩
 have Oc:F8 K CH:=⟨pgCH,hdCH,poCH,saCH⟩
 have Ob:F8 K CL:=⟨pgCL,hdCL,poCL,saCL⟩
 have Ig:F8 K CF:=⟨pgCF,hdCF,poCF,saCF⟩
 have O:Cl.Ok K ⟨CN,CP,CH,CL⟩:=⟨Er,Oa,Oc,Ob,nCN_kept_posts,nCN_kept_ties,nCN_next_number,nCP_name,nCH_name,nCL_name,ne_ph,ne_pl,ne_hl⟩
 have TL:Oi mg:=⟨yg X G z_len,yg X G z_isinstance,yg X G z_str,yg X G z_all,yg X G z_list⟩
 have TG:Ol mg:=⟨⟨_,zM X G g_LETTERS⟩,⟨_,zM X G g_LONGEST_NAME⟩,⟨_,zM X G g_MOST_POSTS⟩,⟨_,zM X G g_MOST_LISTENERS⟩⟩
 have TK:RY K:=⟨k_str_str⟩
 have TN:xU mg:=⟨yg X G z_isinstance,yg X G z_int,yg X G z_bool,yg X G z_len⟩
 have TH:Oj mg:=⟨⟨_,zM X G g_MOST_TIES⟩,⟨_,zM X G g_LONGEST_DELAY⟩⟩
 have TI:RZ K:=⟨k_int_int,k_int_bool⟩
 have TO:Oh mg:=⟨yg X G z_len,yg X G z_all,yg X G z_dict⟩
 have TB:Oo mg:=⟨yg X G z_dict,yg X G z_sorted⟩
 have TDd:S0 mg:=⟨yg X G z_dict,yg X G z_len⟩
 have Zi:Om K mg CF:=⟨Ig,nCF_prime,yg X G z_len,yg X G z_all⟩
 have TPp:RX K mg CF:=⟨Ig,nCF_prime,⟨_,zM X G g_GREATEST_PRIME⟩⟩
 have TC:S1 mg:=⟨yg X G z_dict,yg X G z_len,yg X G z_list,yg X G z_min⟩
 have Ot:Txt K mg CF:=⟨Ig,nCF_prime,yg X G z_range,yg X G z_zip,yg X G z_sum⟩
 have TM:sH mg:=⟨yg X G z_len,yg X G z_range,yg X G z_zip⟩
 have TA:wG mg:=⟨yg X G z_len,yg X G z_range,yg X G z_list,yg X G z_sorted,yg X G z_enumerate,yg X G z_isinstance,yg X G z_int,yg X G z_bool,yg X G z_tuple,yg X G z_all,yg X G z_any,yg X G z_set,yg X G z_min,yg X G z_max⟩
 have TR:RV mg:=⟨yg X G z_zip,yg X G z_range,yg X G z_list,yg X G z_sorted⟩
 have TJ:xV K:=⟨k_list_list,k_int_int,k_int_bool,k_tuple_tuple⟩
 have TS:wF mg:=⟨yg X G z_len,yg X G z_range,yg X G z_list,yg X G z_zip,yg X G z_sum,yg X G z_enumerate,yg X G z_isinstance,yg X G z_int,yg X G z_bool,yg X G z_tuple⟩
 have TQ:RW mg:=⟨yg X G z_list,yg X G z_dict,yg X G z_isinstance⟩
 have ZA:PySem.W.tabIn K _=some (c1,P1):=(let ⟨_,_,_,_,_,t⟩:=YR;t)
 have Zz:PySem.W.tabIn K _=some (c2,P2):=(let ⟨_,_,_,_,_,t⟩:=YQ;t)
 refine⟨fdL,c1,P1,c2,P2,fun s v=>?_,ZA,Zz,ne12,n1,n2,fun base _ _ bm LR GW=>?_⟩
 ·obtain⟨oc,od,kV,doc,pm,an,BJ,ct,DS,rfl,lk,G8⟩:=FL.ex
  exact .of_eq rfl
 ·
  have fq:=@O1 l.prog w K mg base h X G
  have mq:=@MZ l.prog w K mg base
  have iq:=@Nm l.prog w K mg base h X G
  have F5:=fq f0 fun f fd F=>rV F TL TG TK
  have Ou:Dm l.prog w K mg base 1 CP "reads" ["self"] (bW ⟨CN,CP,CH,CL⟩ CP):=mq f1 Oa fun f fd F=>(gl F).imp (fun vs H Q E h=>by unfold bW at h;rw[show decide ((CP:Addr)=(⟨CN,CP,CH,CL⟩:Cl).FC)=false from fG O .post]at h;exact h)
  have Lf:Dm l.prog w K mg base 1 CH "reads" ["self"] (bW ⟨CN,CP,CH,CL⟩ CH):=mq f2 Oc fun f fd F=>(gl F).imp (fun vs H Q E h=>by unfold bW at h;rw[show decide ((CH:Addr)=(⟨CN,CP,CH,CL⟩:Cl).FC)=false from fG O .house]at h;exact h)
  have Ij:Dm l.prog w K mg base 1 CL "reads" ["self"] (bW ⟨CN,CP,CH,CL⟩ CL):=mq f3 Ob fun f fd F=>(ik F).imp (fun vs H Q E h=>by unfold bW at h;rw[show decide ((CL:Addr)=(⟨CN,CP,CH,CL⟩:Cl).FC)=true from fG O .listener]at h;exact h)
  have OB:Dm l.prog w K mg base 1 CP "hears" ["self"] (bX ⟨CN,CP,CH,CL⟩ CP):=mq f4 Oa fun f fd F=>(gn F).imp (fun vs H Q E h=>by unfold bX at h;rw[show (!decide ((CP:Addr)=(⟨CN,CP,CH,CL⟩:Cl).house))=true from fV O .post]at h;exact h)
  have Lh:Dm l.prog w K mg base 1 CH "hears" ["self"] (bX ⟨CN,CP,CH,CL⟩ CH):=mq f5 Oc fun f fd F=>(lg F).imp (fun vs H Q E h=>by unfold bX at h;rw[show (!decide ((CH:Addr)=(⟨CN,CP,CH,CL⟩:Cl).house))=false from fV O .house]at h;exact h)
  have Im:Dm l.prog w K mg base 1 CL "hears" ["self"] (bX ⟨CN,CP,CH,CL⟩ CL):=mq f6 Ob fun f fd F=>(gn F).imp (fun vs H Q E h=>by unfold bX at h;rw[show (!decide ((CL:Addr)=(⟨CN,CP,CH,CL⟩:Cl).house))=true from fV O .listener]at h;exact h)
  have Iq:=iq f7 aCP fun f fd F=>eP F O
  have GR:=iq f8 aCH fun f fd F=>eP F O
  have Ez:=iq f9 aCL fun f fd F=>eP F O
  have Ki:=iq f10 aCN fun f fd F=>qe F O
  have Ef:∀ C,j9 (⟨CN,CP,CH,CL⟩:Cl) C->Dm l.prog w K mg base 1 C "reads" ["self"] (bW ⟨CN,CP,CH,CL⟩ C):=by
   rintro _ ⟨k,rfl⟩
   cases k with
   | house=>exact Lf
   | listener=>exact Ij
   | post=>exact Ou
  have Eg:∀ C,j9 (⟨CN,CP,CH,CL⟩:Cl) C->Dm l.prog w K mg base 1 C "hears" ["self"] (bX ⟨CN,CP,CH,CL⟩ C):=by
   rintro _ ⟨k,rfl⟩
   cases k with
   | house=>exact Lh
   | listener=>exact Im
   | post=>exact OB
  have BH:=mq f11 Er fun f fd F=>fj F O F5
  have BK:=mq f12 Er fun f fd F=>iX F O Ef
  have Cg:=mq f13 Er fun f fd F=>qf F O Eg
  have Cj:=mq f14 Er fun f fd F=>mj F O TL TG Ef BK
  have Ey:=mq f15 Er fun f fd F=>qc F O BH Cj Iq
  have Ds:=mq f16 Er fun f fd F=>jK F O BH Cj Ez
  have Ec:=mq f17 Er fun f fd F=>om F O BH Cj Cg GR
  have D3:=fq f18 fun f fd F=>pX F TN TI
  have Ew:=fq f19 fun f fd F=>pZ F TH D3
  have Cf:=mq f20 Er fun f fd F=>qa F O
  have FN:=fq f21 fun f fd F=>uA F TN
  have BI:=mq f22 Er fun f fd F=>gM F O
  have D4:=mq f23 Er fun f fd F=>ig F O Eg BI Cf FN
  have Ex:U1 l.prog w K mg base 3 CN "tie" ["self","one","other","delay"] [.int 1] (rj ⟨CN,CP,CH,CL⟩):=vT f24 Er (fun _ _ _ _ _ _ _ _ us hl=>xJ us (Nat.succ.inj hl) (fun _ _ _=>⟨_,rfl,rfl⟩)) (fun f fd F=>rY F O TN TH D4 Ew)
  have CO:=mq f25 Er fun f fd F=>qd F O BI Cf
  have DI:=mq f26 Er fun f fd F=>ml F O BI Cf
  have Dz:=fq f27 fun f fd F=>kZ F TO
  have DB:=mq f28 Er fun f fd F=>l8 F O TO Cf Dz
  have Cw:=fq f29 fun f fd F=>kX F O Cg DB CO DI
  have Cr:=fq f30 fun f fd F=>oj F TB
  have D1:=fq f31 fun f fd F=>ie F O TDd Cw Cr
  have Dr:=fq f32 fun f fd F=>jI F Zi D3
  have Ea:=fq f33 fun f fd F=>og F Zi Dr
  have Eu:=fq f34 fun f fd F=>pY F
  have D5:=iq f35 aCF fun f fd F=>xx F TPp Eu
  have CW:=fq f36 fun f fd F=>jJ F O TC D5 D1 Ea
  have BP:=mq f37 Ig fun f fd F=>MP F Ot
  have C':=mq f38 Ig fun f fd F=>vH F Ot BP
  have Cz:=mq f39 Ig fun f fd F=>vI F Ot BP
  have DK:=mq f40 Ig fun f fd F=>xz F Ot BP C'
  have F2:=fq f41 fun f fd F=>rT F Ot BP
  have FO:=fq f42 fun f fd F=>uB F
  have D2:=fq f43 fun f fd F=>pW F Ot
  have F3:=fq f44 fun f fd F=>xw F Ot D2
  have Eb:=fq f45 fun f fd F=>oh F
  have Ip:=fq f46 fun f fd F=>xy F F2 Eb Cr
  have Eh:Df l.prog w K mg base 5 "carried" ["net","plan","many","prime","fallen"] (gw ⟨CN,CP,CH,CL⟩):=tE f47 X G (fun _ _ _ _ _ _ _ us hl=>vV us hl (fun _ _ _ _ _=>⟨_,rfl,rfl⟩)) (fun f fd F=>rX F TB D5 Cw Ip F3 FO Cr)
  have DH:=fq f48 fun f fd F=>mi F BP
  have Et:=fq f49 fun f fd F=>pV F TM
  have FI:=fq f50 fun f fd F=>ux F C'
  have F1:=fq f51 fun f fd F=>rS F TM Cz C'
  have F6:=fq f52 fun f fd F=>rW F FI DK F1
  have Dj:=fq f53 fun f fd F=>rU F TM DH Et F6
  have DA:=fq f54 fun f fd F=>l6 F TM
  have Cy:=fq f55 fun f fd F=>kY F DA
  have FJ:=fq f56 fun f fd F=>uy F TM F3 Cy Dj
  have FK:=fq f57 fun f fd F=>uz F TM Cy Dj D2 Cz
  have Dw:=fq f58 fun f fd F=>o0 F FJ FK
  have E9:Df l.prog w K mg base 8 "judged" ["net","plan","many","prime","fallen"] (dS ⟨CN,CP,CH,CL⟩ CF):=tE YS X G (fun _ _ _ _ _ _ _ us hl=>vV us hl (fun _ _ _ _ _=>⟨_,rfl,rfl⟩)) (fun f fd F=>mT F CW D5 Eh BK CO Dw)
  have F4:U2 l.prog w K mg base 8 "judged" ["net","plan","many","prime","fallen"] [.non] (dS ⟨CN,CP,CH,CL⟩ CF):=wm YS X G (fun _ _ _ _ _ _ _ us hl=>xI us (Nat.succ.inj hl) (fun _ _ _ _=>⟨_,rfl,rfl⟩)) (fun f fd F=>mT F CW D5 Eh BK CO Dw)
  have Dt:=fq f60 fun f fd F=>qg F TA
  have CY:=fq f61 fun f fd F=>xB F TA
  have Ir:Df l.prog w K mg base 6 "_law_net" ["_law_first","_law_cells"] (nI ⟨CN,CP,CH,CL⟩ P1):=tD YR X G bm LR (fun _ _ _ _ _ _ us hl=>xK us hl (fun _ _=>rfl)) (fun f fd F L=>xA F L TA Ki CY Ec Ds Ey Ex)
  have GQ:=fq f63 fun f fd F=>vK F TA CY Cg (c:=⟨CN,CP,CH,CL⟩)
  have GP:Df l.prog w K mg base 5 "_law_rows" ["_law_net_here","_law_ties","_law_plan_here","_law_many","_law_prime","_law_fallen"] (kf ⟨CN,CP,CH,CL⟩ P2):=tD YQ X G bm GW (fun _ _ _ _ _ _ us hl=>xH us hl (fun _ _ _ _ _ _=>rfl)) (fun f fd F L=>vJ F L TR Cg)
  have DJ:=fq f65 fun f fd F=>vL F TS TJ
  have FR:=fq f66 fun f fd F=>uE F TS DJ
  have FQ:=fq f67 fun f fd F=>uD F TS TJ DJ
  have FP:=fq f68 fun f fd F=>uC F TS TJ FQ FR
  exact MO (c:=⟨CN,CP,CH,CL⟩) FL TQ k_dict_dict Dt CY Ir GQ GP FP E9 F4 BK
theorem walk {l:PySem.W.OpenLaw}{q:Program}{loose:List Str}{XP:(Str->Option Value)->Heap->Prop}{YP:World->Heap->Prop}{d:DefRec}{K:Params->PySem.W.Frag} (hn:l.most=some 63) (Rp:d.params.defaults=[])
  (hY:∀ (w:World)(h:Heap),YP w h->(K w.params).In h)
  (F:∀ (w:World)(mg:Str->Option Value)(fa:Addr)(h:Heap),(K w.params).In h->h.Ns mainGlobals mg->mg d.name=some (.ref fa)->
   ∃ (fd:FuncData)(c1 P1 c2 P2:Addr),(∀ (s:Shared)(v:Value),BindsTo s fd ⟨[v],[]⟩ [("_law_script",v)])/\PySem.W.tabIn (K w.params) "_law_net"=some (c1,P1)/\PySem.W.tabIn (K w.params) "_law_rows"=some (c2,P2)/\P1≠P2/\(K w.params).lookup P1=none/\(K w.params).lookup P2=none/\
   ∀ base:Heap,(K w.params).In base->base.Ns mainGlobals mg->Bm mg base->PySem.W.CodeHd base c1 P1->PySem.W.CodeHd base c2 P2->BF l.prog w (K w.params) mg base Co 10 fa fd ["_law_script"] (nG (K w.params) P1 P2)) (r1:((PyProof.Rows.recsOf q).find? (fun e=>e.name==("_law_net":Str))).isSome=true) (r2:((PyProof.Rows.recsOf q).find? (fun e=>e.name==("_law_rows":Str))).isSome=true):
  PySem.W.WalkO q loose XP YP l.row.toRowW d [] (fun f vs=>PySem.call f vs):=
 let ⟨_,e1⟩:=AO.mp r1
 let ⟨_,e2⟩:=AO.mp r2
 L2.JC (n:=63) (k:=10) (x:="_law_script") (CX:=Co) (sp:=nG) hn (by decide) Rp ⟨rfl,by decide,by decide⟩ hY e1 e2 F (fun _ _ _ _ a ns ne _ hO hS=>⟨a,ns,rfl,hS,⟨#[],hO.t1,trivial,.inl rfl⟩,⟨#[],hO.t2,trivial,.inl rfl⟩,ne,fun _=>rfl⟩) fun _ _ _ _ z=>z
end K51
open PySem PySem.W PyProof.Rows L2
set_option maxRecDepth 100000 in
set_option maxHeartbeats 0 in
theorem PySem.Challenge.cw_mixposts_k51_the_judge_holds : PySem.Challenge.rw_mixposts_k51_the_judge.Holds := by
  w_on; o_law; k_head; (case hw => w_witness2)
  k_fill
  refine K51.walk (l := PySem.Challenge.rw_mixposts_k51_the_judge) rfl rfl (fun w h Y => PySem.W.km_in_of Y) ?F (by kernel_rfl) (by kernel_rfl)
  case F =>
    intro w mg fa h KX G hmg
    refine' K51.all_mk KX G hmg ?aCN ?aCP ?aCH ?aCL ?aCF ?pgCN ?hdCN ?poCN ?saCN ?pgCP ?hdCP ?poCP ?saCP ?pgCH ?hdCH ?poCH ?saCH ?pgCL ?hdCL ?poCL ?saCL ?pgCF ?hdCF ?poCF ?saCF ?nCN_kept_posts ?nCN_kept_ties ?nCN_next_number ?nCP_name ?nCH_name ?nCL_name ?nCF_prime ?g_LETTERS ?g_LONGEST_NAME ?g_MOST_POSTS ?g_MOST_LISTENERS ?g_MOST_TIES ?g_LONGEST_DELAY ?g_GREATEST_PRIME ?k_str_str ?k_int_int ?k_int_bool ?k_dict_dict ?k_list_list ?k_tuple_tuple ?ne_ph ?ne_pl ?ne_hl ?z_len ?z_isinstance ?z_str ?z_all ?z_list ?z_int ?z_bool ?z_enumerate ?z_range ?z_min ?z_max ?z_dict ?z_sorted ?z_zip ?z_sum ?z_tuple ?z_any ?z_set (aF ?A0 ?L0 ?C0 ?K0) (bt ?A1 ?I1 ?L1 ?C1 ?K1) (bt ?A2 ?I2 ?L2 ?C2 ?K2) (bt ?A3 ?I3 ?L3 ?C3 ?K3) (bt ?A4 ?I4 ?L4 ?C4 ?K4) (bt ?A5 ?I5 ?L5 ?C5 ?K5) (bt ?A6 ?I6 ?L6 ?C6 ?K6) (K51.in0_mk ?M7 ?A7 ?I7 ?KC7 ?L7 ?C7 ?K7) (K51.in0_mk ?M8 ?A8 ?I8 ?KC8 ?L8 ?C8 ?K8) (K51.in0_mk ?M9 ?A9 ?I9 ?KC9 ?L9 ?C9 ?K9) (K51.in0_mk ?M10 ?A10 ?I10 ?KC10 ?L10 ?C10 ?K10) (bt ?A11 ?I11 ?L11 ?C11 ?K11) (bt ?A12 ?I12 ?L12 ?C12 ?K12) (bt ?A13 ?I13 ?L13 ?C13 ?K13) (bt ?A14 ?I14 ?L14 ?C14 ?K14) (bt ?A15 ?I15 ?L15 ?C15 ?K15) (bt ?A16 ?I16 ?L16 ?C16 ?K16) (bt ?A17 ?I17 ?L17 ?C17 ?K17) (aF ?A18 ?L18 ?C18 ?K18) (aF ?A19 ?L19 ?C19 ?K19) (bt ?A20 ?I20 ?L20 ?C20 ?K20) (aF ?A21 ?L21 ?C21 ?K21) (bt ?A22 ?I22 ?L22 ?C22 ?K22) (bt ?A23 ?I23 ?L23 ?C23 ?K23) (K51.meD0_mk ?A24 ?I24 ?L24 ?C24 ?K24 ?D24) (bt ?A25 ?I25 ?L25 ?C25 ?K25) (bt ?A26 ?I26 ?L26 ?C26 ?K26) (aF ?A27 ?L27 ?C27 ?K27) (bt ?A28 ?I28 ?L28 ?C28 ?K28) (aF ?A29 ?L29 ?C29 ?K29) (aF ?A30 ?L30 ?C30 ?K30) (aF ?A31 ?L31 ?C31 ?K31) (aF ?A32 ?L32 ?C32 ?K32) (aF ?A33 ?L33 ?C33 ?K33) (aF ?A34 ?L34 ?C34 ?K34) (K51.in0_mk ?M35 ?A35 ?I35 ?KC35 ?L35 ?C35 ?K35) (aF ?A36 ?L36 ?C36 ?K36) (bt ?A37 ?I37 ?L37 ?C37 ?K37) (bt ?A38 ?I38 ?L38 ?C38 ?K38) (bt ?A39 ?I39 ?L39 ?C39 ?K39) (bt ?A40 ?I40 ?L40 ?C40 ?K40) (aF ?A41 ?L41 ?C41 ?K41) (aF ?A42 ?L42 ?C42 ?K42) (aF ?A43 ?L43 ?C43 ?K43) (aF ?A44 ?L44 ?C44 ?K44) (aF ?A45 ?L45 ?C45 ?K45) (aF ?A46 ?L46 ?C46 ?K46) (K51.fnD0_mk ?A47 ?L47 ?C47 ?K47 ?D47) (aF ?A48 ?L48 ?C48 ?K48) (aF ?A49 ?L49 ?C49 ?K49) (aF ?A50 ?L50 ?C50 ?K50) (aF ?A51 ?L51 ?C51 ?K51) (aF ?A52 ?L52 ?C52 ?K52) (aF ?A53 ?L53 ?C53 ?K53) (aF ?A54 ?L54 ?C54 ?K54) (aF ?A55 ?L55 ?C55 ?K55) (aF ?A56 ?L56 ?C56 ?K56) (aF ?A57 ?L57 ?C57 ?K57) (aF ?A58 ?L58 ?C58 ?K58) (K51.fnD0_mk ?A59 ?L59 ?C59 ?K59 ?D59) (aF ?A60 ?L60 ?C60 ?K60) (aF ?A61 ?L61 ?C61 ?K61) (K51.fnL0_mk ?A62 ?L62 ?C62 ?K62 ?U62 ?V62) (aF ?A63 ?L63 ?C63 ?K63) (K51.fnL0_mk ?A64 ?L64 ?C64 ?K64 ?U64 ?V64) (aF ?A65 ?L65 ?C65 ?K65) (aF ?A66 ?L66 ?C66 ?K66) (aF ?A67 ?L67 ?C67 ?K67) (aF ?A68 ?L68 ?C68 ?K68) (aF ?al ?ll ?cl ?kl) ?n1 ?n2 ?ne12
    (case aCN | aCP | aCH | aCL | aCF | pgCN | hdCN | poCN | saCN | pgCP | hdCP | poCP | saCP | pgCH | hdCH | poCH | saCH | pgCL | hdCL | poCL | saCL | pgCF | hdCF | poCF | saCF | nCN_kept_posts | nCN_kept_ties | nCN_next_number | nCP_name | nCH_name | nCL_name | nCF_prime | g_LETTERS | g_LONGEST_NAME | g_MOST_POSTS | g_MOST_LISTENERS | g_MOST_TIES | g_LONGEST_DELAY | g_GREATEST_PRIME | k_str_str | k_int_int | k_int_bool | k_dict_dict | k_list_list | k_tuple_tuple => first | k_is | kit_is)
    (case ne_ph | ne_pl | ne_hl => first | decide | omega | (intro h; cases h))
    (case z_len | z_isinstance | z_str | z_all | z_list | z_int | z_bool | z_enumerate | z_range | z_min | z_max | z_dict | z_sorted | z_zip | z_sum | z_tuple | z_any | z_set | A0 | L0 | C0 | K0 | A1 | I1 | L1 | C1 | K1 | A2 | I2 | L2 | C2 | K2 | A3 | I3 | L3 | C3 | K3 | A4 | I4 | L4 | C4 | K4 | A5 | I5 | L5 | C5 | K5 | A6 | I6 | L6 | C6 | K6 | A7 | M7 | I7 | KC7 | L7 | C7 | K7 | A8 | M8 | I8 | KC8 | L8 | C8 | K8 | A9 | M9 | I9 | KC9 | L9 | C9 | K9 | A10 | M10 | I10 | KC10 | L10 | C10 | K10 | A11 | I11 | L11 | C11 | K11 | A12 | I12 | L12 | C12 | K12 | A13 | I13 | L13 | C13 | K13 | A14 | I14 | L14 | C14 | K14 | A15 | I15 | L15 | C15 | K15 | A16 | I16 | L16 | C16 | K16 | A17 | I17 | L17 | C17 | K17 | A18 | L18 | C18 | K18 | A19 | L19 | C19 | K19 | A20 | I20 | L20 | C20 | K20 | A21 | L21 | C21 | K21 | A22 | I22 | L22 | C22 | K22 | A23 | I23 | L23 | C23 | K23 | A24 | I24 | L24 | C24 | K24 | D24 | A25 | I25 | L25 | C25 | K25 | A26 | I26 | L26 | C26 | K26 | A27 | L27 | C27 | K27 | A28 | I28 | L28 | C28 | K28 | A29 | L29 | C29 | K29 | A30 | L30 | C30 | K30 | A31 | L31 | C31 | K31 | A32 | L32 | C32 | K32 | A33 | L33 | C33 | K33 | A34 | L34 | C34 | K34 | A35 | M35 | I35 | KC35 | L35 | C35 | K35 | A36 | L36 | C36 | K36 | A37 | I37 | L37 | C37 | K37 | A38 | I38 | L38 | C38 | K38 | A39 | I39 | L39 | C39 | K39 | A40 | I40 | L40 | C40 | K40 | A41 | L41 | C41 | K41 | A42 | L42 | C42 | K42 | A43 | L43 | C43 | K43 | A44 | L44 | C44 | K44 | A45 | L45 | C45 | K45 | A46 | L46 | C46 | K46 | A47 | L47 | C47 | K47 | D47 | A48 | L48 | C48 | K48 | A49 | L49 | C49 | K49 | A50 | L50 | C50 | K50 | A51 | L51 | C51 | K51 | A52 | L52 | C52 | K52 | A53 | L53 | C53 | K53 | A54 | L54 | C54 | K54 | A55 | L55 | C55 | K55 | A56 | L56 | C56 | K56 | A57 | L57 | C57 | K57 | A58 | L58 | C58 | K58 | A59 | L59 | C59 | K59 | D59 | A60 | L60 | C60 | K60 | A61 | L61 | C61 | K61 | A62 | L62 | C62 | K62 | U62 => first | k_is | kit_is)
    (case V62 => first | rfl | kernel_rfl)
    (case A63 | L63 | C63 | K63 | A64 | L64 | C64 | K64 | U64 => first | k_is | kit_is)
    (case V64 => first | rfl | kernel_rfl)
    (case A65 | L65 | C65 | K65 | A66 | L66 | C66 | K66 | A67 | L67 | C67 | K67 | A68 | L68 | C68 | K68 | al | ll | cl | kl => first | k_is | kit_is)
    (case n1 | n2 => first | kernel_rfl | k_is | rfl)
    (case ne12 => first | decide | omega | (intro h; cases h))
