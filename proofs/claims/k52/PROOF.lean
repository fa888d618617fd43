import PyProof.Rows.All
import Wide.All
import OpenK.AllK
import Wide.FinOn
import Lean
import PyProof.EqAt
import PyProof.EqKinds
import PyProof.TupleCall
import PyProof.ZipIter
import PyProof.NeKinds
import PySem.Challenge.RW_mixposts_k52_judged_and_refused
import PyProof.Logic
import PyProof.StationsW
import PyProof.ExcBaseAll.ValueError
import PyProof.ExcInit
import PyProof.ExcClass2
import PyProof.InstStoreFacts
import PyProof.ExcAttrAll.ValueError
import KE.KDictList
import PyProof.StrWalks
import PyProof.ConsumeWalk
import PyProof.EnumFor
import PyProof.EnumStmt
import PyProof.StrLawsIdx
import PyProof.SliceStr2
import PyProof.MeetsStr
import PyProof.FactsAll.str_5
import PyProof.StrBlockL
import PyProof.StrLawsTight
import PyProof.FitsReplace
import PyProof.Rows.StrItems
import KE.KIntText
import KE.KDictOf
import PyProof.AttrMissHeap
import KE.KDictSum
import PyProof.Rows.SortWalk
import PyProof.SetKind
import PyProof.SetNew
import PyProof.SetRoads
import PyProof.CollectWalk
import PyProof.Rows.TupIn
import PyProof.DictStraight
import PyProof.Rows.SetFrom
import PyProof.WalkLemmas
import KE.KListMore
import PyProof.SeqI3
import KE.KEqDict
import PyProof.DictItems
import KE.KPairComp
import PyProof.Rows.CallKwBuiltin
set_option Elab.async false
set_option linter.all false
set_option maxRecDepth 100000
set_option maxHeartbeats 4000000
/-! The head would lay a copy of each heap on the way, with a proof of its own that it is the same: some forty megabytes that the kernel does not need. Where a name is taken, it lays none. -/
theorem PySem.W.Fast.tw10176742320962311067 : True := trivial
theorem PySem.W.Fast.tw10252775600862454568 : True := trivial
theorem PySem.W.Fast.tw10345421711857850023 : True := trivial
theorem PySem.W.Fast.tw10358268636573573485 : True := trivial
theorem PySem.W.Fast.tw10473005937173416865 : True := trivial
theorem PySem.W.Fast.tw105788424284464048 : True := trivial
theorem PySem.W.Fast.tw10770239056691563773 : True := trivial
theorem PySem.W.Fast.tw10999774703006717480 : True := trivial
theorem PySem.W.Fast.tw11079219926691453786 : True := trivial
theorem PySem.W.Fast.tw11197669543770737465 : True := trivial
theorem PySem.W.Fast.tw11296005594292329815 : True := trivial
theorem PySem.W.Fast.tw11395190901421139753 : True := trivial
theorem PySem.W.Fast.tw11551334732566354897 : True := trivial
theorem PySem.W.Fast.tw11558557732327852685 : True := trivial
theorem PySem.W.Fast.tw11587711528213325787 : True := trivial
theorem PySem.W.Fast.tw11723770566450567147 : True := trivial
theorem PySem.W.Fast.tw11825618476202060911 : True := trivial
theorem PySem.W.Fast.tw1188485380326087243 : True := trivial
theorem PySem.W.Fast.tw12121198446056725207 : True := trivial
theorem PySem.W.Fast.tw12155762277140054914 : True := trivial
theorem PySem.W.Fast.tw1231666985882657336 : True := trivial
theorem PySem.W.Fast.tw12417961041125249664 : True := trivial
theorem PySem.W.Fast.tw12511586432217994115 : True := trivial
theorem PySem.W.Fast.tw12559795866587393283 : True := trivial
theorem PySem.W.Fast.tw12570327112843657219 : True := trivial
theorem PySem.W.Fast.tw12847366218431635305 : True := trivial
theorem PySem.W.Fast.tw12898119556546873865 : True := trivial
theorem PySem.W.Fast.tw12962536300367830394 : True := trivial
theorem PySem.W.Fast.tw12988468523603321045 : True := trivial
theorem PySem.W.Fast.tw13213373858008474428 : True := trivial
theorem PySem.W.Fast.tw13245680012145685369 : True := trivial
theorem PySem.W.Fast.tw13386655842178508038 : True := trivial
theorem PySem.W.Fast.tw13526007788108532179 : True := trivial
theorem PySem.W.Fast.tw13543962843516698899 : True := trivial
theorem PySem.W.Fast.tw13646562774360398152 : True := trivial
theorem PySem.W.Fast.tw13653868149772682807 : True := trivial
theorem PySem.W.Fast.tw13655621770071639665 : True := trivial
theorem PySem.W.Fast.tw13655838501899309135 : True := trivial
theorem PySem.W.Fast.tw13753025797435301767 : True := trivial
theorem PySem.W.Fast.tw13798126561845746884 : True := trivial
theorem PySem.W.Fast.tw14105748851458589324 : True := trivial
theorem PySem.W.Fast.tw14139362768593108870 : True := trivial
theorem PySem.W.Fast.tw14173478622761370303 : True := trivial
theorem PySem.W.Fast.tw1428021440234298071 : True := trivial
theorem PySem.W.Fast.tw14285037478755286032 : True := trivial
theorem PySem.W.Fast.tw14295593410011104483 : True := trivial
theorem PySem.W.Fast.tw14327310123471792751 : True := trivial
theorem PySem.W.Fast.tw14641928100869311005 : True := trivial
theorem PySem.W.Fast.tw14680065514710618553 : True := trivial
theorem PySem.W.Fast.tw14701271640542972816 : True := trivial
theorem PySem.W.Fast.tw14869744826213389131 : True := trivial
theorem PySem.W.Fast.tw14897084853104751853 : True := trivial
theorem PySem.W.Fast.tw14900032407217399924 : True := trivial
theorem PySem.W.Fast.tw15067443064555566400 : True := trivial
theorem PySem.W.Fast.tw15077625729254756363 : True := trivial
theorem PySem.W.Fast.tw15284292300151100858 : True := trivial
theorem PySem.W.Fast.tw15290507671287595850 : True := trivial
theorem PySem.W.Fast.tw15298505546472571111 : True := trivial
theorem PySem.W.Fast.tw15548808297675298652 : True := trivial
theorem PySem.W.Fast.tw156848982057346295 : True := trivial
theorem PySem.W.Fast.tw15747982422381684899 : True := trivial
theorem PySem.W.Fast.tw15764196542007588002 : True := trivial
theorem PySem.W.Fast.tw15827904954805041277 : True := trivial
theorem PySem.W.Fast.tw15842612642417715617 : True := trivial
theorem PySem.W.Fast.tw15931833566823929249 : True := trivial
theorem PySem.W.Fast.tw15938271243031578312 : True := trivial
theorem PySem.W.Fast.tw16101442860811485945 : True := trivial
theorem PySem.W.Fast.tw16186372218605586695 : True := trivial
theorem PySem.W.Fast.tw16233432661830255045 : True := trivial
theorem PySem.W.Fast.tw16311118020434796104 : True := trivial
theorem PySem.W.Fast.tw16311679224157212442 : True := trivial
theorem PySem.W.Fast.tw16361757930262888438 : True := trivial
theorem PySem.W.Fast.tw16441639774592092323 : True := trivial
theorem PySem.W.Fast.tw16531460278816239923 : True := trivial
theorem PySem.W.Fast.tw16611771186223383658 : True := trivial
theorem PySem.W.Fast.tw167847927780505493 : True := trivial
theorem PySem.W.Fast.tw16861765509608745347 : True := trivial
theorem PySem.W.Fast.tw16991180002128066520 : True := trivial
theorem PySem.W.Fast.tw17001434741616364547 : True := trivial
theorem PySem.W.Fast.tw17036169882774660697 : True := trivial
theorem PySem.W.Fast.tw17051486574701472337 : True := trivial
theorem PySem.W.Fast.tw17119379398322436952 : True := trivial
theorem PySem.W.Fast.tw1729801944912874049 : True := trivial
theorem PySem.W.Fast.tw17317489436254833965 : True := trivial
theorem PySem.W.Fast.tw17434963806686594410 : True := trivial
theorem PySem.W.Fast.tw17474744071614019303 : True := trivial
theorem PySem.W.Fast.tw17516519840057608276 : True := trivial
theorem PySem.W.Fast.tw17680902432926902342 : True := trivial
theorem PySem.W.Fast.tw17745628652418356511 : True := trivial
theorem PySem.W.Fast.tw17798693538366583182 : True := trivial
theorem PySem.W.Fast.tw17893378545648941438 : True := trivial
theorem PySem.W.Fast.tw17934118856426268539 : True := trivial
theorem PySem.W.Fast.tw18128487883587750146 : True := trivial
theorem PySem.W.Fast.tw18166185676809190364 : True := trivial
theorem PySem.W.Fast.tw18180381013524862814 : True := trivial
theorem PySem.W.Fast.tw18292296945404934404 : True := trivial
theorem PySem.W.Fast.tw1832880920708509777 : True := trivial
theorem PySem.W.Fast.tw18342794744273367642 : True := trivial
theorem PySem.W.Fast.tw18343957282124134654 : True := trivial
theorem PySem.W.Fast.tw1924827035243143053 : True := trivial
theorem PySem.W.Fast.tw2237701087507441822 : True := trivial
theorem PySem.W.Fast.tw2246456588517379494 : True := trivial
theorem PySem.W.Fast.tw2250252722937652682 : True := trivial
theorem PySem.W.Fast.tw2302029322278344419 : True := trivial
theorem PySem.W.Fast.tw2359940753749374721 : True := trivial
theorem PySem.W.Fast.tw2511411703996290344 : True := trivial
theorem PySem.W.Fast.tw2516695455321573935 : True := trivial
theorem PySem.W.Fast.tw2679355798410620060 : True := trivial
theorem PySem.W.Fast.tw2968181977589704637 : True := trivial
theorem PySem.W.Fast.tw3055066026077538514 : True := trivial
theorem PySem.W.Fast.tw308086892185450980 : True := trivial
theorem PySem.W.Fast.tw3144273267980121006 : True := trivial
theorem PySem.W.Fast.tw3257690881103499241 : True := trivial
theorem PySem.W.Fast.tw3398679950222128682 : True := trivial
theorem PySem.W.Fast.tw340571124258683280 : True := trivial
theorem PySem.W.Fast.tw3453670695459984455 : True := trivial
theorem PySem.W.Fast.tw3491453958276127403 : True := trivial
theorem PySem.W.Fast.tw3513614939033522891 : True := trivial
theorem PySem.W.Fast.tw351738874317003272 : True := trivial
theorem PySem.W.Fast.tw3779454577877627487 : True := trivial
theorem PySem.W.Fast.tw3784159417729570740 : True := trivial
theorem PySem.W.Fast.tw3814326545244198965 : True := trivial
theorem PySem.W.Fast.tw4009057102589154887 : True := trivial
theorem PySem.W.Fast.tw4168260674515780976 : True := trivial
theorem PySem.W.Fast.tw4194843825332937578 : True := trivial
theorem PySem.W.Fast.tw4245201396950413834 : True := trivial
theorem PySem.W.Fast.tw4330737140832186036 : True := trivial
theorem PySem.W.Fast.tw4336260578421026452 : True := trivial
theorem PySem.W.Fast.tw4543763434810252731 : True := trivial
theorem PySem.W.Fast.tw477163266999124886 : True := trivial
theorem PySem.W.Fast.tw4776074977858100990 : True := trivial
theorem PySem.W.Fast.tw4852179814815517134 : True := trivial
theorem PySem.W.Fast.tw4864127432911406048 : True := trivial
theorem PySem.W.Fast.tw4979646113997966261 : True := trivial
theorem PySem.W.Fast.tw5035895856635512846 : True := trivial
theorem PySem.W.Fast.tw5109450567402246595 : True := trivial
theorem PySem.W.Fast.tw516492428450892160 : True := trivial
theorem PySem.W.Fast.tw5178426722545715109 : True := trivial
theorem PySem.W.Fast.tw5191936841008416676 : True := trivial
theorem PySem.W.Fast.tw526470062485304599 : True := trivial
theorem PySem.W.Fast.tw5282110909538480699 : True := trivial
theorem PySem.W.Fast.tw5369212989118106321 : True := trivial
theorem PySem.W.Fast.tw5378607537644771466 : True := trivial
theorem PySem.W.Fast.tw5416284534002653097 : True := trivial
theorem PySem.W.Fast.tw5553995508989642110 : True := trivial
theorem PySem.W.Fast.tw5571293542338664332 : True := trivial
theorem PySem.W.Fast.tw571607724027783059 : True := trivial
theorem PySem.W.Fast.tw5747924967785606841 : True := trivial
theorem PySem.W.Fast.tw5850010128646236275 : True := trivial
theorem PySem.W.Fast.tw5866973796983523402 : True := trivial
theorem PySem.W.Fast.tw5999771566334819105 : True := trivial
theorem PySem.W.Fast.tw6050504102585767666 : True := trivial
theorem PySem.W.Fast.tw6148202294285937455 : True := trivial
theorem PySem.W.Fast.tw6179797758849371339 : True := trivial
theorem PySem.W.Fast.tw6337551670115372140 : True := trivial
theorem PySem.W.Fast.tw6449860303329724913 : True := trivial
theorem PySem.W.Fast.tw6460991869379560629 : True := trivial
theorem PySem.W.Fast.tw646252593972091039 : True := trivial
theorem PySem.W.Fast.tw6496249597746439121 : True := trivial
theorem PySem.W.Fast.tw6645689321942925041 : True := trivial
theorem PySem.W.Fast.tw664814104084699587 : True := trivial
theorem PySem.W.Fast.tw6695581235599852412 : True := trivial
theorem PySem.W.Fast.tw6749795023796841265 : True := trivial
theorem PySem.W.Fast.tw6799510013452697278 : True := trivial
theorem PySem.W.Fast.tw6869574955402532026 : True := trivial
theorem PySem.W.Fast.tw6917747907652422845 : True := trivial
theorem PySem.W.Fast.tw6939133391327022792 : True := trivial
theorem PySem.W.Fast.tw6989198761292091997 : True := trivial
theorem PySem.W.Fast.tw7182239039084998886 : True := trivial
theorem PySem.W.Fast.tw7299807921558612206 : True := trivial
theorem PySem.W.Fast.tw7649421555952190137 : True := trivial
theorem PySem.W.Fast.tw7707744850421187708 : True := trivial
theorem PySem.W.Fast.tw7740804967107822347 : True := trivial
theorem PySem.W.Fast.tw7786068515555587830 : True := trivial
theorem PySem.W.Fast.tw7855573916010036119 : True := trivial
theorem PySem.W.Fast.tw8060711186450920652 : True := trivial
theorem PySem.W.Fast.tw8095695461150377586 : True := trivial
theorem PySem.W.Fast.tw8172454188626050810 : True := trivial
theorem PySem.W.Fast.tw8229865659974072182 : True := trivial
theorem PySem.W.Fast.tw8249580293196177573 : True := trivial
theorem PySem.W.Fast.tw8563296777634984696 : True := trivial
theorem PySem.W.Fast.tw8706423668435893849 : True := trivial
theorem PySem.W.Fast.tw8787887891397378246 : True := trivial
theorem PySem.W.Fast.tw9037267301921842524 : True := trivial
theorem PySem.W.Fast.tw905508952067928896 : True := trivial
theorem PySem.W.Fast.tw9104299001688507020 : True := trivial
theorem PySem.W.Fast.tw9175657617139303489 : True := trivial
theorem PySem.W.Fast.tw9231001224784666499 : True := trivial
theorem PySem.W.Fast.tw9706458090061420461 : True := trivial
theorem PySem.W.Fast.tw9712046027247520877 : True := trivial
theorem PySem.W.Fast.tw9843612193147824606 : True := trivial
theorem PySem.W.Fast.tw9866458725818407647 : True := trivial
theorem PySem.W.Fast.tw9958631969057138880 : True := trivial
local macro_rules|`(tactic|trivial)=>`(tactic|first|exact Or.inl rfl|exact Or.inr rfl)
abbrev y9:=@List.length_map
abbrev yb:=@List.getElem?_eq_getElem
abbrev yc:=@PySem.wpAny_bind
abbrev yd:=@List.getElem?_eq_some_iff
abbrev ye:=@decide_eq_true
abbrev yf:=@List.getElem?_map
abbrev yg:=@PySem.Heap.get?_push_of_some
abbrev yh:=@List.mem_of_getElem?
abbrev yi:=@Nat.le_refl
abbrev yj:=@decide_eq_false
abbrev yk:=@List.getD_eq_getElem?_getD
abbrev yn:=@PySem.W.mg_none_of
abbrev yo:=@List.getElem?_eq_none
abbrev yp:=@PySem.wpAny_pure
abbrev yq:=@List.map_map
abbrev yr:=@of_decide_eq_true
abbrev yt:=@PySem.Heap.lt_size
abbrev yu:=@List.length_append
abbrev yv:=@Bool.false_ne_true
abbrev yw:=@List.mem_map
abbrev yx:=@List.size_toArray
abbrev yA:=@Nat.lt_of_lt_of_le
abbrev yB:=@List.mem_cons
abbrev yC:=@PySem.Heap.get?_push_size
abbrev yD:=@List.mem_map_of_mem
abbrev yE:=@List.mem_append
abbrev yF:=@List.getElem?_append_right
abbrev yG:=@Option.map_eq_some_iff
abbrev yH:=@Nat.lt_of_le_of_lt
abbrev yI:=@List.map_append
abbrev yJ:=@List.not_mem_nil
abbrev yK:=@List.getElem?_append_left
abbrev yL:=@List.mem_singleton
abbrev yM:=@Nat.le_trans
abbrev yN:=@List.map_cons
abbrev yO:=@List.length_take
abbrev yP:=@Nat.zero_le
abbrev yQ:=@List.find?_cons
abbrev yR:=@PySem.W.mg_of
abbrev yS:=@Nat.ne_of_lt
abbrev yT:=@List.mem_append_right
abbrev yU:=@List.nodup_iff_pairwise_ne
abbrev yV:=@PySem.PassesOwn.never
abbrev yW:=@Int.emod_lt_of_pos
abbrev yX:=@List.mem_cons_of_mem
abbrev yY:=@List.length_cons
abbrev yZ:=@Int.fmod_eq_emod_of_nonneg
abbrev z7:=@Bool.and_eq_true
abbrev z8:=@List.mem_append_left
abbrev z9:=@List.length_filter_le
abbrev za:=@List.take_add_one
abbrev zb:=@List.nil_append
abbrev zc:=@List.find?_eq_none
abbrev zd:=@Int.emod_nonneg
abbrev ze:=@Bool.eq_iff_iff
abbrev zg:=@PySem.Heap.get?_update_other
abbrev zh:=@List.take_length
abbrev zi:=@List.getElem?_range
abbrev zj:=@PySem.wpAny_mono
abbrev zk:=@List.mem_of_find?_eq_some
abbrev zm:=@Int.toNat_natCast
abbrev zn:=@List.map_congr_left
abbrev zo:=@List.mem_filter
abbrev zp:=@List.append_nil
abbrev zq:=@List.length_range
abbrev zr:=@List.mem_cons_self
abbrev zt:=@List.nodup_cons
abbrev zu:=@PySem.wpAny_holding
abbrev zw:=@Int.mul_assoc
abbrev zx:=@Array.length_toList
abbrev zy:=@beq_iff_eq
abbrev zz:=@List.ext_getElem?
abbrev zA:=@PySem.F.plainAttrs_list
abbrev zB:=@PySem.wpAny_Call_Name_kw
abbrev zC:=@Nat.lt_irrefl
abbrev zD:=@List.mem_take_iff_getElem
abbrev zE:=@PySem.wpAny_truthy_bool
abbrev zF:=@List.length_singleton
abbrev zG:=@PySem.W.kia_one
abbrev zH:=@decide_eq_true_iff
abbrev zI:=@Bool.false_eq_true
abbrev zJ:=@List.all_eq_true
abbrev zK:=@List.take_of_length_le
abbrev zL:=@Int.emod_eq_of_lt
abbrev zM:=@PySem.Calls.callWith_builtin
abbrev zN:=@Array.getElem?_eq_some_iff
abbrev zO:=@List.replicate_succ
abbrev zP:=@PySem.Heap.get?_update_self
abbrev zQ:=@True.intro
abbrev zR:=@PySem.W.callWith_K
abbrev zS:=@List.filter_cons
abbrev zT:=@PySem.wpAny_loadPart_at
abbrev zU:=@decide_eq_true_eq
abbrev zV:=@List.pairwise_map
abbrev zW:=@List.mem_iff_getElem?
abbrev zX:=@Array.getElem?_eq_getElem
abbrev zY:=@List.find?_some
abbrev zZ:=@PySem.wpAny_newObj_type
abbrev Aa:=@List.map_nil
abbrev Ab:=@List.append_assoc
abbrev Ac:=@Int.mul_comm
abbrev Ad:=@PySem.F.type_list_append
abbrev Ae:=@PySem.F.slot_list_append
abbrev Af:=@List.any_cons
abbrev Ag:=@beq_eq_false_iff_ne
abbrev Ah:=@List.getElem_of_mem
abbrev Ai:=@List.take_zero
abbrev Aj:=@List.mem_range
abbrev Ak:=@List.find?_eq_some_iff_getElem
abbrev Al:=@PySem.F.plain_min_loop
abbrev Am:=@Bool.false_and
abbrev An:=@PySem.wpAny_typeNameOfWhole_keyiter
abbrev Ao:=@Nat.le_succ
abbrev Ap:=@Nat.le_of_lt
abbrev Aq:=@PySem.Calls.spliced_cons
abbrev Ar:=@PySem.wpAny_passesOwn
abbrev As:=@if_false
abbrev At:=@List.range_succ
abbrev Au:=@List.length_nil
abbrev Av:=@PySem.F.slot_dict_keyiterator_next
abbrev Aw:=@PySem.W.methodCall_KW
abbrev Ax:=@not_false_eq_true
abbrev Ay:=@PyProof.Rows.callWith_type1
abbrev Az:=@List.nodup_append
abbrev AA:=@PySem.wpAny_setField
abbrev AB:=@PySem.wpAny_call
abbrev AC:=@PySem.codeAny_call_builtin
abbrev AD:=@List.map_id
abbrev AE:=@PySem.codeAny_mono
abbrev AF:=@List.getElem_mem
abbrev AG:=@Int.emod_eq_emod_iff_emod_sub_eq_zero
abbrev AH:=@List.getElem?_zip_eq_some
abbrev AI:=@PySem.mem_of_lookup
abbrev AJ:=@Int.dvd_mul_of_dvd_right
abbrev AK:=@PySem.codeAny_builtin
abbrev AL:=@List.filter_map
abbrev AM:=@PySem.tupleKind_room_in1
abbrev AN:=@of_decide_eq_false
abbrev AO:=@List.filter_append
abbrev AQ:=@PySem.Code.quiet_builtin
abbrev AR:=@Int.eq_ofNat_of_zero_le
abbrev AS:=@PySem.wpAny_tryCatch
abbrev AT:=@or_false
abbrev AU:=@not_true_eq_false
abbrev AV:=@if_true
abbrev AW:=@PySem.call_meetsIn
abbrev AX:=@Option.isSome_map
abbrev AY:=@List.flatten_cons
abbrev AZ:=@PySem.Heap.size_push
abbrev B0:=@PySem.F.slot_dict_pop
abbrev B7:=@Array.getElem?_toList
abbrev B8:=@List.lookup_cons
abbrev B9:=@List.length_drop
abbrev Ba:=@Int.mul_le_mul_of_nonneg_right
abbrev Bb:=@Bool.not_eq_true
abbrev Bc:=@PySem.wpAny_standAt
abbrev Bd:=@Int.mul_le_mul_of_nonneg_left
abbrev Be:=@PySem.Calls.evalArgs_plain
abbrev Bf:=@PySem.wpAny_execs_nil
abbrev Bg:=@List.filterMap_cons
abbrev Bh:=@PySem.BindsTo.of_defaults
abbrev Bi:=@PySem.W.looks_findIn
abbrev Bj:=@Nat.ne_of_gt
abbrev Bl:=@PySem.Obj.data_mapFields
abbrev Bm:=@List.mem_filterMap
abbrev Bn:=@PySem.wpAny_pyIter_list
abbrev Bo:=@PySem.wpAny_field
abbrev Bp:=@PySem.wpAny_dictEntries
abbrev Bq:=@decide_true
abbrev Br:=@Nat.lt_succ_of_lt
abbrev Bs:=@List.flatMap_cons
abbrev Bt:=@PySem.Calls.spliced_nil
abbrev Bu:=@PySem.wpAny_attempt
abbrev Bv:=@Option.isSome_iff_exists
abbrev Bw:=@List.getElem?_take_of_lt
abbrev Bx:=@List.all_cons
abbrev By:=@Bool.false_or
namespace L2
open PySem PySem.Spec PyProof.Rows
abbrev Key:=Sum Int Str
def nB:Key->Value->Bool
 | .inl k,v=>Value.isInt k v
 | .inr x,v=>Value.isStrOf x v
def keyH (w:World):Key->Int
 | .inl k=>hashInt k
 | .inr x=>hashStr w x
theorem bo:∀ {k:Key}{v:Value},nB k v=true->(∃ i t,k=Sum.inl i/\v=Value.int i t)\/(∃ x t,k=Sum.inr x/\v=Value.str x t)
 | .inl i,v,h=>by
  obtain⟨t,e⟩:=Value.isInt_shape (k:=i) (v:=v) h
  exact .inl ⟨i,t,rfl,e⟩
 | .inr x,v,h=>by
  obtain⟨t,e⟩:=Value.isStrOf_shape (x:=x) (v:=v) h
  exact .inr ⟨x,t,rfl,e⟩
theorem uy (i:Int)(t:Tok):nB (.inl i) (.int i t)=true:=by simp[nB,Value.isInt]
theorem ux (x:Str)(t:Tok):nB (.inr x) (.str x t)=true:=by simp[nB,Value.isStrOf]
theorem key_ll (a b:Int):decide ((Sum.inl a:Key)=Sum.inl b)=(a==b):=by
 by_cases e:a=b
 ·subst e;simp
 ·have h:¬ (Sum.inl a:Key)=Sum.inl b:=fun q=>e (Sum.inl.inj q)
  rw[yj h]
  exact (Ag.mpr e).symm
theorem key_rr (a b:Str):decide ((Sum.inr a:Key)=Sum.inr b)=decide (a=b):=by
 by_cases e:a=b
 ·subst e;simp
 ·have h:¬ (Sum.inr a:Key)=Sum.inr b:=fun q=>e (Sum.inr.inj q)
  rw[yj h,yj e]
theorem key_lr (a:Int)(b:Str):decide ((Sum.inl a:Key)=Sum.inr b)=false:=yj (fun q=>nomatch q)
theorem key_rl (a:Str)(b:Int):decide ((Sum.inr a:Key)=Sum.inl b)=false:=yj (fun q=>nomatch q)
def aQ (prog:Program)(w:World):PySem.KeyKind prog w Key where
 is:=nB
 hash:=keyH w
 inj:=fun v a b ha hb=>by
  rcases bo ha with⟨i,t,rfl,rfl⟩|⟨x,t,rfl,rfl⟩
  ·rcases bo hb with⟨j,u,rfl,e⟩|⟨y,u,rfl,e⟩
   ·injection e with e1 _;rw[e1]
   ·exact nomatch e
  ·rcases bo hb with⟨j,u,rfl,e⟩|⟨y,u,rfl,e⟩
   ·exact nomatch e
   ·injection e with e1 _;rw[e1]
 byValue:=fun k v h=>by
  rcases bo h with⟨i,t,rfl,rfl⟩|⟨x,t,rfl,rfl⟩ <;> rfl
 pyHash:=fun hv h=>by
  rcases bo hv with⟨i,t,rfl,rfl⟩|⟨x,t,rfl,rfl⟩
  ·exact wpAny_pyHash_int h
  ·exact wpAny_pyHash_str h
 eqBool:=fun hu hv h=>by
  rcases bo hu with⟨i,t,rfl,rfl⟩|⟨x,t,rfl,rfl⟩
  ·rcases bo hv with⟨j,u,rfl,rfl⟩|⟨y,u,rfl,rfl⟩
   ·rw[key_ll]at h;exact wpAny_eqBool_int h
   ·rw[key_lr]at h;exact SeqAt.EqAt.int_str i t y u _ _ _ _ h
  ·rcases bo hv with⟨j,u,rfl,rfl⟩|⟨y,u,rfl,rfl⟩
   ·rw[key_rl]at h;exact SeqAt.EqAt.str_int x t j u _ _ _ _ h
   ·rw[key_rr]at h;exact wpAny_eqBool_str h
 «strs»:=fun k x t v h=>by
  rcases bo h with⟨i,u,rfl,e⟩|⟨y,u,rfl,e⟩
  ·exact nomatch e
  ·injection e with e1 _
   subst e1
   cases v <;> rfl
theorem qC (prog:Program)(w:World)(i:Int)(t:Tok):(aQ prog w).is (.inl i) (.int i t)=true:=uy i t
theorem qB (prog:Program)(w:World)(x:Str)(t:Tok):(aQ prog w).is (.inr x) (.str x t)=true:=ux x t
inductive V where
  | non | bl (b : Bool) | int (i : Int) | str (x : Str) | byt (b : Array UInt8) | flt (b : UInt64) | ref (a : Addr) | ty (n : String)
  deriving DecidableEq
def RelV:V->Value->Prop
 | .non,u=>u=Value.none
 | .bl b,u=>u=Value.bool b
 | .int i,u=>∃ t,u=Value.int i t
 | .str x,u=>∃ t,u=Value.str x t
 | .byt b,u=>∃ t,u=Value.bytes b t
 | .flt b,u=>∃ t,u=Value.float b t
 | .ref a,u=>u=Value.ref a
 | .ty n,u=>u=Value.type n
abbrev Vals:List V->List Value->Prop:=Paired RelV
theorem Vals.length {xs:List V}{us:List Value} (r:Vals xs us):xs.length=us.length:=Paired.length r
theorem Vals.get:∀ {xs:List V}{us:List Value}{i:Nat}{x:V},Vals xs us->xs[i]?=some x->∃ u,us[i]?=some u/\RelV x u
 | _,_,_,_,.nil,e=>by simp at e
 | _,_,0,_,.cons r _,e=>by simp at e;subst e;exact⟨_,rfl,r⟩
 | _,_,i+1,x,.cons _ t,e=>by
  obtain⟨u,h1,h2⟩:=Vals.get (i:=i) (x:=x) t (by simpa using e)
  exact⟨u,by simpa using h1,h2⟩
theorem Vals.set {x:V}{u:Value} (r:RelV x u):∀ {xs:List V}{us:List Value} (i:Nat),Vals xs us->Vals (xs.set i x) (us.set i u)
 | _,_,_,.nil=>.nil
 | _,_,0,.cons _ t=>.cons r t
 | _,_,i+1,.cons q t=>.cons q (Vals.set r i t)
theorem Vals.append:∀ {xs ys:List V}{us ws:List Value},Vals xs us->Vals ys ws->Vals (xs++ys) (us++ws)
 | _,_,_,_,.nil,s=>s
 | _,_,_,_,.cons r t,s=>.cons r (Vals.append t s)
theorem Vals.take:∀ {xs:List V}{us:List Value} (n:Nat),Vals xs us->Vals (xs.take n) (us.take n)
 | _,_,0,_=>.nil
 | _,_,_+1,.nil=>.nil
 | _,_,n+1,.cons r t=>.cons r (Vals.take n t)
theorem Vals.drop:∀ {xs:List V}{us:List Value} (n:Nat),Vals xs us->Vals (xs.drop n) (us.drop n)
 | _,_,0,r=>r
 | _,_,_+1,.nil=>.nil
 | _,_,n+1,.cons _ t=>Vals.drop n t
def RelO:Option V->Option Value->Prop
 | some v,some u=>RelV v u
 | none,none=>True
 | _,_=>False
def KV {κ:Type}:List (κ×V)->List (κ×Value)->Prop:=Paired fun (p:κ×V) (q:κ×Value)=>p.1=q.1/\RelV p.2 q.2
def kV:Key->V
 | .inl i=>.int i
 | .inr x=>.str x
inductive HO where
  | lst (xs : List V)
  | tup (xs : List V)
  | dK (kvs : List (Key × V)) | dT (kvs : List (List Key × V))
  | set (S : Int -> Bool) (n : Nat)
  | ins (C dx : Addr) (fs : List (Str × V))
  | own (x : Addr)
  | xd (fs : List (Str × V))
  | met (f x : Addr)
  | rng (lo hi : Int)
  | frz (o : Obj) (u : HO)
  | tbl (ps : Array Value)
  | ext (φ : Heap -> Prop)
abbrev Hp:=Addr->Option HO
def upd (H:Hp)(a:Addr)(o:HO):Hp:=fun b=>if b=a then some o else H b
theorem a9 {H:Hp}{a:Addr}{o:HO}:upd H a o a=some o:=by unfold upd;rw[if_pos rfl]
theorem af {H:Hp}{a b:Addr}{o:HO} (h:b≠a):upd H a o b=H b:=by unfold upd;rw[if_neg h]
theorem wD {H:Hp}{a:Addr}{o u:HO}:upd (upd H a o) a u=upd H a u:=by
 funext b;unfold upd;split <;> rfl
theorem bn {H:Hp}{a b:Addr}{o u:HO} (h:H a=some o) (h':H b=some u) (d:o≠u):a≠b:=by
 intro e;subst e;rw[h]at h';exact d (Option.some.inj h')
theorem ah {H:Hp}{a b:Addr}{o:HO} (h:H a=some o) (h':H b=none):a≠b:=by
 intro e;subst e;rw[h]at h';cases h'
section
variable (P : Program)(w : World)
def ObjOk (H:Hp)(h:Heap)(a:Addr):HO->Prop
 | .lst xs=>xs.length<=sizeLine/\∃ (its:List Value)(n:Nat),Vals xs its/\h.get? a=some { cls:=.type "list",data:=.seq its.toArray n }
 | .tup xs=>xs.length<=sizeLine/\∃ its:List Value,Vals xs its/\IsTup h a its.toArray
 | .dK kvs=>kvs.length<=sizeLine/\(a==sysModules)=false/\∃ vs,KV kvs vs/\h.DictOf (aQ P w) a vs
 | .dT kvs=>kvs.length<=sizeLine/\(a==sysModules)=false/\∃ xs:List (List Key×Addr×Value),
   Paired (fun (p:List Key×V) (q:List Key×Addr×Value)=>p.1=q.1/\H q.2.1=some (.tup (p.1.map kV))/\RelV p.2 q.2.2) kvs xs/\
   ∃ o es ep,h.get? a=some o/\o.ExactDict/\o.data=.dict es ep/\es.toList=xs.map (entryOfKey (tupleKind (aQ P w)))/\(xs.map (·.1)).Nodup
 | .set S n=>h.SetOf (intKind P w) a S n
 | .ins C dx fs=>H dx=some (.own a)/\fs.length<=1000/\dx≠a/\h.get? a=some (PySem.W.instObj C dx)/\
   ∃ mA,h.Ns1 dx mA/\(∀ f,RelO (fs.lookup f) (mA f))/\PySem.Within mA (fs.map (·.1))
 | .own _=>∃ o,h.get? a=some o
 | .xd fs=>∃ mA,h.Ns1 a mA/\∀ f,RelO (fs.lookup f) (mA f)
 | .rng lo hi=>∃ t u v,h.get? a=some { cls:=.type "range",data:=.fields #[.int lo t,.int hi u,.int 1 v] }
 | .frz o u=>h.get? a=some o/\ObjOk H h a u
 | .tbl ps=>h.get? a=some { cls:=.none,data:=.fields ps }
 | .met f x=>h.get? a=some (PySem.W.methodObj (.ref f) (.ref x))
 | .ext φ=>φ h/\(∃ o,h.get? a=some o)/\∀ h1 h2:Heap,φ h1->(∀ o,h1.get? a=some o->h2.get? a=some o)->φ h2
def HOk (H:Hp)(h:Heap):Prop:=∀ a o,H a=some o->ObjOk P w H h a o
end
section
variable {P : Program}{w : World}{H H' : Hp}{h h' : Heap}{a : Addr}{o : HO}
theorem ObjOk.lt (x:ObjOk P w H h a o):a<h.objs.size:=by
 cases o with
 | lst xs=>obtain⟨_,_,_,_,e⟩:=x;exact yt e
 | tup xs=>obtain⟨_,_,_,p⟩:=x;exact p.lt
 | dK kvs=>obtain⟨_,_,_,_,o,_,_,e,_⟩:=x;exact yt e
 | dT kvs=>obtain⟨_,_,_,_,o,_,_,e,_⟩:=x;exact yt e
 | set S n=>obtain⟨o,_,_,_,e,_⟩:=x;exact yt e
 | ins C dx fs=>obtain⟨_,_,_,e,_⟩:=x;exact yt e
 | own y=>obtain⟨_,e⟩:=x;exact yt e
 | xd fs=>obtain⟨_,⟨_,_,_,e,_⟩,_⟩:=x;exact yt e
 | rng lo hi=>obtain⟨_,_,_,e⟩:=x;exact yt e
 | frz ob u=>obtain⟨e,_⟩:=x;exact yt e
 | tbl ps=>exact yt (show h.get? a=some _ from x)
 | met f y=>exact yt (show h.get? a=some _ from x)
 | ext φ=>obtain⟨_,⟨_,e⟩,_⟩:=x;exact yt e
theorem Paired.mapP {α β:Type}{F G:α->β->Prop}:∀ {l₁:List α}{l₂:List β},Paired F l₁ l₂->(∀ a b,F a b->G a b)->Paired G l₁ l₂
 | _,_,.nil,_=>.nil
 | _,_,.cons r t,f=>.cons (f _ _ r) (Paired.mapP t f)
theorem ObjOk.stay (x:ObjOk P w H h a o)(k:∀ b u,(b=a\/H b=some (.own a))->h.get? b=some u->h'.get? b=some u)
  (ho:∀ b,H b=some (.own a)->H' b=some (.own a)) (ht:∀ b xs,H b=some (.tup xs)->H' b=some (.tup xs)):ObjOk P w H' h' a o:=by
 induction o with
 | lst xs=>obtain⟨z,its,n,r,e⟩:=x;exact⟨z,its,n,r,k _ _ (.inl rfl) e⟩
 | tup xs=>obtain⟨z,its,r,ob,e,c⟩:=x;exact⟨z,its,r,ob,k _ _ (.inl rfl) e,c⟩
 | dK kvs=>obtain⟨z,y,vs,r,ob,es,ep,e,c⟩:=x;exact⟨z,y,vs,r,ob,es,ep,k _ _ (.inl rfl) e,c⟩
 | dT kvs=>
  obtain⟨z,y,xs,r,ob,es,ep,e,c⟩:=x
  exact⟨z,y,xs,Paired.mapP r fun p q z=>⟨z.1,ht _ _ z.2.1,z.2.2⟩,ob,es,ep,k _ _ (.inl rfl) e,c⟩
 | set S n=>obtain⟨ob,es,ep,t,e,c⟩:=x;exact⟨ob,es,ep,t,k _ _ (.inl rfl) e,c⟩
 | ins C dx fs=>
  obtain⟨d,z,ne,e,mA,⟨od,es,ep,e2,c⟩,r⟩:=x
  exact⟨ho _ d,z,ne,k _ _ (.inl rfl) e,mA,⟨od,es,ep,k _ _ (.inr d) e2,c⟩,r⟩
 | own y=>obtain⟨ob,e⟩:=x;exact⟨ob,k _ _ (.inl rfl) e⟩
 | xd fs=>obtain⟨mA,⟨od,es,ep,e,c⟩,r⟩:=x;exact⟨mA,⟨od,es,ep,k _ _ (.inl rfl) e,c⟩,r⟩
 | rng lo hi=>obtain⟨t,u,v,e⟩:=x;exact⟨t,u,v,k _ _ (.inl rfl) e⟩
 | frz ob u ih=>obtain⟨e,q⟩:=x;exact⟨k _ _ (.inl rfl) e,ih q⟩
 | tbl ps=>
  have e:h.get? a=some { cls:=.none,data:=.fields ps }:=x
  show h'.get? a=some { cls:=.none,data:=.fields ps }
  exact k a _ (.inl rfl) e
 | met f y=>
  have e:h.get? a=some (PySem.W.methodObj (.ref f) (.ref y)):=x
  show h'.get? a=some (PySem.W.methodObj (.ref f) (.ref y))
  exact k a _ (.inl rfl) e
 | ext φ=>obtain⟨p,⟨o,e⟩,st⟩:=x;exact⟨st _ _ p fun o q=>k _ _ (.inl rfl) q,⟨o,k _ _ (.inl rfl) e⟩,st⟩
theorem HOk.lt (x:HOk P w H h)(e:H a=some o):a<h.objs.size:=(x a o e).lt
theorem HOk.fresh (x:HOk P w H h)(e:h.objs.size<=a):H a=none:=by
 cases q:H a with
 | none=>rfl
 | some u=>exact absurd (yA (x.lt q) e) (zC _)
theorem HOk.kept (x:HOk P w H h)(k:∀ b u,h.get? b=some u->h'.get? b=some u):HOk P w H h':=fun a o e=>
 (x a o e).stay (fun b u _ q=>k b u q) (fun _ q=>q) fun _ _ q=>q
theorem HOk.laid (x:HOk P w H h)(k:∀ b u,h.get? b=some u->h'.get? b=some u)(hp:h.objs.size<=a)(new:ObjOk P w (upd H a o) h' a o):HOk P w (upd H a o) h':=fun b u e=>by
 have hn:=x.fresh hp
 by_cases hb:b=a
 ·subst hb;rw[a9]at e;cases e;exact new
 ·rw[af hb]at e
  exact (x b u e).stay (fun c v _ q=>k c v q) (fun c q=>by rw[af (ah q hn)];exact q) fun c xs q=>by rw[af (ah q hn)];exact q
end
def Rd (H:Hp)(a:Addr)(u:HO):Prop:=H a=some u\/∃ o,H a=some (.frz o u)
theorem Rd.ok {P:Program}{w:World}{H:Hp}{h:Heap}{a:Addr}{u:HO} (r:Rd H a u) (x:HOk P w H h):ObjOk P w H h a u:=by
 rcases r with r|⟨o,r⟩
 ·exact x a u r
 ·obtain⟨_,q⟩:=x a _ r
  exact q
def Mut:Option HO->Prop
 | some (.lst _)=>True
 | some (.dK _)=>True
 | some (.dT _)=>True
 | some (.set _ _)=>True
 | some (.ins _ _ _)=>True
 | some (.ext _)=>True
 | _=>False
section
variable {P : Program}{w : World}{H : Hp}{h h' : Heap}{x e : Addr}{o' : HO}
theorem HOk.write (ok:HOk P w H h)(mu:Mut (H x))(he:e=x\/H e=some (.own x))(k:∀ b u,b≠e->h.get? b=some u->h'.get? b=some u)(heo:∃ u,h'.get? e=some u)
  (new:ObjOk P w (upd H x o') h' x o'):HOk P w (upd H x o') h':=fun b u q=>by
 have nown:∀ c y,H c=some (.own y)->c≠x:=fun c y r z=>by subst z;rw[r]at mu;exact mu
 have ntup:∀ c xs,H c=some (.tup xs)->c≠x:=fun c xs r z=>by subst z;rw[r]at mu;exact mu
 by_cases hb:b=x
 ·subst hb;rw[a9]at q;cases q;exact new
 ·rw[af hb]at q
  by_cases hbe:b=e
  ·have q':H b=some (.own x):=by
    rcases he with z|z
    ·exact absurd (hbe.trans z) hb
    ·rw[hbe];exact z
   rw[q]at q';cases q'
   obtain⟨v,hv⟩:=heo
   exact⟨v,by rw[hbe];exact hv⟩
  ·refine (ok b u q).stay (fun c v hc r=>k c v ?_ r) (fun c r=>by rw[af (nown c b r)];exact r) fun c xs r=>by rw[af (ntup c xs r)];exact r
   rcases hc with rfl|hc
   ·exact hbe
   ·rintro rfl
    rcases he with z|z
    ·exact nown c b hc z
    ·rw[hc]at z;cases z;exact hb rfl
end
structure Un (fs ex : List Addr) (H H' : Hp) (h h' : Heap) : Prop where
  keep : ∀ b o, h.get? b = some o -> H b = none -> b ∉ fs -> b ∉ ex -> h'.get? b = some o
  slot : ∀ b o, h.get? b = some o -> H b = none -> b ∈ fs -> b ∉ ex -> ∃ sl, h'.get? b = some { o with slots := sl }
  free : ∀ b o, h.get? b = some o -> H b = none -> b ∉ ex -> H' b = none
  there : ∀ b o, h.get? b = some o -> b ∉ ex -> ∃ o', h'.get? b = some o'
  tups : ∀ b xs, H b = some (.tup xs) -> H' b = some (.tup xs)
  frzs : ∀ b o u, H b = some (.frz o u) -> H' b = some (.frz o u)
  tbls : ∀ b ps, H b = some (.tbl ps) -> ∃ more, H' b = some (.tbl (ps ++ more))
section
variable {fs fs' ex ex' : List Addr}{H H1 H2 : Hp}{h h1 h2 h' : Heap}{a x e : Addr}{o : HO}
theorem Un.any (u:Un fs ex H H1 h h1){b:Addr}{ob:Obj} (q:h.get? b=some ob) (n:H b=none) (hx:b∉ex):∃ sl,h1.get? b=some { ob with slots:=sl }:=by
 by_cases hb:b∈fs
 ·exact u.slot b ob q n hb hx
 ·exact⟨ob.slots,u.keep b ob q n hb hx⟩
theorem Un.kept (k:∀ b u,h.get? b=some u->h'.get? b=some u):Un fs ex H H h h':=
 ⟨fun b ob q _ _ _=>k b ob q,fun b ob q _ _ _=>⟨ob.slots,k b ob q⟩,fun _ _ _ n _=>n,fun b ob q _=>⟨ob,k b ob q⟩,fun _ _ q=>q,fun _ _ _ q=>q,fun _ ps q=>⟨#[],by rw[q];simp⟩⟩
theorem Un.refl:Un fs ex H H h h:=Un.kept fun _ _ q=>q
theorem Un.laid (k:∀ b u,h.get? b=some u->h'.get? b=some u)(hp:h.objs.size<=a)(hn:H a=none):Un fs ex H (upd H a o) h h' where
 keep:=fun b u q _ _ _=>k b u q
 slot:=fun b u q _ _ _=>⟨u.slots,k b u q⟩
 free:=fun b u q n _=>by rw[af (yS (yA (yt q) hp))];exact n
 there:=fun b u q _=>⟨u,k b u q⟩
 tups:=fun b xs q=>by rw[af (ah q hn)];exact q
 frzs:=fun b u xs q=>by rw[af (ah q hn)];exact q
 tbls:=fun b ps q=>⟨#[],by rw[af (ah q hn),q];simp⟩
theorem Un.write (mu:Mut (H x))(he:e=x\/H e=some (.own x))(k:∀ b u,b≠e->h.get? b=some u->h'.get? b=some u)(heo:∃ u,h'.get? e=some u):Un fs ex H (upd H x o) h h':=by
 have hx:∀ b,H b=none->b≠x:=fun b n z=>by subst z;rw[n]at mu;exact mu
 have hb:∀ b,H b=none->b≠e:=fun b n z=>by
  subst z
  rcases he with r|r
  ·exact hx b n r
  ·rw[n]at r;cases r
 have hm:∀ b u,H b=some u->¬ Mut (some u)->b≠x:=fun b u q nm z=>by subst z;rw[q]at mu;exact nm mu
 refine⟨fun b u q n _ _=>k b u (hb b n) q,fun b u q n _ _=>⟨u.slots,k b u (hb b n) q⟩,fun b u q n _=>by rw[af (hx b n)];exact n,fun b u q _=>?_,
  fun b xs q=>by rw[af (hm b _ q fun z=>z)];exact q,fun b u xs q=>by rw[af (hm b _ q fun z=>z)];exact q,fun b ps q=>⟨#[],by rw[af (hm b _ q fun z=>z),q];simp⟩⟩
 by_cases hbe:b=e
 ·subst hbe;exact heo
 ·exact⟨u,k b u hbe q⟩
end
def trk (h:Heap)(H:Hp):List Addr:=(List.range h.objs.size).filter fun a=>(H a).isSome
def oZ (h:Heap)(H:Hp):Heap:=PySem.W.hideAll h (trk h H)
theorem uB (h:Heap)(H:Hp):(oZ h H).objs.size=h.objs.size:=PySem.W.hideAll_size _ _
theorem vT {h:Heap}{H:Hp}{b:Addr}{o:Obj} (e:h.get? b=some o) (n:H b=none):(oZ h H).get? b=some o:=
 PySem.W.hideAll_get _ e fun hm=>by
  have q:(H b).isSome=true:=(zo.mp hm).2
  rw[n]at q;simp at q
theorem xv {h:Heap}{H:Hp}{b:Addr}{o:Obj} (e:(oZ h H).get? b=some o):h.get? b=some o/\H b=none:=by
 have e':h.get? b=some o:=PySem.W.of_hideAll (trk h H) e
 refine⟨e',?_⟩
 cases q:H b with
 | none=>rfl
 | some x=>
  have hm:b∈trk h H:=zo.mpr ⟨Aj.mpr (yt e'),by simp[q]⟩
  have z:(oZ h H).get? b=none:=PySem.W.hideAll_none (trk h H) hm
  rw[z]at e;cases e
structure Mod (K : PySem.W.Frag) (mg : Str -> Option Value) (base : Heap) : Prop where
  kin : K.In base
  glob : base.Ns mainGlobals mg
  blt : ∃ mb, base.Ns builtinsNs mb /\ ∀ x : Str, x ≠ "__name__" -> mb x = bootBuiltins x
  nolimit : base.NoLimit
structure Cx where
  prog : Program
  w : World
  K : PySem.W.Frag
  mg : Str -> Option Value
  base : Heap
  A : Around
  N : List Str
  s₀ : Shared
  H₀ : Hp
  env : Env
  outer : List Env
  stack : List Env
  ex : List Addr
  fn : Str -> Bool
  calm : Bool
  pn : List (Addr × Obj)
  xe : Value -> Shared -> Prop
def frs (l:List Env):List Addr:=l.filterMap (·.frame)
abbrev Cx.fs (X:Cx):List Addr:=frs X.outer
def Vis (sc:Scope)(x:Str):Prop:=sc.names.lookup x=some .local\/sc.names.lookup x=some .cell\/sc.names.lookup x=some .free
def Loc (sc:Scope)(x:Str):Prop:=sc.names.lookup x=some .local\/sc.names.lookup x=some .cell
def Look (env:Env)(h:Heap)(m:Str->Option Value)(x:Str)(u:Value):Prop:=
 (env.kindOf x=some .local/\m x=some u)\/((env.kindOf x=some .cell\/env.kindOf x=some .free)/\∃ c,env.cells.lookup x=some c/\h.IsCell c (some u))
structure Cx.Ok (X : Cx) : Prop where
  mod : Mod X.K X.mg X.base
  kind : X.env.scope.kind = .function
  glob : X.env.globals = mainGlobals
  blt : X.env.builtins = builtinsNs
  above : X.s₀.heap.objs.size <= X.env.locals
  inj : ∀ x y c, X.env.cells.lookup x = some c -> X.env.cells.lookup y = some c -> x = y
  has : ∀ x, (X.env.kindOf x = some .cell \/ X.env.kindOf x = some .free) -> ∃ c, X.env.cells.lookup x = some c
  cab : ∀ x c, X.fn x = true -> X.env.cells.lookup x = some c -> X.s₀.heap.objs.size <= c
  hd : X.calm = true -> X.A.handled = none
  frames : X.A.frames = some X.stack
  stk : X.stack = X.outer \/ (X.stack = X.env :: X.outer /\ X.env.frame = some X.env.locals)
  exf : ∀ b ∈ X.ex, b ≠ X.env.locals /\ ∀ x c, X.env.cells.lookup x = some c -> c ≠ b
  bs : ∀ b o, X.base.get? b = some o -> X.s₀.heap.get? b = some o /\ X.H₀ b = none
  bsz : X.base.objs.size <= X.s₀.heap.objs.size
  noex : ∀ b o, X.base.get? b = some o -> b ∉ X.ex
  exfs : ∀ b ∈ X.ex, b ∉ X.fs
  funs : X.s₀.heap.FunFrames X.base X.outer
  frf : ∀ b ∈ X.fs, X.H₀ b = none
structure Inv (X : Cx) (pins : List (Addr × Obj)) (σ : List (Option V)) (H : Hp) (s : Shared) : Prop where
  ok : X.Ok
  os : s.os = X.s₀.os
  bare : AllBare s.gens
  base : Un X.fs X.ex X.H₀ H X.s₀.heap s.heap
  loc : ∃ m, s.heap.Ns X.env.locals m /\ ∀ (i : Nat) (x : Str) (v : V), X.N[i]? = some x -> σ[i]? = some (some v) -> Vis X.env.scope x -> ∃ u, RelV v u /\ Look X.env s.heap m x u
  cell : ∀ x c, X.env.cells.lookup x = some c -> ∃ v, s.heap.IsCell c v
  free : H X.env.locals = none
  freeC : ∀ x c, X.env.cells.lookup x = some c -> H c = none
  pin : ∀ p ∈ X.pn ++ pins, s.heap.get? p.1 = some p.2 /\ H p.1 = none /\ p.1 ≠ X.env.locals /\ p.1 ∉ X.fs /\ ∀ v, p.2.data ≠ .cell v
  hok : HOk X.prog X.w H s.heap
  len : σ.length = X.N.length
section
variable {X : Cx}{pins : List (Addr×Obj)}{σ : List (Option V)}{H H' : Hp}{s : Shared}{h' : Heap}
theorem Cx.Ok.nofr (ok:X.Ok){b:Addr}{o:Obj} (e:X.base.get? b=some o):b∉X.fs:=fun hb=>by
 have:=(ok.funs.mem hb).1
 rw[e]at this;cases this
theorem Inv.bs (I:Inv X pins σ H s):∀ b o,X.base.get? b=some o->s.heap.get? b=some o/\H b=none:=fun b o e=>
 ⟨I.base.keep b o (I.ok.bs b o e).1 (I.ok.bs b o e).2 (I.ok.nofr e) (I.ok.noex b o e),I.base.free b o (I.ok.bs b o e).1 (I.ok.bs b o e).2 (I.ok.noex b o e)⟩
theorem Inv.bk (I:Inv X pins σ H s):∀ b o,X.base.get? b=some o->s.heap.get? b=some o:=fun b o e=>(I.bs b o e).1
theorem Inv.mod (I:Inv X pins σ H s):Mod X.K X.mg X.base:=I.ok.mod
theorem Inv.kIn (I:Inv X pins σ H s):X.K.In s.heap:=I.ok.mod.kin.keeps I.bk
theorem Inv.lt (I:Inv X pins σ H s):X.env.locals<s.heap.objs.size:=let ⟨_,hn,_⟩:=I.loc;hn.lt
theorem Inv.sz (I:Inv X pins σ H s):X.s₀.heap.objs.size<=s.heap.objs.size:=yM I.ok.above (Ap I.lt)
theorem Inv.nofs (I:Inv X pins σ H s){a:Addr}(h:s.heap.objs.size<=a):a∉X.fs:=fun hb=>by
 obtain⟨_,o,ho,_⟩:=I.ok.funs.mem hb
 exact absurd (yA (yt ho) (yM I.sz h)) (zC _)
theorem Inv.cne (I:Inv X pins σ H s):∀ x c,X.env.cells.lookup x=some c->c≠X.env.locals:=fun x c e z=>by
 obtain⟨v,o,ho,hd⟩:=I.cell x c e
 obtain⟨m,⟨o',es,ep,ho',hd',_⟩,_⟩:=I.loc
 rw[z,ho']at ho;cases ho;rw[hd']at hd;cases hd
theorem Inv.funs (I:Inv X pins σ H s):s.heap.FunFrames X.base X.outer:=by
 have all:∀ (l:List Env),(∀ b∈frs l,b∈X.fs)->X.s₀.heap.FunFrames X.base l->s.heap.FunFrames X.base l:=by
  intro l
  induction l with
  | nil=>intro _ _;trivial
  | cons env r ih=>
   intro hs hl
   obtain⟨hk,⟨L,o,hf,hn,ho,hd⟩,hr⟩:=hl
   have hL:L∈X.fs:=hs L (by unfold frs;rw[Bg,hf];exact zr)
   obtain⟨sl,e⟩:=I.base.slot L o ho (I.ok.frf L hL) hL fun z=>I.ok.exfs L z hL
   exact⟨hk,⟨L,_,hf,hn,e,hd⟩,ih (fun b hb=>hs b (by unfold frs;rw[Bg,hf];exact yX _ hb)) hr⟩
 exact all X.outer (fun _ hb=>hb) I.ok.funs
theorem Inv.stack (I:Inv X pins σ H s):s.heap.FunFrames X.base X.stack:=by
 rcases I.ok.stk with e|⟨e,hf⟩
 ·rw[e];exact I.funs
 ·rw[e]
  obtain⟨m,hn,_⟩:=I.loc
  refine .cons (by rw[I.ok.kind];decide) hf hn ?_ I.funs
  exact Heap.get?_none_of_le (yM I.ok.bsz I.ok.above)
theorem Inv.stkSub (I:Inv X pins σ H s):∀ b∈frs X.stack,b∈X.env.locals::X.fs:=fun b hb=>by
 rcases I.ok.stk with e|⟨e,hf⟩
 ·rw[e]at hb;exact yX _ hb
 ·rw[e]at hb
  unfold frs at hb
  rw[Bg,hf]at hb
  exact hb
theorem Inv.stkFree (I:Inv X pins σ H s):∀ b∈frs X.stack,H b=none:=fun b hb=>by
 rcases yB.mp (I.stkSub b hb) with e|hb
 ·rw[e];exact I.free
 ·obtain⟨_,o,ho,_⟩:=I.ok.funs.mem hb
  exact I.base.free b o ho (I.ok.frf b hb) fun z=>I.ok.exfs b z hb
theorem Inv.step {g':Array GenState}{t':Nat}{d':Drawn}{ch:List Addr} (I:Inv X pins σ H s)
  (hch:∀ b∈ch,(b∈X.ex\/X.s₀.heap.objs.size<=b)/\b≠X.env.locals/\(∀ x c,X.env.cells.lookup x=some c->c≠b)/\∀ p∈X.pn++pins,p.1≠b)
  (keep:∀ b o,b≠X.env.locals->b∉X.fs->b∉ch->s.heap.get? b=some o->H b=none->h'.get? b=some o)
  (slot:∀ b o,b≠X.env.locals->b∈X.fs->b∉ch->s.heap.get? b=some o->H b=none->∃ sl,h'.get? b=some { o with slots:=sl }) (free:∀ b o,b∉ch->s.heap.get? b=some o->H b=none->H' b=none)
  (there:∀ b o,b∉ch->s.heap.get? b=some o->∃ o',h'.get? b=some o')
  (tups:∀ b xs,H b=some (.tup xs)->H' b=some (.tup xs)) (frzs:∀ b o u,H b=some (.frz o u)->H' b=some (.frz o u)) (tbls:∀ b ps,H b=some (.tbl ps)->∃ more,H' b=some (.tbl (ps++more)))
  (ns:∀ m,s.heap.Ns X.env.locals m->h'.Ns X.env.locals m) (hok:HOk X.prog X.w H' h') (hg:AllBare g'):
  Inv X pins σ H' { s with heap:=h',gens:=g',drawn:=d',toks:=t' }:=by
 have neL:∀ b o,X.s₀.heap.get? b=some o->b≠X.env.locals:=fun b o e=>yS (yA (yt e) I.ok.above)
 have neC:∀ b o,X.s₀.heap.get? b=some o->b∉X.ex->b∉ch:=fun b o e hx hb=>by
  rcases (hch b hb).1 with z|z
  ·exact hx z
  ·exact absurd (yA (yt e) z) (zC _)
 have cellK:∀ x c,X.env.cells.lookup x=some c->∀ v,s.heap.IsCell c v->h'.IsCell c v:=fun x c e v ⟨o,ho,hd⟩=>by
  have nch:c∉ch:=fun z=>(hch c z).2.2.1 x c e rfl
  by_cases hc:c∈X.fs
  ·obtain⟨sl,q⟩:=slot c o (I.cne x c e) hc nch ho (I.freeC x c e)
   exact⟨_,q,hd⟩
  ·exact⟨o,keep c o (I.cne x c e) hc nch ho (I.freeC x c e),hd⟩
 refine⟨I.ok,I.os,hg,⟨fun b o e n hb hx=>?_,fun b o e n hb hx=>?_,fun b o e n hx=>?_,fun b o e hx=>?_,fun b xs e=>tups b xs (I.base.tups b xs e),fun b o xs e=>frzs b o xs (I.base.frzs b o xs e),fun b ps e=>?_⟩,?_,fun x c e=>?_,?_,fun x c e=>?_,fun p hp=>?_,hok,I.len⟩
 ·exact keep b o (neL b o e) hb (neC b o e hx) (I.base.keep b o e n hb hx) (I.base.free b o e n hx)
 ·obtain⟨sl,e1⟩:=I.base.slot b o e n hb hx
  obtain⟨sl',e2⟩:=slot b _ (neL b o e) hb (neC b o e hx) e1 (I.base.free b o e n hx)
  exact⟨sl',e2⟩
 ·obtain⟨o',e1⟩:=I.base.there b o e hx
  exact free b o' (neC b o e hx) e1 (I.base.free b o e n hx)
 ·obtain⟨o',e1⟩:=I.base.there b o e hx
  exact there b o' (neC b o e hx) e1
 ·obtain⟨m1,e1⟩:=I.base.tbls b ps e
  obtain⟨m2,e2⟩:=tbls b _ e1
  exact⟨m1++m2,by rw[e2,Array.append_assoc]⟩
 ·obtain⟨m,hn,hl⟩:=I.loc
  refine⟨m,ns m hn,fun i x v e1 e2 e3=>?_⟩
  obtain⟨u,r,l⟩:=hl i x v e1 e2 e3
  refine⟨u,r,?_⟩
  rcases l with l|⟨k,c,e,z⟩
  ·exact .inl l
  ·exact .inr ⟨k,c,e,cellK x c e _ z⟩
 ·obtain⟨v,z⟩:=I.cell x c e
  exact⟨v,cellK x c e v z⟩
 ·obtain⟨m,⟨o,_,_,ho,_⟩,_⟩:=I.loc
  exact free _ o (fun z=>(hch _ z).2.1 rfl) ho I.free
 ·obtain⟨v,o,ho,hd⟩:=I.cell x c e
  exact free c o (fun z=>(hch c z).2.2.1 x c e rfl) ho (I.freeC x c e)
 ·obtain⟨e,n,ne,nf,d⟩:=I.pin p hp
  have nch:p.1∉ch:=fun z=>(hch p.1 z).2.2.2 p hp rfl
  exact⟨keep p.1 p.2 ne nf nch e n,free p.1 p.2 nch e n,ne,nf,d⟩
theorem Inv.un {t':Nat}(I:Inv X pins σ H s)(u:Un X.fs [] H H' s.heap h')(hok:HOk X.prog X.w H' h'):Inv X pins σ H' { s with heap:=h',toks:=t' }:=by
 obtain⟨m,⟨o,es,ep,ho,r⟩,_⟩:=id I.loc
 obtain⟨sl,hL⟩:=u.any ho I.free (by simp)
 exact I.step (g':=s.gens) (d':=s.drawn) (ch:=[]) (fun _ z=>nomatch z) (fun b o _ hb _ e n=>u.keep b o e n hb (by simp)) (fun b o _ hb _ e n=>u.slot b o e n hb (by simp)) (fun b o _ e n=>u.free b o e n (by simp)) (fun b o _ e=>u.there b o e (by simp)) u.tups u.frzs u.tbls (fun m' hm=>by
  obtain⟨o',es',ep',ho',r'⟩:=hm
  rw[ho]at ho';cases ho'
  exact⟨_,es',ep',hL,r'⟩) hok I.bare
theorem Inv.call {g':Array GenState}{t':Nat}{d':Drawn}{ch:List Addr} (I:Inv X pins σ H s) (u:Un (frs X.stack) ch H H' s.heap h') (hok:HOk X.prog X.w H' h') (hg:AllBare g')
  (hch:∀ b∈ch,(b∈X.ex\/X.s₀.heap.objs.size<=b)/\b≠X.env.locals/\(∀ x c,X.env.cells.lookup x=some c->c≠b)/\∀ p∈X.pn++pins,p.1≠b):
  Inv X pins σ H' { s with heap:=h',gens:=g',drawn:=d',toks:=t' }:=by
 obtain⟨m,⟨o,es,ep,ho,r⟩,_⟩:=id I.loc
 obtain⟨sl,hL⟩:=u.any ho I.free fun z=>(hch _ z).2.1 rfl
 exact I.step (ch:=ch) hch (fun b o hL hb hc e n=>u.keep b o e n (fun z=>(yB.mp (I.stkSub b z)).elim hL hb) hc) (fun b o _ _ hc e n=>u.any e n hc) (fun b o hc e n=>u.free b o e n hc) (fun b o hc e=>u.there b o e hc) u.tups u.frzs u.tbls (fun m' hm=>by
  obtain⟨o',es',ep',ho',r'⟩:=hm
  rw[ho]at ho';cases ho'
  exact⟨_,es',ep',hL,r'⟩) hok hg
theorem Inv.turned {t':Nat}{it:Addr} (I:Inv X pins σ H s) (k:∀ b o,b≠it->s.heap.get? b=some o->h'.get? b=some o) (hn:H it=none) (hL:it≠X.env.locals)
  (h1:it∈X.ex\/X.s₀.heap.objs.size<=it) (h2:∀ x c,X.env.cells.lookup x=some c->c≠it) (h3:∀ p∈X.pn++pins,p.1≠it):Inv X pins σ H { s with heap:=h',toks:=t' }:=by
 have nit:∀ b u,H b=some u->b≠it:=fun b u e z=>by rw[z,hn]at e;cases e
 refine I.step (g':=s.gens) (d':=s.drawn) (ch:=[it]) (fun b hb=>?_) (fun b o _ _ hc e _=>k b o (fun z=>hc (by simp[z])) e) (fun b o _ _ hc e _=>⟨o.slots,k b o (fun z=>hc (by simp[z])) e⟩) (fun _ _ _ _ n=>n)
  (fun b o hc e=>⟨o,k b o (fun z=>hc (by simp[z])) e⟩) (fun _ _ e=>e) (fun _ _ _ e=>e) (fun b ps e=>⟨#[],by rw[e];simp⟩) (fun m hm=>?_) (fun b u e=>?_) I.bare
 ·have e:b=it:=by simpa using hb
  subst e
  exact⟨h1,hL,h2,h3⟩
 ·obtain⟨o,es,ep,ho,r⟩:=hm
  exact⟨o,es,ep,k _ o (Ne.symm hL) ho,r⟩
 ·refine (I.hok b u e).stay (fun c v hc q=>k c v ?_ q) (fun _ q=>q) fun _ _ q=>q
  rcases hc with z|z
  ·rw[z];exact nit b u e
  ·exact nit c _ z
theorem Inv.tok (I:Inv X pins σ H s)(t:Nat):Inv X pins σ H { s with toks:=t }:=I.un (h':=s.heap) (t':=t) Un.refl I.hok
theorem Inv.kept {t':Nat}(I:Inv X pins σ H s)(k:∀ b u,s.heap.get? b=some u->h'.get? b=some u):Inv X pins σ H { s with heap:=h',toks:=t' }:=I.un (Un.kept k) (I.hok.kept k)
theorem Inv.laid {a:Addr}{o:HO}{t':Nat} (I:Inv X pins σ H s) (k:∀ b u,s.heap.get? b=some u->h'.get? b=some u) (hp:s.heap.objs.size<=a) (new:ObjOk X.prog X.w (upd H a o) h' a o):
  Inv X pins σ (upd H a o) { s with heap:=h',toks:=t' }:=I.un (Un.laid k hp (I.hok.fresh hp)) (I.hok.laid k hp new)
theorem Inv.write {x e:Addr}{o:HO}{t':Nat} (I:Inv X pins σ H s) (mu:Mut (H x)) (he:e=x\/H e=some (.own x)) (k:∀ b u,b≠e->s.heap.get? b=some u->h'.get? b=some u) (heo:∃ u,h'.get? e=some u)
  (new:ObjOk X.prog X.w (upd H x o) h' x o):Inv X pins σ (upd H x o) { s with heap:=h',toks:=t' }:=I.un (Un.write mu he k heo) (I.hok.write mu he k heo new)
theorem Inv.pins_of {pins':List (Addr×Obj)}(I:Inv X pins σ H s)(h:∀ p∈pins',s.heap.get? p.1=some p.2/\H p.1=none/\p.1≠X.env.locals/\p.1∉X.fs/\∀ v,p.2.data≠.cell v):Inv X pins' σ H s:=
 ⟨I.ok,I.os,I.bare,I.base,I.loc,I.cell,I.free,I.freeC,fun p hp=>(yE.mp hp).elim (fun z=>I.pin p (z8 _ z)) (h p),I.hok,I.len⟩
theorem lT {N:List Str}(hN:N.Nodup){i j:Nat}{x:Str} (a:N[i]?=some x) (b:N[j]?=some x):i=j:=by
 obtain⟨h1,e1⟩:=yd.mp a
 obtain⟨h2,e2⟩:=yd.mp b
 exact (List.getElem_inj hN).mp (e1.trans e2.symm)
theorem mU {M:Model}{A:Around}{E:Value->Shared->Prop}{i:Nat}{x:Str}{v:V}{u:Value}{Q:Unit->Shared->Prop} (I:Inv X pins σ H s) (hN:X.N.Nodup) (hi:X.N[i]?=some x) (hx:Loc X.env.scope x) (r:RelV v u)
  (h:∀ s',Inv X pins (σ.set i (some v)) H s'->(∃ a,Heap.SameBut a s.heap s'.heap/\(a=X.env.locals\/X.env.cells.lookup x=some a))->Q () s') (hf:X.fn x=true\/X.env.scope.names.lookup x=some .local:=by first|exact .inl rfl|exact .inr rfl|assumption):wpAny M A (storeName X.env x u) Q E s:=by
 obtain⟨m,hn,hl⟩:=id I.loc
 have hcls:(X.env.scope.kind==.class || (X.env.scope.kind==.module&&X.env.locals != X.env.globals))=false:=by rw[I.ok.kind];rfl
 have hiσ:i<σ.length:=by rw[I.len];exact (yd.mp hi).1
 have cne:=I.cne
 have tracked:∀ {a:Addr}{h':Heap},(∃ o,s.heap.get? a=some o/\H a=none)->Heap.SameBut a s.heap h'->HOk X.prog X.w H h':=fun {a h'} ha hs b ob e=>by
  obtain⟨_,_,hfree⟩:=ha
  refine (I.hok b ob e).stay (fun c w' hc q=>(hs.2 c ?_).trans q) (fun _ q=>q) fun _ _ q=>q
  rintro rfl
  rcases hc with rfl|hc
  ·rw[hfree]at e;cases e
  ·rw[hfree]at hc;cases hc
 rcases hx with hk|hk
 ·refine wpAny_storeName_local hk hn (fun h' hn' hs=>?_) hcls
  obtain⟨oL,_,_,hoL,_⟩:=id hn
  refine h _ ⟨I.ok,I.os,I.bare,⟨fun b o e n hb hx=>?_,fun b o e n hb hx=>?_,I.base.free,fun b o e hx=>?_,I.base.tups,I.base.frzs,I.base.tbls⟩,⟨_,hn',fun j y v' e1 e2 e3=>?_⟩,fun y c e=>?_,I.free,I.freeC,fun p hp=>?_,tracked ⟨oL,hoL,I.free⟩ hs,by simpa using I.len⟩ ⟨_,hs,.inl rfl⟩
  ·exact (hs.2 b (yS (yA (yt e) I.ok.above))).trans (I.base.keep b o e n hb hx)
  ·obtain⟨sl,e1⟩:=I.base.slot b o e n hb hx
   exact⟨sl,(hs.2 b (yS (yA (yt e) I.ok.above))).trans e1⟩
  ·obtain⟨o',e1⟩:=I.base.there b o e hx
   exact⟨o',(hs.2 b (yS (yA (yt e) I.ok.above))).trans e1⟩
  ·by_cases hj:j=i
   ·subst hj
    rw[hi]at e1;cases e1
    rw[List.getElem?_set_self hiσ]at e2
    cases e2
    exact⟨u,r,.inl ⟨hk,by simp⟩⟩
   ·rw[List.getElem?_set_ne (Ne.symm hj)]at e2
    obtain⟨u',r',q⟩:=hl j y v' e1 e2 e3
    refine⟨u',r',?_⟩
    rcases q with⟨k,e⟩|⟨k,c,e,z⟩
    ·refine .inl ⟨k,?_⟩
     have:y≠x:=fun e=>hj (lT hN e1 (e▸hi))
     simp[this,e]
    ·exact .inr ⟨k,c,e,z.sameBut hs (cne y c e)⟩
  ·obtain⟨w',z⟩:=I.cell y c e
   exact⟨w',z.sameBut hs (cne y c e)⟩
  ·obtain⟨e,n,ne,nf,d⟩:=I.pin p hp
   exact⟨(hs.2 p.1 ne).trans e,n,ne,nf,d⟩
 ·have hfn:X.fn x=true:=by
   rcases hf with z|z
   ·exact z
   ·rw[z]at hk;cases hk
  obtain⟨c,hc⟩:=I.ok.has x (.inl hk)
  obtain⟨w',z⟩:=I.cell x c hc
  refine wpAny_storeName_cell I.ok.kind hk hc z (fun h' hc' hs=>?_)
  obtain⟨oc,hoc,hocd⟩:=id z
  refine h { s with heap:=h' } ⟨I.ok,I.os,I.bare,⟨fun b o e n hb hx=>?_,fun b o e n hb hx=>?_,I.base.free,fun b o e hx=>?_,I.base.tups,I.base.frzs,I.base.tbls⟩,⟨m,hn.sameBut hs (Ne.symm (cne x c hc)),fun j y v' e1 e2 e3=>?_⟩,fun y c' e=>?_,I.free,I.freeC,fun p hp=>?_,tracked ⟨oc,hoc,I.freeC x c hc⟩ hs,by simpa using I.len⟩ ⟨c,hs,.inr hc⟩
  ·exact (hs.2 b (yS (yA (yt e) (I.ok.cab x c hfn hc)))).trans (I.base.keep b o e n hb hx)
  ·obtain⟨sl,e1⟩:=I.base.slot b o e n hb hx
   exact⟨sl,(hs.2 b (yS (yA (yt e) (I.ok.cab x c hfn hc)))).trans e1⟩
  ·obtain⟨o',e1⟩:=I.base.there b o e hx
   exact⟨o',(hs.2 b (yS (yA (yt e) (I.ok.cab x c hfn hc)))).trans e1⟩
  ·by_cases hj:j=i
   ·subst hj
    rw[hi]at e1;cases e1
    rw[List.getElem?_set_self hiσ]at e2
    cases e2
    exact⟨u,r,.inr ⟨.inl hk,c,hc,hc'⟩⟩
   ·rw[List.getElem?_set_ne (Ne.symm hj)]at e2
    obtain⟨u',r',q⟩:=hl j y v' e1 e2 e3
    refine⟨u',r',?_⟩
    rcases q with q|⟨k,c',e,z'⟩
    ·exact .inl q
    ·refine .inr ⟨k,c',e,z'.sameBut hs ?_⟩
     rintro rfl
     exact hj (lT hN e1 (I.ok.inj _ _ _ e hc▸hi))
  ·by_cases hcc:c'=c
   ·subst hcc;exact⟨_,hc'⟩
   ·obtain⟨w2,z2⟩:=I.cell y c' e
    exact⟨w2,z2.sameBut hs hcc⟩
  ·obtain⟨e,n,ne,nf,d⟩:=I.pin p hp
   refine⟨(hs.2 p.1 ?_).trans e,n,ne,nf,d⟩
   intro q
   rw[q,hoc]at e
   have q':oc=p.2:=Option.some.inj e
   exact d w' (by rw[<- q'];exact hocd)
theorem iP {M:Model}{A:Around}{E:Value->Shared->Prop}{i:Nat}{x:Str}{v:V}{u:Value}{Q:Unit->Shared->Prop} (I:Inv X pins σ H s) (hN:X.N.Nodup) (hi:X.N[i]?=some x) (hx:Loc X.env.scope x) (r:RelV v u)
  (h:∀ s',Inv X pins (σ.set i (some v)) H s'->Q () s') (hf:X.fn x=true\/X.env.scope.names.lookup x=some .local:=by first|exact .inl rfl|exact .inr rfl|assumption):wpAny M A (storeName X.env x u) Q E s:=
 mU I hN hi hx r (fun s' I' _=>h s' I') hf
theorem Inv.call' {s':Shared}{ch:List Addr} (I:Inv X pins σ H s) (ho:s'.os=s.os) (u:Un (frs X.stack) ch H H' s.heap s'.heap) (hok:HOk X.prog X.w H' s'.heap) (hg:AllBare s'.gens)
  (hch:∀ b∈ch,(b∈X.ex\/X.s₀.heap.objs.size<=b)/\b≠X.env.locals/\(∀ x c,X.env.cells.lookup x=some c->c≠b)/\∀ p∈X.pn++pins,p.1≠b):Inv X pins σ H' s':=by
 obtain⟨h',g',d',t',o'⟩:=s'
 have e:o'=s.os:=ho
 subst e
 exact I.call (g':=g') (t':=t') (d':=d') u hok hg hch
end
abbrev XK:=Value->Option Addr->Hp->Prop
abbrev St:=List (Option V)
abbrev VK:=V->Hp->Prop
abbrev TE:=St->Hp->VK->Prop
abbrev TT:=St->Hp->(Bool->Hp->Prop)->Prop
abbrev TA:=St->Hp->(List V->Hp->Prop)->Prop
structure jk where
  nx : St -> Hp -> Prop
  rt : VK
  bk : St -> Hp -> Prop := fun _ _ => False
  ct : St -> Hp -> Prop := fun _ _ => False
abbrev TS:=jk->St->Hp->Prop
def EP (X:Cx)(pins:List (Addr×Obj))(σ:St)(Q:VK)(u:Value)(s':Shared):Prop:=∃ v H',Inv X pins σ H' s'/\RelV v u/\Q v H'
def TP (X:Cx)(pins:List (Addr×Obj))(σ:St)(Q:Bool->Hp->Prop)(b:Bool)(s':Shared):Prop:=∃ H',Inv X pins σ H' s'/\Q b H'
def AP (X:Cx)(pins:List (Addr×Obj))(σ:St)(Q:List V->Hp->Prop)(us:List Value)(s':Shared):Prop:=∃ vs H',Inv X pins σ H' s'/\Vals vs us/\Q vs H'
def SP (X:Cx)(pins:List (Addr×Obj))(D:jk)(f:Flow)(s':Shared):Prop:=
 match f with
 | .next=>∃ σ' H',Inv X pins σ' H' s'/\D.nx σ' H'
 | .brk=>∃ σ' H',Inv X pins σ' H' s'/\D.bk σ' H'
 | .cont=>∃ σ' H',Inv X pins σ' H' s'/\D.ct σ' H'
 | .ret u=>∃ v σ' H',Inv X pins σ' H' s'/\RelV v u/\D.rt v H'
def PE (X:Cx)(e:Expr)(t:TE):Prop:=
 ∀ (pins:List (Addr×Obj))(s:Shared)(σ:St)(H:Hp)(Q:VK),Inv X pins σ H s->t σ H Q->wpAny (model X.prog X.w) X.A (eval e X.env) (EP X pins σ Q) X.xe s
def PT (X:Cx)(e:Expr)(t:TT):Prop:=
 ∀ (pins:List (Addr×Obj))(s:Shared)(σ:St)(H:Hp)(Q:Bool->Hp->Prop),Inv X pins σ H s->t σ H Q->wpAny (model X.prog X.w) X.A (isTrue e X.env (eval e X.env)) (TP X pins σ Q) X.xe s
def PW (X:Cx)(e:Expr)(t:TT):Prop:=
 ∀ (whole:Sem Value)(pins:List (Addr×Obj))(s:Shared)(σ:St)(H:Hp)(Q:Bool->Hp->Prop),Inv X pins σ H s->t σ H Q->wpAny (model X.prog X.w) X.A (isTrue e X.env whole) (TP X pins σ Q) X.xe s
theorem PW.pt {X:Cx}{e:Expr}{t:TT} (h:PW X e t):PT X e t:=h _
def PA (X:Cx)(es:List Expr)(t:TA):Prop:=
 ∀ (pos:Pos)(pins:List (Addr×Obj))(s:Shared)(σ:St)(H:Hp)(Q:List V->Hp->Prop),Inv X pins σ H s->t σ H Q->wpAny (model X.prog X.w) X.A (spliced (backTo pos (starEach es X.env))) (AP X pins σ Q) X.xe s
def PS (X:Cx)(st:Stmt)(t:TS):Prop:=
 ∀ (pins:List (Addr×Obj))(s:Shared)(σ:St)(H:Hp)(D:jk),Inv X pins σ H s->t D σ H->wpAny (model X.prog X.w) X.A (exec st X.env) (SP X pins D) X.xe s
def PSs (X:Cx)(st:List Stmt)(t:TS):Prop:=
 ∀ (pins:List (Addr×Obj))(s:Shared)(σ:St)(H:Hp)(D:jk),Inv X pins σ H s->t D σ H->wpAny (model X.prog X.w) X.A (execs st X.env) (SP X pins D) X.xe s
theorem thn {α:Type}{t:Sem α}{Q Q':α->Shared->Prop}{M:Model}{A:Around}{E:Value->Shared->Prop}{s:Shared} (h:wpAny M A t Q E s) (hQ:∀ a s,Q a s->Q' a s):wpAny M A t Q' E s:=zj h hQ fun _ _ x=>x
section
variable {X : Cx}
def gZ (i:Nat):TE:=fun σ H Q=>∃ v,σ[i]?=some (some v)/\Q v H
def tC (v:V):TE:=fun _ H Q=>Q v H
theorem pe_var {i:Nat}{x:Str}{pos:Pos} (hN:X.N[i]?=some x) (hv:Vis X.env.scope x) (hd:(x==("__debug__":Str))=false:=by decide) (hcd:(x==("__classdict__":Str))=false:=by decide):PE X (.Name x pos) (gZ i):=by
 intro pins s σ H Q I h
 obtain⟨v,e,h⟩:=h
 obtain⟨m,hn,hl⟩:=I.loc
 obtain⟨u,r,l⟩:=hl i x v hN e hv
 have fin:EP X pins σ Q u s:=⟨v,H,I,r,h⟩
 rcases l with⟨hk,hm⟩|⟨hk,c,hc,hcell⟩
 ·exact wpAny_Name (wpAny_loadName_local I.ok.kind hk hn hm fin) hd
 ·rcases hk with hk|hk
  ·exact wpAny_Name (wpAny_loadName_cell I.ok.kind hk hc hcell fin) hd
  ·exact wpAny_Name (wpAny_loadName_free I.ok.kind hk hc hcell fin hcd) hd
theorem ai {i j pos}:PE X (.Constant (.int i) j pos) (tC (.int i)):=fun _ _ _ H _ I h=>wpAny_Constant_int ⟨.int i,H,I.tok _,⟨_,rfl⟩,h⟩
theorem gn {b j pos}:PE X (.Constant (.bool b) j pos) (tC (.bl b)):=fun _ _ _ H _ I h=>Constant_bool ⟨.bl b,H,I,rfl,h⟩
theorem bD {j pos}:PE X (.Constant .none j pos) (tC .non):=fun _ _ _ H _ I h=>Constant_none ⟨.non,H,I,rfl,h⟩
theorem d7 {x j pos}:PE X (.Constant (.str x) j pos) (tC (.str x)):=fun _ _ _ H _ I h=>Calls.Constant_str ⟨.str x,H,I.tok _,⟨_,rfl⟩,h⟩
def Gl (X:Cx)(x:Str):Prop:=X.env.kindOf x=some .globalImplicit
theorem cQ {E:Value->Shared->Prop}{pins:List (Addr×Obj)}{s:Shared}{σ:St}{H:Hp}{x:Str}{u:Value}{pos:Pos}{Q:Value->Shared->Prop} (I:Inv X pins σ H s) (hg:Gl X x) (hm:X.mg x=some u) (h:Q u s)
  (hd:(x==("__debug__":Str))=false:=by decide):wpAny (model X.prog X.w) X.A (eval (.Name x pos) X.env) Q E s:=
 Calls.Name_function_global I.ok.kind hg (Calls.loadGlobal_global (by rw[I.ok.glob];exact I.mod.glob.keeps I.bk) hm h) hd
theorem iG {E:Value->Shared->Prop}{pins:List (Addr×Obj)}{s:Shared}{σ:St}{H:Hp}{x:Str}{u:Value}{pos:Pos}{Q:Value->Shared->Prop} (I:Inv X pins σ H s) (hg:Gl X x) (hm:X.mg x=none) (hv:bootBuiltins x=some u) (h:Q u s)
  (hn:x≠"__name__":=by decide) (hd:(x==("__debug__":Str))=false:=by decide):wpAny (model X.prog X.w) X.A (eval (.Name x pos) X.env) Q E s:=by
 obtain⟨mb,h1,h2⟩:=I.mod.blt
 exact Calls.Name_function_global I.ok.kind hg (Calls.loadGlobal_builtin (by rw[I.ok.glob];exact I.mod.glob.keeps I.bk) hm (by rw[I.ok.blt];exact h1.keeps I.bk) ((h2 x hn).trans hv) h) hd
theorem bX {x:Str}{v:V}{u:Value}{pos:Pos} (hg:Gl X x) (hm:X.mg x=some u) (r:RelV v u) (hd:(x==("__debug__":Str))=false:=by decide):PE X (.Name x pos) (tC v):=
 fun _ _ _ H _ I h=>cQ I hg hm ⟨v,H,I,r,h⟩ hd
theorem kE {x:Str}{v:V}{u:Value}{pos:Pos} (hg:Gl X x) (hm:X.mg x=none) (hv:bootBuiltins x=some u) (r:RelV v u) (hn:x≠"__name__":=by decide) (hd:(x==("__debug__":Str))=false:=by decide):PE X (.Name x pos) (tC v):=
 fun _ _ _ H _ I h=>iG I hg hm hv ⟨v,H,I,r,h⟩ hn hd
variable {a b : Expr}{ta tb : TE}{pos : Pos}
def PC (X:Cx)(op:CmpOp)(a b:Expr)(t:TE):Prop:=
 ∀ (pins:List (Addr×Obj))(s:Shared)(σ:St)(H:Hp)(Q:VK),Inv X pins σ H s->t σ H Q->
  wpAny (model X.prog X.w) X.A (eval a X.env) (fun v s₁=>wpAny (model X.prog X.w) X.A (eval b X.env) (fun u s₂=>wpAny (model X.prog X.w) X.A (compareOp op v u) (EP X pins σ Q) X.xe s₂) X.xe s₁) X.xe s
def tB (t:TE):TT:=fun σ H Q=>t σ H fun x H1=>∃ c,x=.bl c/\Q c H1
theorem fD {op:CmpOp}{t:TE} (h:PC X op a b t) (h1:behindInMarks op b=false:=by first|exact nobehind _ (by decide) (by decide)|rfl):PT X (.Compare a [op] [b] pos) (tB t):=by
 intro pins s σ H Q I hw
 refine wpAny_isTrue_Compare1 (thn (h pins s σ H _ I hw) fun v s1 h1=>thn h1 fun u s2 h2=>thn h2 fun c s3 ⟨x,H1,I1,r1,q1⟩=>?_) h1
 obtain⟨d,rfl,q⟩:=q1
 cases r1
 exact zE ⟨H1,I1,q⟩
theorem d6 {e:Expr}{t:TE} (h:PE X e t) (he:∀ whole,isTrue e X.env whole=(do let v <- whole;standAt e.pos;holding [v] (truthy v)):=by intro _;rfl):PT X e (tB t):=by
 intro pins s σ H Q I hw
 refine isTrue_plain (thn (h pins s σ H _ I hw) fun v s1 ⟨x,H1,I1,r1,q1⟩=>?_) (he _)
 obtain⟨d,rfl,q⟩:=q1
 cases r1
 exact zE ⟨H1,I1,q⟩
variable {tA tB' : TT}{rest : List Expr}
def tAnd (t u:TT):TT:=fun σ H Q=>t σ H fun c H1=>if c=true then u σ H1 Q else Q false H1
def tOr (t u:TT):TT:=fun σ H Q=>t σ H fun c H1=>if c=true then Q true H1 else u σ H1 Q
def tNot (t:TT):TT:=fun σ H Q=>t σ H fun c H1=>Q (!c) H1
theorem fC (ha:PT X a tA):PW X (.BoolOp .And [a] pos) tA:=by
 intro wh pins s σ H Q I h
 refine isTrue_and (thn (ha pins s σ H Q I h) fun c s1 e=>?_)
 cases c with
 | true=>exact isTrue_and_nil e
 | false=>exact e
theorem lA (ha:PT X a tA):PW X (.BoolOp .Or [a] pos) tA:=by
 intro wh pins s σ H Q I h
 refine isTrue_or (thn (ha pins s σ H Q I h) fun c s1 e=>?_)
 cases c with
 | false=>exact isTrue_or_nil e
 | true=>exact e
theorem iC (ha:PT X a tA)(hb:PW X (.BoolOp .And (b::rest) pos) tB'):PW X (.BoolOp .And (a::b::rest) pos) (tAnd tA tB'):=by
 intro wh pins s σ H Q I h
 refine isTrue_and (thn (ha pins s σ H _ I h) fun c s1 ⟨H1,I1,q1⟩=>?_)
 cases c with
 | true=>exact hb wh pins s1 σ H1 Q I1 q1
 | false=>exact⟨H1,I1,q1⟩
theorem qa (ha:PT X a tA)(hb:PW X (.BoolOp .Or (b::rest) pos) tB'):PW X (.BoolOp .Or (a::b::rest) pos) (tOr tA tB'):=by
 intro wh pins s σ H Q I h
 refine isTrue_or (thn (ha pins s σ H _ I h) fun c s1 ⟨H1,I1,q1⟩=>?_)
 cases c with
 | true=>exact⟨H1,I1,q1⟩
 | false=>exact hb wh pins s1 σ H1 Q I1 q1
theorem gk (ha:PT X a tA):PT X (.UnaryOp .Not a pos) (tNot tA):=by
 intro pins s σ H Q I h
 exact isTrue_not (ha pins s σ H (fun c H1=>Q (!c) H1) I h)
def tAndV (ta tb:TE):TE:=fun σ H Q=>ta σ H fun x H1=>∃ c,x=.bl c/\if c=true then tb σ H1 Q else Q (.bl false) H1
def tOrV (ta tb:TE):TE:=fun σ H Q=>ta σ H fun x H1=>∃ c,x=.bl c/\if c=true then Q (.bl true) H1 else tb σ H1 Q
def tNotV (ta:TE):TE:=fun σ H Q=>ta σ H fun x H1=>∃ c,x=.bl c/\Q (.bl (!c)) H1
theorem gl {op}{t:TE} (h:PE X a t):PE X (.BoolOp op [a] pos) t:=fun pins s σ H Q I hw=>BoolOp_one (h pins s σ H Q I hw)
theorem fF (ha:PE X a ta)(hb:PE X (.BoolOp .And (b::rest) pos) tb):PE X (.BoolOp .And (a::b::rest) pos) (tAndV ta tb):=by
 intro pins s σ H Q I h
 refine BoolOp_and (thn (ha pins s σ H _ I h) fun v s1 ⟨x,H1,I1,r1,q1⟩=>?_)
 obtain⟨c,rfl,q1⟩:=q1
 cases r1
 refine zE ?_
 cases c with
 | true=>exact hb pins s1 σ H1 Q I1 q1
 | false=>exact⟨.bl false,H1,I1,rfl,q1⟩
theorem pe_or (ha:PE X a ta)(hb:PE X (.BoolOp .Or (b::rest) pos) tb):PE X (.BoolOp .Or (a::b::rest) pos) (tOrV ta tb):=by
 intro pins s σ H Q I h
 refine BoolOp_or (thn (ha pins s σ H _ I h) fun v s1 ⟨x,H1,I1,r1,q1⟩=>?_)
 obtain⟨c,rfl,q1⟩:=q1
 cases r1
 refine zE ?_
 cases c with
 | false=>exact hb pins s1 σ H1 Q I1 q1
 | true=>exact⟨.bl true,H1,I1,rfl,q1⟩
theorem rO (ha:PE X a ta):PE X (.UnaryOp .Not a pos) (tNotV ta):=by
 intro pins s σ H Q I h
 refine UnaryOp_ (thn (ha pins s σ H _ I h) fun v s1 ⟨x,H1,I1,r1,q1⟩=>?_)
 obtain⟨c,rfl,q1⟩:=q1
 cases r1
 exact not_of (zE ⟨.bl (!c),H1,I1,rfl,q1⟩)
def tIf (t:TT)(ta tb:TE):TE:=fun σ H Q=>t σ H fun c H1=>if c=true then ta σ H1 Q else tb σ H1 Q
theorem lF {c:Expr}(hc:PT X c tA)(ha:PE X a ta)(hb:PE X b tb):PE X (.IfExp c a b pos) (tIf tA ta tb):=by
 intro pins s σ H Q I h
 refine wpAny_IfExp (thn (hc pins s σ H _ I h) fun d s1 ⟨H1,I1,q1⟩=>?_)
 cases d with
 | true=>exact ha pins s1 σ H1 Q I1 q1
 | false=>exact hb pins s1 σ H1 Q I1 q1
end
def SqL (K:PySem.W.Frag)(H:Hp)(a:Addr)(xs:List V):Prop:=
 Rd H a (.lst xs) \/
  ∃ (o:Obj)(its:Array Value)(n:Nat),K.lookup a=some o/\o.cls=.type "list"/\o.dict=none/\o.data=.seq its n/\its.size<=sizeLine/\Vals xs its.toList
def SqT (K:PySem.W.Frag)(H:Hp)(a:Addr)(xs:List V):Prop:=
 Rd H a (.tup xs) \/
  ∃ (o:Obj)(its:Array Value)(n:Nat),K.lookup a=some o/\o.cls=.type "tuple"/\o.data=.seq its n/\its.size<=sizeLine/\Vals xs its.toList
def absV:Value->Option V
 | .none=>some .non
 | .bool b=>some (.bl b)
 | .int i _=>some (.int i)
 | .str x _=>some (.str x)
 | .bytes b _=>some (.byt b)
 | .float b _=>some (.flt b)
 | .ref a=>some (.ref a)
 | .type n=>some (.ty n)
 | _=>none
theorem RelV.abs {x:V}{u:Value} (r:RelV x u):absV u=some x:=by
 cases x with
 | non=>cases r;rfl
 | bl _=>cases r;rfl
 | int _=>obtain⟨t,rfl⟩:=r;rfl
 | str _=>obtain⟨t,rfl⟩:=r;rfl
 | byt _=>obtain⟨t,rfl⟩:=r;rfl
 | flt _=>obtain⟨t,rfl⟩:=r;rfl
 | ref _=>cases r;rfl
 | ty _=>cases r;rfl
theorem RelV.inj {x y:V}{u:Value} (r:RelV x u) (q:RelV y u):x=y:=Option.some.inj (r.abs.symm.trans q.abs)
theorem Vals.inj:∀ {xs ys:List V}{us:List Value},Vals xs us->Vals ys us->xs=ys
 | _,_,_,.nil,.nil=>rfl
 | _,_,_,.cons r t,.cons r' t'=>by rw[r.inj r',Vals.inj t t']
section
variable {X : Cx}{pins : List (Addr×Obj)}{σ : St}{H : Hp}{s : Shared}{a : Addr}{xs ys : List V}
theorem SqL.of {K:PySem.W.Frag}(h:H a=some (.lst xs)):SqL K H a xs:=.inl (.inl h)
theorem SqT.of {K:PySem.W.Frag}(h:H a=some (.tup xs)):SqT K H a xs:=.inl (.inl h)
theorem Inv.list (I:Inv X pins σ H s)(h:SqL X.K H a xs):∃ its:List Value,Vals xs its/\PlainL s.heap a its.toArray/\xs.length<=sizeLine:=by
 rcases h with h|⟨o,its,n,hk,hc,hd,hs,hz,r⟩
 ·obtain⟨z,its,n,r,e⟩:=h.ok I.hok
  exact⟨its,r,⟨_,n,e,rfl,rfl,rfl⟩,z⟩
 ·refine⟨its.toList,r,⟨o,n,I.kIn a o hk,hc,hd,by simpa using hs⟩,?_⟩
  have e:=r.length
  simp only[zx]at e
  omega
theorem Inv.tuple (I:Inv X pins σ H s)(h:SqT X.K H a xs):∃ its:List Value,Vals xs its/\IsTup s.heap a its.toArray/\xs.length<=sizeLine:=by
 rcases h with h|⟨o,its,n,hk,hc,hs,hz,r⟩
 ·obtain⟨z,its,r,p⟩:=h.ok I.hok
  exact⟨its,r,p,z⟩
 ·refine⟨its.toList,r,⟨o,I.kIn a o hk,hc,n,by simpa using hs⟩,?_⟩
  have e:=r.length
  simp only[zx]at e
  omega
theorem Inv.list_inj (I:Inv X pins σ H s)(h:SqL X.K H a xs)(h':SqL X.K H a ys):xs=ys:=by
 obtain⟨its,r,⟨o,n,e,_,_,d⟩,_⟩:=I.list h
 obtain⟨its',r',⟨o',n',e',_,_,d'⟩,_⟩:=I.list h'
 rw[e]at e';cases e'
 rw[d]at d'
 injection d' with d1 _
 have:its=its':=by simpa using congrArg Array.toList d1
 subst this
 exact r.inj r'
theorem Inv.tuple_inj (I:Inv X pins σ H s)(h:SqT X.K H a xs)(h':SqT X.K H a ys):xs=ys:=by
 obtain⟨its,r,⟨o,e,_,n,d⟩,_⟩:=I.tuple h
 obtain⟨its',r',⟨o',e',_,n',d'⟩,_⟩:=I.tuple h'
 rw[e]at e';cases e'
 rw[d]at d'
 injection d' with d1 _
 have:its=its':=by simpa using congrArg Array.toList d1
 subst this
 exact r.inj r'
end
abbrev Cx.wish (X:Cx)(E:Value->Shared->Prop):Cx:={ X with xe:=E }
abbrev Cx.nox (X:Cx):Cx:=X.wish fun _ _=>False
theorem Cx.Ok.wish {X:Cx}(ok:X.Ok)(E:Value->Shared->Prop):(X.wish E).Ok:=
 ⟨ok.mod,ok.kind,ok.glob,ok.blt,ok.above,ok.inj,ok.has,ok.cab,ok.hd,ok.frames,ok.stk,ok.exf,ok.bs,ok.bsz,ok.noex,ok.exfs,ok.funs,ok.frf⟩
theorem Cx.Ok.unwish {X:Cx}{E:Value->Shared->Prop} (ok:(X.wish E).Ok):X.Ok:=
 ⟨ok.mod,ok.kind,ok.glob,ok.blt,ok.above,ok.inj,ok.has,ok.cab,ok.hd,ok.frames,ok.stk,ok.exf,ok.bs,ok.bsz,ok.noex,ok.exfs,ok.funs,ok.frf⟩
section
variable {X : Cx}{pins : List (Addr×Obj)}{σ : St}{H : Hp}{s : Shared}{E : Value -> Shared -> Prop}
theorem Inv.wish (I:Inv X pins σ H s)(E:Value->Shared->Prop):Inv (X.wish E) pins σ H s:=⟨I.ok.wish E,I.os,I.bare,I.base,I.loc,I.cell,I.free,I.freeC,I.pin,I.hok,I.len⟩
theorem Inv.unwish (I:Inv (X.wish E) pins σ H s):Inv X pins σ H s:=⟨I.ok.unwish,I.os,I.bare,I.base,I.loc,I.cell,I.free,I.freeC,I.pin,I.hok,I.len⟩
theorem SP.unwish {D:jk}{f:Flow}{s':Shared} (h:SP (X.wish E) pins D f s'):SP X pins D f s':=by
 cases f with
 | next=>obtain⟨σ',H',I,q⟩:=h;exact⟨σ',H',I.unwish,q⟩
 | brk=>obtain⟨σ',H',I,q⟩:=h;exact⟨σ',H',I.unwish,q⟩
 | cont=>obtain⟨σ',H',I,q⟩:=h;exact⟨σ',H',I.unwish,q⟩
 | ret u=>obtain⟨v,σ',H',I,r,q⟩:=h;exact⟨v,σ',H',I.unwish,r,q⟩
theorem PSs.nox {st:List Stmt}{t:TS} (h:PSs X.nox st t):PSs X st t:=fun pins s σ H D I hw=>
 zj (h pins s σ H D (I.wish _) hw) (fun _ _ q=>q.unwish) fun _ _ z=>False.elim z
end
section
variable {X : Cx}{st : Stmt}{rest : List Stmt}{t u : TS}{e : Expr}{te : TE}{pos : Pos}
def tNext:TS:=fun D σ H=>D.nx σ H
def tSeq (t u:TS):TS:=fun D σ H=>t { D with nx:=u D } σ H
theorem aE:PSs X [] tNext:=fun _ _ σ H _ I h=>Bf ⟨σ,H,I,h⟩
theorem aa (h1:PS X st t)(h2:PSs X rest u):PSs X (st::rest) (tSeq t u):=by
 intro pins s σ H D I h
 refine wpAny_execs_cons (thn (h1 pins s σ H { D with nx:=u D } I h) fun f s1 q=>?_)
 cases f with
 | next=>
  obtain⟨σ',H',I',q⟩:=q
  exact h2 pins s1 σ' H' D I' q
 | ret v=>exact q
 | brk=>exact q
 | cont=>exact q
theorem ae (h1:PS X st t):PSs X [st] t:=by
 intro pins s σ H D I h
 refine wpAny_execs_cons (thn (h1 pins s σ H D I h) fun f s1 q=>?_)
 cases f with
 | next=>exact Bf q
 | ret v=>exact q
 | brk=>exact q
 | cont=>exact q
theorem Inv.quiet {pins:List (Addr×Obj)}{σ:St}{H:Hp}{s:Shared} (I:Inv X pins σ H s):interactive X.env=false:=by simp[interactive,I.ok.kind]
def tDrop (te:TE):TS:=fun D σ H=>te σ H fun _ H1=>D.nx σ H1
theorem aU (he:PE X e te)(hs:swapsWith e none pos.line X.env=pure false:=by rfl):PS X (.Expr e pos) (tDrop te):=by
 intro pins s σ H D I h
 exact wpAny_Expr_any (thn (he pins s σ H _ I h) fun v s1 ⟨x,H1,I1,r1,q1⟩=>⟨σ,H1,I1,q1⟩) I.quiet hs
def tRet (te:TE):TS:=fun D σ H=>te σ H D.rt
theorem ar (he:PE X e te):PS X (.Return (some e) pos) (tRet te):=by
 intro pins s σ H D I h
 exact wpAny_Return_some (thn (he pins s σ H _ I h) fun v s1 ⟨x,H1,I1,r1,q1⟩=>⟨x,σ,H1,I1,r1,q1⟩)
def tRetN:TS:=fun D _ H=>D.rt .non H
theorem wT:PS X (.Return none pos) tRetN:=fun _ _ σ H _ I h=>wpAny_Return_none ⟨.non,σ,H,I,rfl,h⟩
def tIfS (c:TT)(t u:TS):TS:=fun D σ H=>c σ H fun b H1=>if b=true then t D σ H1 else u D σ H1
theorem ba {c:Expr}{a b:List Stmt}{tc:TT} (hc:PT X c tc) (ha:PSs X a t) (hb:PSs X b u):PS X (.If c a b pos) (tIfS tc t u):=by
 intro pins s σ H D I h
 refine wpAny_If (thn (hc pins s σ H _ I h) fun d s1 ⟨H1,I1,q1⟩=>?_)
 cases d with
 | true=>exact ha pins s1 σ H1 D I1 q1
 | false=>exact hb pins s1 σ H1 D I1 q1
def tNever:TS:=fun _ _ _=>False
theorem lB:PS X st tNever:=fun _ _ _ _ _ _ h=>h.elim
end
abbrev TG:=V->St->Hp->(St->Hp->Prop)->Prop
abbrev TGs:=List V->St->Hp->(St->Hp->Prop)->Prop
def PG (X:Cx)(target:Expr)(t:TG):Prop:=
 ∀ (pins:List (Addr×Obj))(s:Shared)(σ:St)(H:Hp)(v:V)(u:Value)(Q:St->Hp->Prop),Inv X pins σ H s->RelV v u->t v σ H Q->
  wpAny (model X.prog X.w) X.A (assign target X.env u) (fun _ s'=>∃ σ' H',Inv X pins σ' H' s'/\Q σ' H') X.xe s
def PGs (X:Cx)(ts:List Expr)(t:TGs):Prop:=
 ∀ (pins:List (Addr×Obj))(s:Shared)(σ:St)(H:Hp)(vs:List V)(us:List Value)(Q:St->Hp->Prop),Inv X pins σ H s->Vals vs us->t vs σ H Q->
  wpAny (model X.prog X.w) X.A (assignInOrder ((assignEach ts X.env).map (·.2)) us) (fun _ s'=>∃ σ' H',Inv X pins σ' H' s'/\Q σ' H') X.xe s
abbrev TSet:=V->V->V->Hp->(Hp->Prop)->Prop
def PSet (X:Cx)(t:TSet):Prop:=
 ∀ (pins:List (Addr×Obj))(s:Shared)(σ:St)(H:Hp)(o i v:V)(ov iv u:Value)(Q:Hp->Prop),Inv X pins σ H s->RelV o ov->RelV i iv->RelV v u->t o i v H Q->
  wpAny (model X.prog X.w) X.A (setItem ov iv u) (fun _ s'=>∃ H',Inv X pins σ H' s'/\Q H') X.xe s
abbrev TIp:=V->V->Hp->VK->Prop
def PIp (X:Cx)(op:Operator)(t:TIp):Prop:=
 ∀ (pins:List (Addr×Obj))(s:Shared)(σ:St)(H:Hp)(x y:V)(v u:Value)(Q:VK),Inv X pins σ H s->RelV x v->RelV y u->t x y H Q->
  wpAny (model X.prog X.w) X.A (inplaceOp op v u) (EP X pins σ Q) X.xe s
section
variable {X : Cx}{pos : Pos}
def bd (i:Nat):TG:=fun v σ H Q=>Q (σ.set i (some v)) H
theorem aj {i:Nat}{x:Str} (hN:X.N.Nodup) (hi:X.N[i]?=some x) (hx:Loc X.env.scope x) (hf:X.fn x=true\/X.env.scope.names.lookup x=some .local:=by first|exact .inl rfl|exact .inr rfl|assumption):PG X (.Name x pos) (bd i):=by
 intro pins s σ H v u Q I r h
 exact wpAny_assign_Name (iP I hN hi hx r (fun s' I'=>⟨_,H,I',h⟩) hf)
def sA:TGs:=fun vs σ H Q=>vs=[]/\Q σ H
def dM (t:TG)(u:TGs):TGs:=fun vs σ H Q=>∃ v r,vs=v::r/\t v σ H fun σ' H'=>u r σ' H' Q
theorem bw:PGs X [] sA:=by
 intro pins s σ H vs us Q I r h
 obtain⟨e,h⟩:=h
 subst e
 cases r
 exact assignInOrder_nil ⟨σ,H,I,h⟩
theorem av {e:Expr}{es:List Expr}{t:TG}{u:TGs} (h1:PG X e t) (h2:PGs X es u)
  (hs:(assignEach (e::es) X.env).map (·.2)=assign e X.env::(assignEach es X.env).map (·.2):=by rfl):PGs X (e::es) (dM t u):=by
 intro pins s σ H vs us Q I r h
 obtain⟨v,vr,e1,h⟩:=h
 subst e1
 cases r with
 | cons r rr=>
  rw[hs]
  refine assignInOrder_cons (thn (h1 pins s σ H _ _ _ I r h) fun _ s1 ⟨σ1,H1,I1,q1⟩=>?_)
  exact h2 pins s1 σ1 H1 _ _ Q I1 rr q1
def qM (K:PySem.W.Frag)(n:Nat)(t:TGs):TG:=fun v σ H Q=>∃ a xs,v=.ref a/\SqT K H a xs/\xs.length=n/\t xs σ H Q
theorem pg_tup {es:List Expr}{k:Nat}{t:TGs}{n:Nat} (hc:X.calm=true) (h:PGs X es t)
  (hn:(assignEach es X.env).length=n:=by rfl) (hst:(assignEach es X.env).findIdx? (·.1)=none:=by rfl):PG X (.Tuple es k pos) (qM X.K n t):=by
 intro pins s σ H v u Q I r hw
 obtain⟨a,xs,e1,hq,hl,hw⟩:=hw
 subst e1
 cases r
 obtain⟨its,rv,ht,hz⟩:=I.tuple hq
 refine assign_Tuple_tuple (I.ok.hd hc) ht (by simp[hn,<- hl,rv.length]) hst fun h' hx=>?_
 have I1:Inv X pins σ H { s with heap:=h' }:=I.kept (t':=s.toks) fun b o e=>hx b o (yS (yt e)) e
 exact h pins _ σ H xs _ Q I1 (by simpa using rv) hw
def gSub (to ti:TE)(t:TSet):TG:=fun v σ H Q=>to σ H fun o H1=>ti σ H1 fun i H2=>t o i v H2 fun H3=>Q σ H3
theorem vi {o i:Expr}{to ti:TE}{t:TSet} (ho:PE X o to) (hi:PE X i ti) (hs:PSet X t)
  (ha:∀ v,assign (.Subscript o i pos) X.env v=(do
   let ov <- holding [v] (eval o X.env)
   let iv <- holding [v,ov] (eval i X.env)
   standAt pos
   holding [v,ov,iv] (setItem ov iv v)
   release [v,ov,iv] []):=by intro _;rfl):PG X (.Subscript o i pos) (gSub to ti t):=by
 intro pins s σ H v u Q I r h
 rw[ha]
 refine yc (zu (thn (ho pins s σ H _ I h) fun ov s1 ⟨x,H1,I1,r1,q1⟩=>?_))
 refine yc (zu (thn (hi pins s1 σ H1 _ I1 q1) fun iv s2 ⟨y,H2,I2,r2,q2⟩=>?_))
 refine yc (Bc (yc (zu (thn (hs pins s2 σ H2 x y v ov iv u _ I2 r1 r2 r q2) fun _ s3 ⟨H3,I3,q3⟩=>?_))))
 exact wpAny_release ⟨σ,H3,I3,q3⟩
def v4 (te:TE)(g:TG):TS:=fun D σ H=>te σ H fun x H1=>g x σ H1 D.nx
theorem rN {tg e:Expr}{te:TE}{g:TG} (he:PE X e te) (hg:PG X tg g) (hs:swapsWithSole [tg] e pos.line X.env=pure false:=by rfl) (hw:swappedStores [tg] e X.env=pure none:=by rfl)
  (h1:(assignEach [tg] X.env).map (·.2)=[assign tg X.env]:=by rfl):PS X (.Assign [tg] e pos) (v4 te g):=by
 intro pins s σ H D I h
 refine wpAny_Assign_stores (thn (he pins s σ H _ I h) fun v s1 ⟨x,H1,I1,r1,q1⟩=>?_) hs hw
 rw[h1]
 exact thn (hg pins s1 σ H1 x v _ I1 r1 q1) fun _ s2 q=>q
theorem ax {i:Nat}{x:Str}{e:Expr}{te:TE}{pos':Pos} (hN:X.N.Nodup) (hi:X.N[i]?=some x) (hx:Loc X.env.scope x) (he:PE X e te) (hs:swapsWith e (some (.Name x pos')) pos.line X.env=pure false:=by rfl) (hf:X.fn x=true\/X.env.scope.names.lookup x=some .local:=by first|exact .inl rfl|exact .inr rfl|assumption):
  PS X (.Assign [.Name x pos'] e pos) (v4 te (bd i)):=by
 intro pins s σ H D I h
 refine wpAny_Assign_Name (thn (he pins s σ H _ I h) fun v s1 ⟨y,H1,I1,r1,q1⟩=>?_) hs
 exact iP I1 hN hi hx r1 (fun s2 I2=>⟨_,H1,I2,q1⟩) hf
def tAug (i:Nat)(te:TE)(ti:TIp):TS:=fun D σ H=>∃ x,σ[i]?=some (some x)/\te σ H fun y H1=>ti x y H1 fun z H2=>D.nx (σ.set i (some z)) H2
theorem vf {i:Nat}{x:Str}{e:Expr}{te:TE}{op:Operator}{ti:TIp}{pos':Pos} (hN:X.N.Nodup) (hi:X.N[i]?=some x) (hx:Loc X.env.scope x) (he:PE X e te) (ho:PIp X op ti) (hf:X.fn x=true\/X.env.scope.names.lookup x=some .local:=by first|exact .inl rfl|exact .inr rfl|assumption):
  PS X (.AugAssign (.Name x pos') op e pos) (tAug i te ti):=by
 intro pins s σ H D I h
 obtain⟨v,e1,h⟩:=h
 obtain⟨m,hn,hl⟩:=I.loc
 have vis:Vis X.env.scope x:=by rcases hx with k|k;exact .inl k;exact .inr (.inl k)
 obtain⟨u,r,l⟩:=hl i x v hi e1 vis
 refine wpAny_AugAssign_Name ?_
 have go:wpAny (model X.prog X.w) X.A (eval e X.env) (fun w s₂=>wpAny (model X.prog X.w) X.A (inplaceOp op u w) (fun r s₃=>wpAny (model X.prog X.w) X.A (storeName X.env x r) (fun _=>SP X pins D .next) X.xe s₃) X.xe s₂) X.xe s:=by
  refine thn (he pins s σ H _ I h) fun w s1 ⟨y,H1,I1,r1,q1⟩=>?_
  refine thn (ho pins s1 σ H1 v y u w _ I1 r r1 q1) fun z s2 ⟨zv,H2,I2,r2,q2⟩=>?_
  exact iP I2 hN hi hx r2 (fun s3 I3=>⟨_,H2,I3,q2⟩) hf
 rcases l with⟨hk,hm⟩|⟨hk,c,hc,hcell⟩
 ·exact wpAny_loadName_local I.ok.kind hk hn hm go
 ·rcases hk with hk|hk
  ·exact wpAny_loadName_cell I.ok.kind hk hc hcell go
  ·rcases hx with k|k
   ·have:X.env.scope.names.lookup x=some .free:=hk
    rw[k]at this;cases this
   ·have:X.env.scope.names.lookup x=some .free:=hk
    rw[k]at this;cases this
def ipI (f:Int->Int->Int):TIp:=fun x y H Q=>∃ i j,x=.int i/\y=.int j/\Q (.int (f i j)) H
theorem vQ:PIp X .Add (ipI fun i j=>i+j):=by
 intro pins s σ H x y v u Q I r1 r2 h
 obtain⟨i,j,e1,e2,q⟩:=h
 subst e1;subst e2
 obtain⟨t,rfl⟩:=r1
 obtain⟨t',rfl⟩:=r2
 exact iadd_int ⟨.int _,H,I.tok _,⟨_,rfl⟩,q⟩
end
section
variable {X : Cx}{pos : Pos}
def tWhile (c:TT)(tb:TS):TS:=fun D σ H=>∃ W:Nat->St->Hp->Prop,(∃ m,W m σ H)/\∀ m σ H,W m σ H->
 c σ H fun b H1=>if b=true then ∃ N:St->Hp->Prop,(∀ σ' H',N σ' H'->∃ m',m'<m/\W m' σ' H')/\tb { D with nx:=N,ct:=N,bk:=D.nx } σ H1 else D.nx σ H1
theorem iV {c:Expr}{body:List Stmt}{tc:TT}{tb:TS} (hp:PassesOwn (model X.prog X.w) X.A X.env X.xe) (hc:PT X c tc) (hb:PSs X body tb):PS X (.While c body [] pos) (tWhile tc tb):=by
 intro pins s σ H D I h
 obtain⟨W,⟨m0,w0⟩,turn⟩:=h
 refine wpAny_While (codeAny_whileLoop (fun n s'=>∃ σ' H',Inv X pins σ' H' s'/\W n σ' H') ?_ m0 ⟨σ,H,I,w0⟩)
 rintro n s1 ⟨σ1,H1,I1,w1⟩
 refine Ar hp (thn (hc pins s1 σ1 H1 _ I1 (turn n σ1 H1 w1)) fun b s2 ⟨H2,I2,q2⟩=>?_)
 cases b with
 | true=>
  obtain⟨N,hN,q2⟩:=q2
  rw[if_pos rfl]
  refine Ar hp (thn (hb pins s2 σ1 H2 _ I2 q2) fun f s3 q3=>?_)
  cases f with
  | next=>
   obtain⟨σ3,H3,I3,n3⟩:=q3
   obtain⟨m',hm,w3⟩:=hN σ3 H3 n3
   exact⟨m',hm,σ3,H3,I3,w3⟩
  | cont=>
   obtain⟨σ3,H3,I3,n3⟩:=q3
   obtain⟨m',hm,w3⟩:=hN σ3 H3 n3
   exact⟨m',hm,σ3,H3,I3,w3⟩
  | brk=>exact q3
  | ret v=>exact q3
 | false=>
  rw[if_neg yv]
  exact Bf ⟨σ1,H2,I2,q2⟩
end
structure It where
  go : Nat -> Hp -> Prop
  yld : Nat -> Hp -> V -> Hp -> Prop
  stop : Nat -> Hp -> Prop
def kA (X:Cx)(pins:List (Addr×Obj))(H:Hp)(b:Addr):Prop:=
 H b=none/\b≠X.env.locals/\b∉X.fs/\(b∈X.ex\/X.s₀.heap.objs.size<=b)/\(∀ x c,X.env.cells.lookup x=some c->c≠b)/\∀ p∈X.pn++pins,p.1≠b
theorem Inv.fpOk {X:Cx}{pins:List (Addr×Obj)}{σ:St}{H H':Hp}{s:Shared}{b:Addr} (I:Inv X pins σ H s) (hb:s.heap.objs.size<=b) (hn:H' b=none):kA X pins H' b:=by
 refine⟨hn,Bj (yA I.lt hb),I.nofs hb,.inr (yM I.sz hb),fun x c e z=>?_,fun p hp z=>?_⟩
 ·obtain⟨v,q⟩:=I.cell x c e
  exact absurd (yA q.lt (by rw[z];exact hb)) (zC _)
 ·exact absurd (yA (yt (I.pin p hp).1) (by rw[z];exact hb)) (zC _)
structure Turn0 (Cc : Cx -> Prop) (P : Program) (w : World) (K : PySem.W.Frag) (tg : Expr) (J : It) (fp : List Addr) (it : Addr) (tn : Nat -> Heap -> Prop) : Prop where
  mem : it ∈ fp
  obj : ∀ i h, tn i h -> ∀ b ∈ fp, ∃ o, h.get? b = some o /\ ∀ v, o.data ≠ .cell v
  keep : ∀ i h h', tn i h -> (∀ b ∈ fp, ∀ o, h.get? b = some o -> h'.get? b = some o) -> tn i h'
  item : ∀ (X : Cx), X.prog = P -> X.w = w -> X.K = K -> Cc X -> ∀ (i : Nat) (pins : List (Addr × Obj)) (s : Shared) (σ : St) (H : Hp) (E : Value -> Shared -> Prop), Inv X pins σ H s -> (∀ b ∈ fp, kA X pins H b) -> tn i s.heap -> J.go i H ->
    wpAny (model P w) X.A (pyNext (.ref it)) (fun r s1 => ∃ u, r = some u /\
      wpAny (model P w) X.A (letOwnedTupleGo tg (.ref it) u) (fun _ s2 => ∃ x H', Inv X pins σ H' s2 /\ RelV x u /\ J.yld i H x H' /\ tn (i + 1) s2.heap /\ ∀ b ∈ fp, H' b = none) E s1) E s
  done : ∀ (X : Cx), X.prog = P -> X.w = w -> X.K = K -> Cc X -> ∀ (i : Nat) (pins : List (Addr × Obj)) (s : Shared) (σ : St) (H : Hp) (E : Value -> Shared -> Prop), Inv X pins σ H s -> (∀ b ∈ fp, kA X pins H b) -> tn i s.heap -> J.stop i H ->
    wpAny (model P w) X.A (pyNext (.ref it)) (fun r s1 => r = none /\ Inv X pins σ H s1) E s
  self : ∀ (A : Around) (i : Nat) (s : Shared) (Q : Value -> Shared -> Prop) (E : Value -> Shared -> Prop), tn i s.heap -> Q (.ref it) s -> wpAny (model P w) A (pyIter (.ref it)) Q E s
abbrev sO:=Turn0 fun X=>X.calm=true
abbrev TI:=St->Hp->(It->Hp->Prop)->Prop
def PIE0 (Cc:Cx->Prop)(X:Cx)(pins:List (Addr×Obj))(σ:St)(tg:Expr)(R:It->Hp->Prop)(itv:Value)(s2:Shared):Prop:=
 ∃ (it:Addr)(fp:List Addr)(tn:Nat->Heap->Prop)(J:It)(H':Hp),itv=.ref it/\Inv X pins σ H' s2/\Turn0 Cc X.prog X.w X.K tg J fp it tn/\tn 0 s2.heap/\(∀ b∈fp,kA X pins H' b)/\R J H'
def PI0 (Cc:Cx->Prop)(X:Cx)(tg iter:Expr)(wi:TI):Prop:=
 ∀ (pins:List (Addr×Obj))(s:Shared)(σ:St)(H:Hp)(R:It->Hp->Prop),Inv X pins σ H s->wi σ H R->
  wpAny (model X.prog X.w) X.A (eval iter X.env) (fun v s1=>wpAny (model X.prog X.w) X.A (pyIter v) (PIE0 Cc X pins σ tg R) X.xe s1) X.xe s
abbrev PIE:=PIE0 fun X=>X.calm=true
abbrev PI:=PI0 fun X=>X.calm=true
theorem qL {M : Model} {A : Around} {E : Value -> Shared -> Prop} {s : Shared} {tg : Expr} {it : Addr} {u : Value} {o : Obj} {n : String} {vs : Array Value} {Q : Unit -> Shared -> Prop} (ho : s.heap.get? it = some o) (hc : o.cls = .type n) (hd : o.data = .fields vs)
    (hn : ["enumerate", "zip", "dict_itemiterator", "dict_reverseitemiterator", "odict_iterator", "itertools.zip_longest", "itertools.pairwise"].contains n = false) (hQ : Q () s) : wpAny M A (letOwnedTupleGo tg (.ref it) u) Q E s := by
  unfold letOwnedTupleGo
  cases tg <;> first
    | exact yp hQ
    | (cases u <;> first
        | exact yp hQ
        | (refine yc (wpAny_load ho ?_)
           rw [hc, hd]
           show wpAny M A (if (["enumerate", "zip", "dict_itemiterator", "dict_reverseitemiterator", "odict_iterator", "itertools.zip_longest", "itertools.pairwise"].contains n && vs[0]? == some (rawInt _)) = true then _ else _) Q E s
           rw [if_neg (by intro h; rw [hn, Am] at h; cases h)]
           exact yp hQ))
def Itl (K:PySem.W.Frag)(a:Addr):It:=
 ⟨fun i H=>∃ xs x,SqL K H a xs/\xs[i]?=some x,fun i H x H'=>H'=H/\∀ xs,SqL K H a xs->xs[i]?=some x,fun i H=>∃ xs,SqL K H a xs/\xs.length<=i⟩
def Itr (lo:Int)(n:Nat):It:=⟨fun i _=>i<n,fun i H x H'=>H'=H/\x=.int (lo+i),fun i _=>n<=i⟩
theorem tS {P:Program}{w:World}{K:PySem.W.Frag}{tg:Expr} (a it:Addr):sO P w K tg (Itl K a) [it] it (fun i h=>h.IsListIter it a i) where
 mem:=by simp
 obj:=fun i h st b hb=>by
  have e:b=it:=by simpa using hb
  subst e
  obtain⟨o,e,c,d⟩:=st
  exact⟨o,e,fun v z=>by rw[d]at z;cases z⟩
 keep:=fun i h h' st k=>st.at fun o e=>k it (by simp) o e
 item:=by
  intro X hP hw hK hc i pins s σ H E I hf st hg
  subst hP hw hK
  obtain⟨xs,x,hq,hx⟩:=hg
  obtain⟨its,rv,p,hz⟩:=I.list hq
  obtain⟨u,hu,ru⟩:=rv.get hx
  obtain⟨f0,f1,f2,f3,f4,f5⟩:=hf it (by simp)
  refine wpAny_pyNext_list_item st p.isList (x:=u) (by simpa using hu) fun h' st' sb=>?_
  have I1:Inv X pins σ H { s with heap:=h' }:=I.turned (t':=s.toks) (fun b o hb e=>(sb.2 b hb).trans e) f0 f1 f3 f4 f5
  obtain⟨o,e,c,d⟩:=id st'
  exact⟨u,rfl,qL (s:={ s with heap:=h' }) e c d (by decide) ⟨x,H,I1,ru,⟨rfl,fun ys hy=>by rw[I.list_inj hy hq];exact hx⟩,st',fun b hb=>(hf b hb).1⟩⟩
 done:=by
  intro X hP hw hK hc i pins s σ H E I hf st hg
  subst hP hw hK
  obtain⟨xs,hq,hx⟩:=hg
  obtain⟨its,rv,p,hz⟩:=I.list hq
  obtain⟨f0,f1,f2,f3,f4,f5⟩:=hf it (by simp)
  have hl:=rv.length
  exact wpAny_pyNext_list_end (I.ok.hd hc) st p.isList (by simp;omega) fun h' eb=>⟨rfl,I.turned (t':=s.toks) (fun b o hb e=>eb b o hb e) f0 f1 f3 f4 f5⟩
 self:=fun _ _ _ _ _ st h=>wpAny_pyIter_listiter st h
theorem rp {P:Program}{w:World}{K:PySem.W.Frag}{tg:Expr} (it:Addr) (lo:Int) (n:Nat):sO P w K tg (Itr lo n) [it] it (fun i h=>IsRangeIter h it (lo+(i:Nat) * 1) ((n:Int) - (i:Nat)) 1) where
 mem:=by simp
 obj:=fun i h st b hb=>by
  have e:b=it:=by simpa using hb
  subst e
  exact⟨_,st,fun v z=>by
   have z':Data.fields _=Data.cell v:=z
   cases z'⟩
 keep:=fun i h h' st k=>k it (by simp) _ st
 item:=by
  intro X hP hw hK hc i pins s σ H E I hf st hg
  subst hP hw hK
  obtain⟨f0,f1,f2,f3,f4,f5⟩:=hf it (by simp)
  have W:=Walks.range (prog:=X.prog) (w:=X.w) (I.ok.hd hc) it lo 1 n
  refine W.item i s _ _ hg st fun v h' tk hv st' kk=>?_
  obtain⟨t,rfl⟩:=hv
  have I1:Inv X pins σ H { s with heap:=h',toks:=tk }:=I.turned (fun b o hb e=>kk b o (by simpa using hb) e) f0 f1 f3 f4 f5
  refine⟨_,rfl,qL (s:={ s with heap:=h',toks:=tk }) (n:="range_iterator") st' rfl rfl (by decide) ⟨.int (lo+i),H,I1,⟨t,?_⟩,⟨rfl,rfl⟩,st',fun b hb=>(hf b hb).1⟩⟩
  rw[Int.mul_one]
 done:=by
  intro X hP hw hK hc i pins s σ H E I hf st hg
  subst hP hw hK
  obtain⟨f0,f1,f2,f3,f4,f5⟩:=hf it (by simp)
  exact wpAny_pyNext_range_end (I.ok.hd hc) st (by have:n<=i:=hg;omega) fun h' eb=>⟨rfl,I.turned (t':=s.toks) (fun b o hb e=>eb b o hb e) f0 f1 f3 f4 f5⟩
 self:=fun _ _ _ _ _ st h=>wpAny_pyIter_rangeiter st h
section
variable {X : Cx}{tg : Expr}
def vR (K:PySem.W.Frag)(tl:TE):TI:=fun σ H R=>tl σ H fun x H1=>∃ a,x=.ref a/\(∃ xs,SqL K H1 a xs)/\R (Itl K a) H1
theorem wY {l:Expr}{tl:TE} (hl:PE X l tl):PI X tg l (vR X.K tl):=by
 intro pins s σ H R I h
 refine thn (hl pins s σ H _ I h) fun v s1 ⟨x,H1,I1,r1,q1⟩=>?_
 obtain⟨a,e,⟨xs,hq⟩,q⟩:=q1
 subst e
 cases r1
 obtain⟨its,rv,p,hz⟩:=I1.list hq
 refine Bn p.isList ?_
 refine⟨s1.heap.objs.size,[s1.heap.objs.size],_,_,H1,rfl,I1.kept (t':=s1.toks) fun b o e=>yg _ e,tS a _,⟨_,yC _ rfl,rfl,rfl⟩,fun b hb=>?_,q⟩
 have e:b=s1.heap.objs.size:=by simpa using hb
 subst e
 exact I1.fpOk (yi _) (I1.hok.fresh (yi _))
theorem pY {pins:List (Addr×Obj)}{σ:St}{H:Hp}{s:Shared}{R:It->Hp->Prop}{E:Value->Shared->Prop}{lo hi:Int}{t u v:Tok}{tk:Nat} (I:Inv X pins σ H s) (h1:-(2 ^ 62)<=lo) (h2:lo<2 ^ 62) (h3:-(2 ^ 62)<=hi) (h4:hi<2 ^ 62)
  (q:R (Itr lo (hi - lo).toNat) H):wpAny (model X.prog X.w) X.A (pyIter (.ref s.heap.objs.size)) (PIE X pins σ tg R) E { s with heap:=s.heap.push { cls:=.type "range",data:=.fields #[.int lo t,.int hi u,.int 1 v] },toks:=tk }:=by
 refine wpAny_pyIter_range (IsRange.new ..) (small_one h1 h2 h3 h4) ?_
 have I1:Inv X pins σ H { s with heap:=s.heap.push { cls:=.type "range",data:=.fields #[.int lo t,.int hi u,.int 1 v] },toks:=tk }:=I.kept fun b o e=>yg _ e
 refine⟨(s.heap.push { cls:=.type "range",data:=.fields #[.int lo t,.int hi u,.int 1 v] }).objs.size,[(s.heap.push { cls:=.type "range",data:=.fields #[.int lo t,.int hi u,.int 1 v] }).objs.size],_,_,H,rfl,
  I1.kept (t':=tk) fun b o e=>yg _ e,rp _ lo (hi - lo).toNat,?_,fun b hb=>?_,q⟩
 ·have e1:lo+((0:Nat):Int) * 1=lo:=by simp
  have e2:(((hi - lo).toNat:Nat):Int) - ((0:Nat):Int)=Builtin.Range.rangeSize lo hi 1:=by rw[rangeSize_one];split <;> omega
  show IsRangeIter _ _ (lo+((0:Nat):Int) * 1) ((((hi - lo).toNat:Nat):Int) - ((0:Nat):Int)) 1
  rw[e1,e2]
  exact yC _ rfl
 ·have e:b=(s.heap.push { cls:=.type "range",data:=.fields #[.int lo t,.int hi u,.int 1 v] }).objs.size:=by simpa using hb
  subst e
  exact I1.fpOk (yi _) (I1.hok.fresh (yi _))
def iRng1 (ta:TA):TI:=fun σ H R=>ta σ H fun vs H1=>∃ j:Int,vs=[.int j]/\-(2 ^ 62)<=j/\j<2 ^ 62/\R (Itr 0 j.toNat) H1
def iRng2 (ta:TA):TI:=fun σ H R=>ta σ H fun vs H1=>∃ i j:Int,vs=[.int i,.int j]/\(-(2 ^ 62)<=i/\i<2 ^ 62/\-(2 ^ 62)<=j/\j<2 ^ 62)/\R (Itr i (j - i).toNat) H1
theorem cg {a:Expr}{ta:TA}{p pos:Pos} (hg:Gl X "range") (hm:X.mg "range"=none) (ha:PA X [a] ta) (hs:starEach [a] X.env=[(false,eval a X.env)]:=by rfl):PI X tg (.Call (.Name "range" p) [a] [] pos) (iRng1 ta):=by
 intro pins s σ H R I h
 refine Call_ (iG I hg hm boot_range (Ay (thn (ha pos pins s σ H _ I h) fun us s1 ⟨vs,H1,I1,r1,q1⟩=>?_) hs rfl))
 obtain⟨j,e,q1,q2,q⟩:=q1
 subst e
 cases r1 with
 | cons r rr=>
  cases rr
  obtain⟨t,rfl⟩:=r
  exact call_range_1 (pY I1 (by omega) (by omega) q1 q2 (by simpa using q))
theorem u9 {a b:Expr}{ta:TA}{p pos:Pos} (hg:Gl X "range") (hm:X.mg "range"=none) (ha:PA X [a,b] ta) (hs:starEach [a,b] X.env=[(false,eval a X.env),(false,eval b X.env)]:=by rfl) (hs2:starEach [b] X.env=[(false,eval b X.env)]:=by rfl):
  PI X tg (.Call (.Name "range" p) [a,b] [] pos) (iRng2 ta):=by
 intro pins s σ H R I h
 refine Call_ (iG I hg hm boot_range (Ay (thn (ha pos pins s σ H _ I h) fun us s1 ⟨vs,H1,I1,r1,q1⟩=>?_) (by rw[hs,hs2]) (by rw[hs2];rfl)))
 obtain⟨i,j,e,⟨q1,q2,q3,q4⟩,q⟩:=q1
 subst e
 cases r1 with
 | cons r rr=>
  cases rr with
  | cons r' rr=>
   cases rr
   obtain⟨t,rfl⟩:=r
   obtain⟨t',rfl⟩:=r'
   exact call_range_2 (pY I1 q1 q2 q3 q4 q)
def tFor (wi:TI)(g:TG)(tb:TS):TS:=fun D σ H=>wi σ H fun J H1=>∃ W:Nat->Nat->St->Hp->Prop,(∃ m,W 0 m σ H1)/\∀ i m σ H,W i m σ H->
 (J.stop i H/\D.nx σ H)\/(J.go i H/\∃ N:St->Hp->Prop,(∀ σ' H',N σ' H'->∃ m',m'<m/\W (i+1) m' σ' H')/\∀ x H',J.yld i H x H'->g x σ H' fun σ2 H2=>tb { D with nx:=N,ct:=N,bk:=D.nx } σ2 H2)
def lC (fp:List Addr)(h:Heap):List (Addr×Obj):=fp.filterMap fun b=>(h.get? b).map fun o=>(b,o)
theorem fJ {fp:List Addr}{h:Heap}{b:Addr}{o:Obj} (hb:b∈fp) (e:h.get? b=some o):(b,o)∈lC fp h:=Bm.mpr ⟨b,hb,by rw[e];rfl⟩
theorem ul {fp:List Addr}{h:Heap}{p:Addr×Obj} (hp:p∈lC fp h):p.1∈fp/\h.get? p.1=some p.2:=by
 obtain⟨b,hb,e⟩:=Bm.mp hp
 cases q:h.get? b with
 | none=>rw[q]at e;cases e
 | some o=>
  rw[q]at e
  have e':(b,o)=p:=Option.some.inj e
  subst e'
  exact⟨hb,q⟩
theorem Inv.pinned {pins:List (Addr×Obj)}{σ:St}{H:Hp}{s:Shared}{fp:List Addr} (I:Inv X pins σ H s) (hf:∀ b∈fp,kA X pins H b) (ho:∀ b∈fp,∃ o,s.heap.get? b=some o/\∀ v,o.data≠.cell v):Inv X (pins++lC fp s.heap) σ H s:=
 I.pins_of fun p hp=>(yE.mp hp).elim (fun z=>I.pin p (yT _ z)) fun z=>by
  obtain⟨hb,e⟩:=ul z
  obtain⟨f0,f1,f2,_⟩:=hf p.1 hb
  obtain⟨o,e',d⟩:=ho p.1 hb
  rw[e]at e';cases e'
  exact⟨e,f0,f1,f2,d⟩
theorem Inv.unpinned {pins pl:List (Addr×Obj)}{σ:St}{H:Hp}{s:Shared} (I:Inv X (pins++pl) σ H s):Inv X pins σ H s:=I.pins_of fun p hp=>I.pin p (yT _ (z8 _ hp))
theorem bN {iter:Expr}{body:List Stmt}{wi:TI}{g:TG}{tb:TS}{pos:Pos} (hp:PassesOwn (model X.prog X.w) X.A X.env X.xe) (hc:X.calm=true) (hi:PI X tg iter wi) (hg:PG X tg g) (hb:PSs X body tb)
  (hs:∀ x,foldedSetIterable iter X.env x=pure x:=by intro _;rfl):PS X (.For tg iter body [] pos) (tFor wi g tb):=by
 intro pins s σ H D I h
 refine wpAny_For (thn (hi pins s σ H _ I h) fun v s1 h1=>thn h1 fun itv s2 h2=>?_) hs
 obtain⟨it,fp,tn,J,H2,e,I2,T,st2,f2,W,⟨m0,w0⟩,turn⟩:=h2
 subst e
 have stat:∀ {H':Hp},(∀ b∈fp,H' b=none)->∀ b∈fp,kA X pins H' b:=fun hn b hb=>⟨hn b hb,(f2 b hb).2⟩
 refine codeAny_forLoop_any (fun n s'=>∃ i σ' H',Inv X pins σ' H' s'/\tn i s'.heap/\(∀ b∈fp,H' b=none)/\W i n σ' H') ?_ m0 ⟨0,σ,H2,I2,st2,fun b hb=>(f2 b hb).1,w0⟩
 rintro n s3 ⟨i,σ3,H3,I3,st3,fr3,w3⟩
 rcases turn i n σ3 H3 w3 with⟨stop,qn⟩|⟨go,N,hN,step⟩
 ·refine Ar hp (thn (T.done X rfl rfl rfl hc i pins s3 σ3 H3 X.xe I3 (stat fr3) st3 stop) fun r s4 ⟨hr,I4⟩=>?_)
  subst hr
  exact Bf ⟨σ3,H3,I4,qn⟩
 ·refine Ar hp (thn (T.item X rfl rfl rfl hc i pins s3 σ3 H3 X.xe I3 (stat fr3) st3 go) fun r s4 ⟨u,hr,h4⟩=>?_)
  subst hr
  refine Ar hp (thn h4 fun _ s5 ⟨x,H5,I5,r5,y5,st5,fr5⟩=>?_)
  have I5':=I5.pinned (stat fr5) (T.obj _ _ st5)
  refine Ar hp (thn (hg _ s5 σ3 H5 x u _ I5' r5 (step x H5 y5)) fun _ s6 ⟨σ6,H6,I6,q6⟩=>?_)
  refine Ar hp (thn (hb _ s6 σ6 H6 _ I6 q6) fun f s7 q7=>?_)
  have again:∀ {σ7:St}{H7:Hp},Inv X (pins++lC fp s5.heap) σ7 H7 s7->N σ7 H7->∃ m,m<n/\∃ i σ' H',Inv X pins σ' H' s7/\tn i s7.heap/\(∀ b∈fp,H' b=none)/\W i m σ' H':=fun {σ7 H7} I7 n7=>by
   obtain⟨m',hm,w7⟩:=hN σ7 H7 n7
   refine⟨m',hm,i+1,σ7,H7,I7.unpinned,T.keep _ _ _ st5 fun b hb o e=>(I7.pin (b,o) (yT _ (yT _ (fJ hb e)))).1,fun b hb=>?_,w7⟩
   obtain⟨o,e,d⟩:=T.obj _ _ st5 b hb
   exact (I7.pin (b,o) (yT _ (yT _ (fJ hb e)))).2.1
  cases f with
  | next=>obtain⟨σ7,H7,I7,n7⟩:=q7;exact again I7 n7
  | cont=>obtain⟨σ7,H7,I7,n7⟩:=q7;exact again I7 n7
  | brk=>obtain⟨σ7,H7,I7,q7⟩:=q7;exact⟨σ7,H7,I7.unpinned,q7⟩
  | ret v=>obtain⟨x7,σ7,H7,I7,r7,q7⟩:=q7;exact⟨x7,σ7,H7,I7.unpinned,r7,q7⟩
end
theorem c8 {K:PySem.W.Frag}{a:Addr}{xs:List V}{g:TG}{tb:TS}{D:jk}{σ:St}{H:Hp} (Pv:Nat->St->Hp->Prop) (h0:Pv 0 σ H) (hl:∀ i σ H,i<=xs.length->Pv i σ H->SqL K H a xs)
  (hs:∀ i x σ H,xs[i]?=some x->Pv i σ H->g x σ H fun σ2 H2=>tb { D with nx:=Pv (i+1),ct:=Pv (i+1),bk:=D.nx } σ2 H2) (hd:∀ σ H,Pv xs.length σ H->D.nx σ H):
  ∃ W:Nat->Nat->St->Hp->Prop,(∃ m,W 0 m σ H)/\∀ i m σ H,W i m σ H->
   ((Itl K a).stop i H/\D.nx σ H)\/((Itl K a).go i H/\∃ N:St->Hp->Prop,(∀ σ' H',N σ' H'->∃ m',m'<m/\W (i+1) m' σ' H')/\∀ x H',(Itl K a).yld i H x H'->g x σ H' fun σ2 H2=>tb { D with nx:=N,ct:=N,bk:=D.nx } σ2 H2):=by
 refine⟨fun i m σ H=>m=xs.length - i/\i<=xs.length/\Pv i σ H,⟨xs.length,by simp,yP _,h0⟩,?_⟩
 rintro i m σ H ⟨rfl,hi,p⟩
 have q:=hl i σ H hi p
 by_cases hlt:i<xs.length
 ·refine .inr ⟨⟨xs,xs[i],q,by simp[hlt]⟩,Pv (i+1),fun σ' H' p'=>⟨xs.length - (i+1),by omega,rfl,hlt,p'⟩,fun x H' y=>?_⟩
  obtain⟨e,y⟩:=y
  subst e
  exact hs i x σ _ (y xs q) p
 ·have e:i=xs.length:=by omega
  subst e
  exact .inl ⟨⟨xs,q,yi _⟩,hd σ H p⟩
theorem fc {lo:Int}{n:Nat}{g:TG}{tb:TS}{D:jk}{σ:St}{H:Hp} (Pv:Nat->St->Hp->Prop) (h0:Pv 0 σ H)
  (hs:∀ i σ H,i<n->Pv i σ H->g (.int (lo+i)) σ H fun σ2 H2=>tb { D with nx:=Pv (i+1),ct:=Pv (i+1),bk:=D.nx } σ2 H2) (hd:∀ σ H,Pv n σ H->D.nx σ H):
  ∃ W:Nat->Nat->St->Hp->Prop,(∃ m,W 0 m σ H)/\∀ i m σ H,W i m σ H->
   ((Itr lo n).stop i H/\D.nx σ H)\/((Itr lo n).go i H/\∃ N:St->Hp->Prop,(∀ σ' H',N σ' H'->∃ m',m'<m/\W (i+1) m' σ' H')/\∀ x H',(Itr lo n).yld i H x H'->g x σ H' fun σ2 H2=>tb { D with nx:=N,ct:=N,bk:=D.nx } σ2 H2):=by
 refine⟨fun i m σ H=>m=n - i/\i<=n/\Pv i σ H,⟨n,by simp,yP _,h0⟩,?_⟩
 rintro i m σ H ⟨rfl,hi,p⟩
 by_cases hlt:i<n
 ·refine .inr ⟨hlt,Pv (i+1),fun σ' H' p'=>⟨n - (i+1),by omega,rfl,hlt,p'⟩,fun x H' y=>?_⟩
  obtain⟨e,y⟩:=y
  subst e y
  exact hs i σ _ hlt p
 ·have e:i=n:=by omega
  subst e
  exact .inl ⟨yi _,hd σ H p⟩
abbrev R2:=V->V->Hp->VK->Prop
def OpR (X:Cx)(f:Value->Value->Sem Value)(r:R2):Prop:=
 ∀ (pins:List (Addr×Obj))(s:Shared)(σ:St)(H:Hp)(x y:V)(v u:Value)(Q:VK),Inv X pins σ H s->RelV x v->RelV y u->r x y H Q->
  wpAny (model X.prog X.w) X.A (f v u) (EP X pins σ Q) X.xe s
def UnR (X:Cx)(f:Value->Sem Value)(r:V->Hp->VK->Prop):Prop:=
 ∀ (pins:List (Addr×Obj))(s:Shared)(σ:St)(H:Hp)(x:V)(v:Value)(Q:VK),Inv X pins σ H s->RelV x v->r x H Q->
  wpAny (model X.prog X.w) X.A (f v) (EP X pins σ Q) X.xe s
def CallR (X:Cx)(f:Value)(r:List V->Hp->VK->Prop):Prop:=
 ∀ (pins:List (Addr×Obj))(s:Shared)(σ:St)(H:Hp)(xs:List V)(us:List Value)(Q:VK),Inv X pins σ H s->Vals xs us->r xs H Q->
  wpAny (model X.prog X.w) X.A (call f us) (EP X pins σ Q) X.xe s
def tOp (r:R2)(ta tb:TE):TE:=fun σ H Q=>ta σ H fun x H1=>tb σ H1 fun y H2=>r x y H2 Q
def tUn (r:V->Hp->VK->Prop)(ta:TE):TE:=fun σ H Q=>ta σ H fun x H1=>r x H1 Q
def rI (C:Int->Int->Prop)(g:Int->Int->V):R2:=fun x y H Q=>∃ i j,x=.int i/\y=.int j/\C i j/\Q (g i j) H
def rI0 (g:Int->Int->V):R2:=fun x y H Q=>∃ i j,x=.int i/\y=.int j/\Q (g i j) H
def rU (g:Int->V):V->Hp->VK->Prop:=fun x H Q=>∃ i,x=.int i/\Q (g i) H
section
variable {X : Cx}{a b c : Expr}{ta tb tc : TE}{pos : Pos}
theorem binT (ha:PE X a ta)(hb:PE X b tb){pins:List (Addr×Obj)}{s:Shared}{σ:St}{H:Hp}{R:V->V->Hp->Prop} (I:Inv X pins σ H s)
  (h:ta σ H fun x H1=>tb σ H1 fun y H2=>R x y H2) {Q:Value->Shared->Prop}{f:Value->Value->Sem Value}
  (hf:∀ v u s2 x y H2,Inv X pins σ H2 s2->RelV x v->RelV y u->R x y H2->wpAny (model X.prog X.w) X.A (f v u) Q X.xe s2):
  wpAny (model X.prog X.w) X.A (eval a X.env) (fun v s₁=>wpAny (model X.prog X.w) X.A (eval b X.env) (fun u s₂=>wpAny (model X.prog X.w) X.A (f v u) Q X.xe s₂) X.xe s₁) X.xe s:=by
 refine thn (ha pins s σ H _ I h) fun v s1 ⟨x,H1,I1,r1,q1⟩=>?_
 refine thn (hb pins s1 σ H1 _ I1 q1) fun u s2 ⟨y,H2,I2,r2,q2⟩=>?_
 exact hf v u s2 x y H2 I2 r1 r2 q2
theorem aF {op:Operator}{r:R2} (ho:OpR X (binaryOp op) r) (ha:PE X a ta) (hb:PE X b tb):PE X (.BinOp a op b pos) (tOp r ta tb):=by
 intro pins s σ H Q I h
 exact wpAny_BinOp (binT ha hb I h fun v u s2 x y H2 I2 rx ry q=>ho pins s2 σ H2 x y v u Q I2 rx ry q)
theorem pe_un {op:UnaryOp}{r:V->Hp->VK->Prop} (ho:UnR X (unaryOp op) r) (ha:PE X a ta):PE X (.UnaryOp op a pos) (tUn r ta):=by
 intro pins s σ H Q I h
 exact UnaryOp_ (thn (ha pins s σ H _ I h) fun v s1 ⟨x,H1,I1,r1,q1⟩=>ho pins s1 σ H1 x v Q I1 r1 q1)
theorem opI {f:Value->Value->Sem Value}{C:Int->Int->Prop}{g:Int->Int->Int}
  (rule:∀ (i j:Int)(t u:Tok)(s:Shared)(Q:Value->Shared->Prop)(E:Value->Shared->Prop),C i j->Q (.int (g i j) s.toks) { s with toks:=s.toks+1 }->wpAny (model X.prog X.w) X.A (f (.int i t) (.int j u)) Q E s):
  OpR X f (rI C fun i j=>.int (g i j)):=by
 intro pins s σ H x y v u Q I rx ry h
 obtain⟨i,j,rfl,rfl,hc,q⟩:=h
 obtain⟨t,rfl⟩:=rx
 obtain⟨t',rfl⟩:=ry
 exact rule i j t t' s _ _ hc ⟨.int (g i j),H,I.tok _,⟨_,rfl⟩,q⟩
theorem opI0 {f:Value->Value->Sem Value}{g:Int->Int->Int}
  (rule:∀ (i j:Int)(t u:Tok)(s:Shared)(Q:Value->Shared->Prop)(E:Value->Shared->Prop),Q (.int (g i j) s.toks) { s with toks:=s.toks+1 }->wpAny (model X.prog X.w) X.A (f (.int i t) (.int j u)) Q E s):
  OpR X f (rI0 fun i j=>.int (g i j)):=by
 intro pins s σ H x y v u Q I rx ry h
 obtain⟨i,j,rfl,rfl,q⟩:=h
 obtain⟨t,rfl⟩:=rx
 obtain⟨t',rfl⟩:=ry
 exact rule i j t t' s _ _ ⟨.int (g i j),H,I.tok _,⟨_,rfl⟩,q⟩
theorem xi {f:Value->Value->Sem Value}{g:Int->Int->Bool}
  (rule:∀ (i j:Int)(t u:Tok)(s:Shared)(Q:Value->Shared->Prop)(E:Value->Shared->Prop),Q (.bool (g i j)) s->wpAny (model X.prog X.w) X.A (f (.int i t) (.int j u)) Q E s):
  OpR X f (rI0 fun i j=>.bl (g i j)):=by
 intro pins s σ H x y v u Q I rx ry h
 obtain⟨i,j,rfl,rfl,q⟩:=h
 obtain⟨t,rfl⟩:=rx
 obtain⟨t',rfl⟩:=ry
 exact rule i j t t' s _ _ ⟨.bl (g i j),H,I,rfl,q⟩
def CDiv (i j:Int):Prop:=0<j/\j<1073741824
def CPow (i j:Int):Prop:=0<=j/\j<=1000000/\i.natAbs<2 ^ 64
def CMul (i j:Int):Prop:=(-(2 ^ 64)<i/\i<2 ^ 64)\/(-(2 ^ 64)<j/\j<2 ^ 64)
theorem CMul.ok {i j:Int}(h:CMul i j):IntMulOk i j:=by
 rcases h with⟨h1,h2⟩|⟨h1,h2⟩
 ·exact .of_left (intBits_le_64 h1 h2)
 ·exact .of_right (intBits_le_64 h1 h2)
theorem dH:OpR X (binaryOp .Add) (rI0 fun i j=>.int (i+j)):=opI0 fun _ _ _ _ _ _ _ q=>add_int q
theorem vv:OpR X (binaryOp .Sub) (rI0 fun i j=>.int (i - j)):=opI0 fun _ _ _ _ _ _ _ q=>sub_int q
theorem gq:OpR X (binaryOp .Mult) (rI CMul fun i j=>.int (i * j)):=opI fun _ _ _ _ _ _ _ hc q=>mul_int q hc.ok
theorem bZ:OpR X (binaryOp .FloorDiv) (rI CDiv fun i j=>.int (i / j)):=opI fun i j _ _ _ _ _ hc q=>by
 have h1:(0:Int)<j:=hc.1
 have h2:j<1073741824:=hc.2
 exact floordiv_int (by omega) (by rw[Int.fdiv_eq_ediv_of_nonneg i (by omega)];exact q) (.inl (PyProof.noPylong_small (by omega)))
theorem be:OpR X (binaryOp .Mod) (rI (fun _ j=>0<j) fun i j=>.int (i % j)):=opI fun i j _ _ _ _ _ hc q=>by
 have h1:(0:Int)<j:=hc
 exact mod_int' (by omega) (by rw[yZ i (by omega)];exact q)
theorem vw:OpR X (binaryOp .Pow) (rI CPow fun i j=>.int (i ^ j.toNat)):=opI fun _ _ _ _ _ _ _ hc q=>pow_int_small hc.1 hc.2.1 hc.2.2 q
theorem unI {f:Value->Sem Value}{g:Int->Int}
  (rule:∀ (i:Int)(t:Tok)(s:Shared)(Q:Value->Shared->Prop)(E:Value->Shared->Prop),Q (.int (g i) s.toks) { s with toks:=s.toks+1 }->wpAny (model X.prog X.w) X.A (f (.int i t)) Q E s):
  UnR X f (rU fun i=>.int (g i)):=by
 intro pins s σ H x v Q I rx h
 obtain⟨i,rfl,q⟩:=h
 obtain⟨t,rfl⟩:=rx
 exact rule i t s _ _ ⟨.int (g i),H,I.tok _,⟨_,rfl⟩,q⟩
theorem uX:UnR X (unaryOp .USub) (rU fun i=>.int (-i)):=unI fun _ _ _ _ _ q=>neg_int q
end
def scal:V->V->Bool
 | .non,.non=>true|.non,.int _=>true|.int _,.non=>true|.non,.bl _=>true|.bl _,.non=>true|.non,.str _=>true|.str _,.non=>true
 | .int _,.int _=>true|.bl _,.bl _=>true|.str _,.str _=>true|.byt _,.byt _=>true
 | .int _,.str _=>true|.str _,.int _=>true|.bl _,.str _=>true|.str _,.bl _=>true
 | _,_=>false
def rEq:R2:=fun x y H Q=>scal x y=true/\Q (.bl (decide (x=y))) H
def rNe:R2:=fun x y H Q=>scal x y=true/\Q (.bl (!decide (x=y))) H
theorem tF {i j:Int}:decide (V.int i=V.int j)=(i==j):=by
 rw[ze]
 simp
theorem wg {i j:Bool}:decide (V.bl i=V.bl j)=(i==j):=by
 rw[ze]
 simp
theorem tE {i j:Str}:decide (V.str i=V.str j)=(i==j):=by
 rw[ze]
 simp
theorem tG {i j:Array UInt8}:decide (V.byt i=V.byt j)=(i.toList==j.toList):=by
 rw[ze]
 cases i
 cases j
 simp
section
variable {X : Cx}{a b c : Expr}{ta tb tc : TE}{pos : Pos}
theorem aT {pins:List (Addr×Obj)}{σ:St}{H:Hp}{s:Shared}{Q:VK}{k k':Bool} (I:Inv X pins σ H s) (q:Q (.bl k) H) (e:k=k'):EP X pins σ Q (.bool k') s:=by
 subst e
 exact⟨.bl k,H,I,rfl,q⟩
theorem ci:OpR X (compareOp .Eq) rEq:=by
 intro pins s σ H x y v u Q I rx ry h
 obtain⟨hs,q⟩:=h
 cases x with
 | non=>
  cases rx
  cases y with
  | non=>cases ry;exact PySem.EqNone.eq_none_none (aT I q (by simp))
  | bl j=>cases ry;exact PySem.EqNone.eq_none_bool (aT I q (by simp))
  | int j=>obtain⟨t',rfl⟩:=ry;exact PySem.EqNone.eq_none_int (aT I q (by simp))
  | str j=>obtain⟨t',rfl⟩:=ry;exact PySem.EqNone.eq_none_str (aT I q (by simp))
  | _=>exact absurd (show false=true from hs) yv
 | bl i=>
  cases rx
  cases y with
  | non=>cases ry;exact PySem.EqNone.eq_bool_none (aT I q (by simp))
  | bl j=>cases ry;exact eq_bool (aT I q wg)
  | str j=>obtain⟨t',rfl⟩:=ry;exact PySem.EqMixed.eq_bool_str (aT I q (by simp))
  | _=>exact absurd (show false=true from hs) yv
 | int i=>
  obtain⟨t,rfl⟩:=rx
  cases y with
  | non=>cases ry;exact PySem.EqNone.eq_int_none (aT I q (by simp))
  | int j=>obtain⟨t',rfl⟩:=ry;exact eq_int (aT I q tF)
  | str j=>obtain⟨t',rfl⟩:=ry;exact PySem.EqMixed.eq_int_str (aT I q (by simp))
  | _=>exact absurd (show false=true from hs) yv
 | str i=>
  obtain⟨t,rfl⟩:=rx
  cases y with
  | non=>cases ry;exact PySem.EqNone.eq_str_none (aT I q (by simp))
  | bl j=>cases ry;exact PySem.EqMixed.eq_str_bool (aT I q (by simp))
  | int j=>obtain⟨t',rfl⟩:=ry;exact PySem.EqMixed.eq_str_int (aT I q (by simp))
  | str j=>obtain⟨t',rfl⟩:=ry;exact eq_str (aT I q tE)
  | _=>exact absurd (show false=true from hs) yv
 | byt i=>
  obtain⟨t,rfl⟩:=rx
  cases y with
  | byt j=>obtain⟨t',rfl⟩:=ry;exact PySem.W.eq_bytes (aT I q tG)
  | _=>exact absurd (show false=true from hs) yv
 | _=>cases y <;> exact absurd (show false=true from hs) yv
theorem n0:OpR X (compareOp .NotEq) rNe:=by
 intro pins s σ H x y v u Q I rx ry h
 obtain⟨hs,q⟩:=h
 cases x with
 | non=>
  cases rx
  cases y with
  | non=>cases ry;exact PySem.EqNone.ne_none_none (aT I q (by simp))
  | bl j=>cases ry;exact PySem.EqNone.ne_none_bool (aT I q (by simp))
  | int j=>obtain⟨t',rfl⟩:=ry;exact PySem.EqNone.ne_none_int (aT I q (by simp))
  | str j=>obtain⟨t',rfl⟩:=ry;exact PySem.EqNone.ne_none_str (aT I q (by simp))
  | _=>exact absurd (show false=true from hs) yv
 | bl i=>
  cases rx
  cases y with
  | non=>cases ry;exact PySem.EqNone.ne_bool_none (aT I q (by simp))
  | bl j=>cases ry;exact ne_bool (aT I q (congrArg not wg))
  | str j=>obtain⟨t',rfl⟩:=ry;exact PySem.EqMixed.ne_bool_str (aT I q (by simp))
  | _=>exact absurd (show false=true from hs) yv
 | int i=>
  obtain⟨t,rfl⟩:=rx
  cases y with
  | non=>cases ry;exact PySem.EqNone.ne_int_none (aT I q (by simp))
  | int j=>obtain⟨t',rfl⟩:=ry;exact ne_int (aT I q (congrArg not tF))
  | str j=>obtain⟨t',rfl⟩:=ry;exact PySem.EqMixed.ne_int_str (aT I q (by simp))
  | _=>exact absurd (show false=true from hs) yv
 | str i=>
  obtain⟨t,rfl⟩:=rx
  cases y with
  | non=>cases ry;exact PySem.EqNone.ne_str_none (aT I q (by simp))
  | bl j=>cases ry;exact PySem.EqMixed.ne_str_bool (aT I q (by simp))
  | int j=>obtain⟨t',rfl⟩:=ry;exact PySem.EqMixed.ne_str_int (aT I q (by simp))
  | str j=>obtain⟨t',rfl⟩:=ry;exact ne_str (aT I q (congrArg not tE))
  | _=>exact absurd (show false=true from hs) yv
 | byt i=>
  obtain⟨t,rfl⟩:=rx
  cases y with
  | byt j=>obtain⟨t',rfl⟩:=ry;exact PySem.W.ne_bytes (aT I q (congrArg not tG))
  | _=>exact absurd (show false=true from hs) yv
 | _=>cases y <;> exact absurd (show false=true from hs) yv
theorem n5:OpR X (compareOp .Lt) (rI0 fun i j=>.bl (decide (i<j))):=xi fun _ _ _ _ _ _ _ q=>lt_int q
theorem n8:OpR X (compareOp .LtE) (rI0 fun i j=>.bl (decide (i<=j))):=xi fun _ _ _ _ _ _ _ q=>le_int q
theorem sZ:OpR X (compareOp .Gt) (rI0 fun i j=>.bl (decide (j<i))):=xi fun _ _ _ _ _ _ _ q=>gt_int q
theorem t0:OpR X (compareOp .GtE) (rI0 fun i j=>.bl (decide (j<=i))):=xi fun _ _ _ _ _ _ _ q=>ge_int q
theorem ud:OpR X (compareOp .In) (fun x y H Q=>∃ i j,x=.str i/\y=.str j/\Q (.bl (!(Builtin.Str.occurrences j i 0 j.length 1).isEmpty)) H):=by
 intro pins s σ H x y v u Q I rx ry h
 obtain⟨i,j,rfl,rfl,q⟩:=h
 obtain⟨t,rfl⟩:=rx
 obtain⟨t',rfl⟩:=ry
 exact in_str (aT I q rfl)
theorem oN:OpR X (compareOp .Is) (fun x y H Q=>y=.non/\Q (.bl (decide (x=.non))) H):=by
 intro pins s σ H x y v u Q I rx ry h
 obtain⟨rfl,q⟩:=h
 cases ry
 refine is_none_gen (aT I q ?_)
 cases x <;> first
  | (cases rx;rfl)
  | (obtain⟨t,rfl⟩:=rx;rfl)
theorem iY:OpR X (compareOp .IsNot) (fun x y H Q=>y=.non/\Q (.bl (!decide (x=.non))) H):=by
 intro pins s σ H x y v u Q I rx ry h
 obtain⟨rfl,q⟩:=h
 cases ry
 refine isnot_none_gen (aT I q ?_)
 cases x <;> first
  | (cases rx;rfl)
  | (obtain⟨t,rfl⟩:=rx;rfl)
theorem aD (b:Expr){op:CmpOp}(h:op≠.In:=by decide)(h2:op≠.NotIn:=by decide):behindInMarks op b=false:=by
 have e1:(op==CmpOp.In)=false:=by cases op <;> first|rfl|exact absurd rfl h
 have e2:(op==CmpOp.NotIn)=false:=by cases op <;> first|rfl|exact absurd rfl h2
 cases b <;> simp[behindInMarks,e1,e2]
theorem fE {op:CmpOp}{r:R2} (ho:OpR X (compareOp op) r) (ha:PE X a ta) (hb:PE X b tb) (hm:behindInMarks op b=false):PE X (.Compare a [op] [b] pos) (tOp r ta tb):=by
 intro pins s σ H Q I h
 exact wpAny_Compare1 (binT ha hb I h fun v u s2 x y H2 I2 rx ry q=>ho pins s2 σ H2 x y v u Q I2 rx ry q) hm
def tTest (t:TE):TT:=fun σ H Q=>t σ H fun x H'=>∃ k,x=.bl k/\Q k H'
theorem aw {op:CmpOp}{r:R2} (ho:OpR X (compareOp op) r) (ha:PE X a ta) (hb:PE X b tb) (hm:behindInMarks op b=false):PT X (.Compare a [op] [b] pos) (tTest (tOp r ta tb)):=by
 intro pins s σ H Q I h
 refine wpAny_isTrue_Compare1 (thn (ha pins s σ H _ I h) fun v s1 ⟨x,H1,I1,r1,q1⟩=>thn (hb pins s1 σ H1 _ I1 q1) fun u s2 ⟨y,H2,I2,r2,q2⟩=>
  thn (ho pins s2 σ H2 x y v u _ I2 r1 r2 q2) fun c s3 ⟨z,H3,I3,r3,k,e,q3⟩=>?_) hm
 subst e
 cases r3
 exact zE ⟨H3,I3,q3⟩
def tChain (r r':R2)(ta tb tc:TE):TE:=fun σ H Q=>ta σ H fun x H1=>tb σ H1 fun y H2=>r x y H2 fun z H3=>∃ k,z=.bl k/\
 (if k=true then tc σ H3 fun w' H4=>r' y w' H4 Q else Q (.bl false) H3)
theorem lH {op op':CmpOp}{r r':R2} (ho:OpR X (compareOp op) r) (ho':OpR X (compareOp op') r') (ha:PE X a ta) (hb:PE X b tb) (hc:PE X c tc)
  (hm:lastMarks [op,op'] [b,c]=false:=by with_unfolding_all rfl):PE X (.Compare a [op,op'] [b,c] pos) (tChain r r' ta tb tc):=by
 intro pins s σ H Q I h
 refine Compare_chain (thn (ha pins s σ H _ I h) fun v s1 ⟨x,H1,I1,r1,q1⟩=>chain_link (thn (hb pins s1 σ H1 _ I1 q1) fun u s2 ⟨y,H2,I2,r2,q2⟩=>
  thn (ho pins s2 σ H2 x y v u _ I2 r1 r2 q2) fun d s3 ⟨z,H3,I3,r3,k,e,q3⟩=>?_)) hm
 subst e
 cases r3
 refine zE ?_
 cases k with
 | false=>exact ite_ff ⟨.bl false,H3,I3,rfl,q3⟩
 | true=>exact ite_tt (chain_last (thn (hc pins s3 σ H3 _ I3 q3) fun w' s4 ⟨z',H4,I4,r4,q4⟩=>ho' pins s4 σ H4 y z' u w' Q I4 r2 r4 q4))
theorem lW:(sizeLine:Nat)<2 ^ 63:=by rw[sizeLine_eq];decide
theorem fP {x:V}{us:List Value} (r:Vals [x] us):∃ u,us=[u]/\RelV x u:=by
 cases r with
 | cons r1 r2=>cases r2;exact⟨_,rfl,r1⟩
theorem jR {x y:V}{us:List Value} (r:Vals [x,y] us):∃ u w',us=[u,w']/\RelV x u/\RelV y w':=by
 cases r with
 | cons r1 r2=>
  cases r2 with
  | cons r3 r4=>cases r4;exact⟨_,_,rfl,r1,r3⟩
theorem uQ (hc:X.calm=true):CallR X (.builtin "max") (fun xs H Q=>∃ i j,xs=[.int i,.int j]/\Q (.int (if j > i then j else i)) H):=by
 intro pins s σ H xs us Q I r h
 obtain⟨i,j,rfl,q⟩:=h
 obtain⟨u,w',rfl,⟨t,rfl⟩,⟨t',rfl⟩⟩:=jR r
 refine max_two_ints (I.ok.hd hc) fun h' tk k=>⟨_,H,I.kept k,?_,q⟩
 by_cases hj:j > i
 ·rw[if_pos hj,if_pos hj];exact⟨_,rfl⟩
 ·rw[if_neg hj,if_neg hj];exact⟨_,rfl⟩
theorem uP (hc:X.calm=true):CallR X (.builtin "min") (fun xs H Q=>∃ i j,xs=[.int i,.int j]/\Q (.int (if j<i then j else i)) H):=by
 intro pins s σ H xs us Q I r h
 obtain⟨i,j,rfl,q⟩:=h
 obtain⟨u,w',rfl,⟨t,rfl⟩,⟨t',rfl⟩⟩:=jR r
 refine min_two_ints (I.ok.hd hc) fun h' tk k=>⟨_,H,I.kept k,?_,q⟩
 by_cases hj:j<i
 ·rw[if_pos hj,if_pos hj];exact⟨_,rfl⟩
 ·rw[if_neg hj,if_neg hj];exact⟨_,rfl⟩
end
structure ObjM (h : Heap) (x dx C : Addr) (mA : Str -> Option Value) : Prop where
  obj : h.get? x = some (PySem.W.instObj C dx)
  ns : h.Ns1 dx mA
  ne : dx ≠ x
theorem nk {h:Heap}{dx:Addr}{mA:Str->Option Value} (n:h.Ns1 dx mA):∃ od,h.get? dx=some od/\∀ name,PySem.W.lookIn name od=some (mA name):=by
 obtain⟨o,es,ep,ho,hd,hk,_,hm⟩:=n
 refine⟨o,ho,fun name=>?_⟩
 have e:=hm name
 unfold nsFind findBy at e
 rw[<- Array.find?_toList]at e
 unfold PySem.W.lookIn
 rw[hd]
 dsimp only
 split
 ·rename_i y q
  rw[q]at e
  exact congrArg some e
 ·rename_i q
  rw[q]at e
  have a:es.toList.any (·.refKey)=false:=by
   rw[List.any_eq_false]
   intro y hy
   obtain⟨z,t,hkey⟩:=hk y (Array.mem_toList_iff.mp hy)
   simp[DictEntry.refKey,hkey]
  have a':¬ es.toList.any (·.refKey)=true:=by rw[a];exact yv
  rw[if_neg a']
  exact congrArg some e
theorem ObjM.look {h:Heap}{x dx C:Addr}{mA:Str->Option Value} (I:ObjM h x dx C mA):∃ od,PySem.W.InstAt h x (PySem.W.instObj C dx) C (some od)/\∀ name,PySem.W.lookIn name od=some (mA name):=
 let ⟨od,ho,hl⟩:=nk I.ns
 ⟨od,⟨I.obj,rfl,rfl,ho⟩,hl⟩
section
variable {prog : Program}{w : World}{A : Around}{E : Value -> Shared -> Prop}{s : Shared}{K : PySem.W.Frag}{x dx C f : Addr}{mA : Str -> Option Value}{name : Str}{v : Value}
theorem xH {expr:Bool}{Q:Value->Shared->Prop} (X:K.In s.heap) (I:ObjM s.heap x dx C mA) (hg:PySem.W.plainGet K C name=true) (hh:PySem.W.hasDictIn K C=true)
  (ha:PySem.W.findIn K (.ref C) name=some none) (hv:mA name=some v) (hv':PySem.W.handedIn v=true) (h:Q v { s with toks:=s.toks+1 }):
  wpAny (model prog w) A (getAttr (.ref x) name expr) Q E s:=by
 obtain⟨od,J,hl⟩:=I.look
 exact PySem.W.get_value X J (PySem.W.plainGet_of hg).1 (PySem.W.findObj_own hh ha rfl (by rw[hl,hv])) hv' h
theorem vV {pl:Sem Bool}{Q:Value×List Value->Shared->Prop} (X:K.In s.heap) (I:ObjM s.heap x dx C mA) (hg:PySem.W.plainGet K C name=true)
  (hf:PySem.W.findIn K (.ref C) name=some (some (.ref f))) (ht:PySem.W.isFn K (.ref f)=true) (hv:mA name=none) (h:Q (.ref f,[.ref x]) s):
  wpAny (model prog w) A (getMethod (.ref x) name pl) Q E s:=by
 obtain⟨od,J,hl⟩:=I.look
 exact PySem.W.method_fn X J (PySem.W.plainGet_of hg).1 (PySem.W.plainGet_of hg).2 hf (zy.mp ht) (by show (PySem.W.lookIn name od).map (·.isSome)=some false;rw[hl,hv];rfl) h
theorem wK {ns:List Str}{Q:Unit->Shared->Prop} (X:K.In s.heap) (I:ObjM s.heap x dx C mA)
  (hs:PySem.W.findIn K (.ref C) "__setattr__"=some (some (.builtin "object.__setattr__"))) (hp:PySem.W.plainOver K C=true) (ht:PySem.W.takerIn K C name=some none) (hh:PySem.W.hasDictIn K C=true)
  (hw:PySem.Within mA ns) (hsz:ns.length<=sizeLine)
  (h:∀ h',ObjM h' x dx C (fun y=>if y=name then some v else mA y)->Heap.SameBut dx s.heap h'->Q () { s with heap:=h',toks:=s.toks+2 }):
  wpAny (model prog w) A (setAttr (.ref x) name v) Q E s:=by
 obtain⟨od,J,hl⟩:=I.look
 refine PySem.W.set_plain X J hs (PySem.W.osa_open (s:={ s with toks:=s.toks+1 }) (r:=none) X J hp ht fun b=>?_)
 obtain⟨cd,hc,hd'⟩:=PySem.W.any_some hh
 have hx:s.heap.get? x=some ⟨.ref C,some dx,.plain,#[]⟩:=I.obj
 refine yc (yp (yc (yc (wpAny_loadPart hx (yc (PySem.W.Looks.here (s:={ s with toks:=s.toks+1 }) (PySem.W.looks_clsIn X hc) ?_))))))
 rw[hd']
 refine yp (a:=some dx) (yc (yp (yc ?_)))
 refine wpAny_nsSet1 (s:={ s with toks:=s.toks+1 }) I.ns fun h' hn2 hs2=>?_
 obtain⟨oD,esD,epD,hoD,hdD,hcD⟩:=hn2.count (PySem.Within.cons name v hw)
 refine yc (wpAny_lookBehind hoD (by rw[hdD];exact pastItsLine_dict (yM hcD (by rw[yY];omega))) ?_)
 exact yp (h _ ⟨(hs2.2 _ (Ne.symm I.ne)).trans I.obj,hn2,I.ne⟩ hs2)
theorem qD {R:Result->Shared->Prop}{vs:List Value}{kw:List (Str×Value)} (X:K.In s.heap) (hm:PySem.W.makesIn K C=true)
  (hi:PySem.W.findIn K (.ref C) "__init__"=some (some (.ref f))) (hf:PySem.W.typeIn K (.ref f)=some (.type "function"))
  (h:codeAny (model prog w) (A.under (.builtin "type.__call__" ⟨.ref C::vs,kw⟩)) (.call (.ref f) ⟨.ref (s.heap.objs.size+1)::vs,kw⟩) (PySem.W.InitBack (s.heap.objs.size+1) R)
   { s with heap:=(s.heap.push PySem.W.emptyDict).push (PySem.W.instObj C s.heap.objs.size) }):
  codeAny (model prog w) A (.call (.ref C) ⟨vs,kw⟩) R s:=by
 obtain⟨hh,g,d,t,os⟩:=s
 exact PySem.W.make_core (PySem.W.makes_of X hm) (PySem.W.looks_findIn X hi) (fun self=>PySem.W.bind_fn X self hf) (.inl rfl) h
end
def gS (f:Str)(v:V):List (Str×V)->List (Str×V)
 | []=>[(f,v)]
 | (g,x)::r=>if g=f then (g,v)::r else (g,x)::gS f v r
theorem jW (f g:Str)(v:V):∀ fs:List (Str×V),(gS f v fs).lookup g=if g=f then some v else fs.lookup g
 | []=>by
  show List.lookup g [(f,v)]=_
  by_cases h:g=f
  ·have hb:(g==f)=true:=zy.mpr h
   simp only[List.lookup,hb,if_pos h]
  ·have hb:(g==f)=false:=Ag.mpr h
   simp only[List.lookup,hb,if_neg h]
 | (k,x)::r=>by
  have ih:=jW f g v r
  rw[show gS f v ((k,x)::r)=(if k=f then (k,v)::r else (k,x)::gS f v r) from rfl]
  by_cases hk:k=f
  ·rw[if_pos hk]
   by_cases h:g=k
   ·have hb:(g==k)=true:=zy.mpr h
    simp only[List.lookup,hb,if_pos (h.trans hk)]
   ·have hb:(g==k)=false:=Ag.mpr h
    simp only[List.lookup,hb,if_neg (fun e:g=f=>h (e.trans hk.symm))]
  ·rw[if_neg hk]
   by_cases h:g=k
   ·have hb:(g==k)=true:=zy.mpr h
    simp only[List.lookup,hb,if_neg (fun e:g=f=>hk (h.symm.trans e))]
   ·have hb:(g==k)=false:=Ag.mpr h
    simp only[List.lookup,hb]
    exact ih
theorem jI (f:Str)(v:V):∀ fs:List (Str×V),f∈(gS f v fs).map (·.1)/\∀ g,g∈fs.map (·.1)->g∈(gS f v fs).map (·.1)
 | []=>⟨by simp[gS],fun g h=>by simp at h⟩
 | (k,x)::r=>by
  obtain⟨i1,i2⟩:=jI f v r
  rw[show gS f v ((k,x)::r)=(if k=f then (k,v)::r else (k,x)::gS f v r) from rfl]
  by_cases hk:k=f
  ·rw[if_pos hk]
   subst hk
   exact⟨by simp,fun g h=>by simpa using h⟩
  ·rw[if_neg hk]
   refine⟨?_,fun g h=>?_⟩
   ·rw[yN]
    exact yX _ i1
   ·rw[yN]at h ⊢
    rcases yB.mp h with e|e
    ·exact yB.mpr (.inl e)
    ·exact yX _ (i2 g e)
theorem jX (f:Str)(v:V):∀ fs:List (Str×V),(gS f v fs).length<=fs.length+1
 | []=>by simp[gS]
 | (k,x)::r=>by
  have ih:=jX f v r
  rw[show gS f v ((k,x)::r)=(if k=f then (k,v)::r else (k,x)::gS f v r) from rfl]
  by_cases hk:k=f
  ·rw[if_pos hk,yY,yY];omega
  ·rw[if_neg hk,yY,yY];omega
theorem RelO.some_of {v:V}{o:Option Value} (r:RelO (some v) o):∃ u,o=some u/\RelV v u:=by
 cases o with
 | none=>exact (show False from r).elim
 | some u=>exact⟨u,rfl,r⟩
theorem RelO.none_of {o:Option Value}(r:RelO none o):o=none:=by
 cases o with
 | none=>rfl
 | some u=>exact (show False from r).elim
theorem nE {v:V}{u:Value} (r:RelV v u):PySem.W.handedIn u=true:=by
 cases v with
 | non=>cases (show u=Value.none from r);rfl
 | bl b=>cases (show u=Value.bool b from r);rfl
 | int i=>obtain⟨t,e⟩:=(show ∃ t,u=Value.int i t from r);cases e;rfl
 | str x=>obtain⟨t,e⟩:=(show ∃ t,u=Value.str x t from r);cases e;rfl
 | byt b=>obtain⟨t,e⟩:=(show ∃ t,u=Value.bytes b t from r);cases e;rfl
 | flt b=>obtain⟨t,e⟩:=(show ∃ t,u=Value.float b t from r);cases e;rfl
 | ref a=>cases (show u=Value.ref a from r);rfl
 | ty n=>cases (show u=Value.type n from r);rfl
section
variable {P : Program}{w : World}{H H' : Hp}{h h' : Heap}{a C dx : Addr}{fs fs' : List (Str×V)}
theorem kH (hok:HOk P w H h)(e:H a=some (.ins C dx fs)):∃ mA,ObjM h a dx C mA/\(∀ f,RelO (fs.lookup f) (mA f))/\PySem.Within mA (fs.map (·.1))/\fs.length<=1000/\H dx=some (.own a):=by
 obtain⟨d,z,ne,ob,mA,n,r,q⟩:=(show ObjOk P w H h a (.ins C dx fs) from hok a _ e)
 exact⟨mA,⟨ob,n,ne⟩,r,q,z,d⟩
end
structure Cls (K : PySem.W.Frag) (C : Addr) : Prop where
  pg : PySem.W.plainGet K C Str.empty = true
  hd : PySem.W.hasDictIn K C = true
  po : PySem.W.plainOver K C = true
  sa : PySem.W.findIn K (.ref C) "__setattr__" = some (some (.builtin "object.__setattr__"))
theorem Cls.get {K:PySem.W.Frag}{C:Addr} (c:Cls K C) (f:Str):PySem.W.plainGet K C f=true:=c.pg
def NoAttr (K:PySem.W.Frag)(C:Addr)(f:Str):Prop:=PySem.W.findIn K (.ref C) f=some none
theorem NoAttr.taker {K:PySem.W.Frag}{C:Addr}{f:Str} (n:NoAttr K C f):PySem.W.takerIn K C f=some none:=by
 unfold PySem.W.takerIn
 rw[show PySem.W.findIn K (.ref C) f=some none from n]
 rfl
structure rh (K : PySem.W.Frag) (C : Addr) (m : Str) (f : Addr) : Prop where
  at_ : PySem.W.findIn K (.ref C) m = some (some (.ref f))
  fn : PySem.W.isFn K (.ref f) = true
  kp : PySem.W.keepIn K (.ref f) = true
section
variable {X : Cx}{pins : List (Addr×Obj)}{σ : St}{H : Hp}{s : Shared}{a C dx : Addr}{fs : List (Str×V)}{f : Str}{v : V}{A : Around}{E : Value -> Shared -> Prop}
theorem sy {b:Bool}{Q:Value->Shared->Prop} (I:Inv X pins σ H s) (e:H a=some (.ins C dx fs)) (c:Cls X.K C) (n:NoAttr X.K C f) (l:fs.lookup f=some v)
  (h:∀ u s',Inv X pins σ H s'->RelV v u->Q u s'):wpAny (model X.prog X.w) A (getAttr (.ref a) f b) Q E s:=by
 obtain⟨mA,O,r,_,_,_⟩:=kH I.hok e
 obtain⟨u,hu,ru⟩:=RelO.some_of (v:=v) (o:=mA f) (by rw[<- l];exact r f)
 exact xH I.kIn O (c.get f) c.hd n hu (nE ru) (h u _ (I.tok _) ru)
theorem dL {m:Str}{g:Addr}{pl:Sem Bool}{Q:Value×List Value->Shared->Prop} (I:Inv X pins σ H s) (e:H a=some (.ins C dx fs)) (c:Cls X.K C) (k:rh X.K C m g) (l:fs.lookup m=none)
  (h:Q (.ref g,[.ref a]) s):wpAny (model X.prog X.w) A (getMethod (.ref a) m pl) Q E s:=by
 obtain⟨mA,O,r,_,_,_⟩:=kH I.hok e
 have hn:mA m=none:=RelO.none_of (by rw[<- l];exact r m)
 exact vV I.kIn O (c.get m) k.at_ k.fn hn h
theorem rB {y:V}{u:Value}{Q:Unit->Shared->Prop} (I:Inv X pins σ H s) (e:H a=some (.ins C dx fs)) (c:Cls X.K C) (n:NoAttr X.K C f) (hl:fs.length<1000) (ry:RelV y u)
  (h:∀ s',Inv X pins σ (upd H a (.ins C dx (gS f y fs))) s'->Q () s'):wpAny (model X.prog X.w) A (setAttr (.ref a) f u) Q E s:=by
 obtain⟨mA,O,r,wi,_,ho⟩:=kH I.hok e
 have hz:(fs.map (·.1)).length<=sizeLine:=by rw[y9,sizeLine_eq];omega
 refine wK I.kIn O c.sa c.po n.taker c.hd wi hz fun h' O' sb=>h _ ?_
 have hd:∃ o,h'.get? dx=some o:=let ⟨o,_,_,e',_⟩:=O'.ns;⟨o,e'⟩
 refine I.write (x:=a) (e:=dx) (by rw[e];exact zQ) (.inr ho) (fun b q hb z=>(sb.2 b hb).trans z) hd ?_
 refine⟨by rw[af O.ne];exact ho,?_,O.ne,O'.obj,_,O'.ns,fun g=>?_,fun g hg=>?_⟩
 ·have:=jX f y fs;omega
 ·show RelO ((gS f y fs).lookup g) (if g=f then some u else mA g)
  rw[jW]
  by_cases q:g=f
  ·rw[if_pos q,if_pos q];exact ry
  ·rw[if_neg q,if_neg q];exact r g
 ·by_cases q:g=f
  ·rw[q];exact (jI f y fs).1
  ·refine (jI f y fs).2 g (wi g fun z=>hg ?_)
   show (if g=f then some u else mA g)=none
   rw[if_neg q];exact z
theorem Inv.made (I:Inv X pins σ H s):Inv X pins σ (upd (upd H s.heap.objs.size (.own (s.heap.objs.size+1))) (s.heap.objs.size+1) (.ins C s.heap.objs.size []))
  { s with heap:=(s.heap.push PySem.W.emptyDict).push (PySem.W.instObj C s.heap.objs.size) }:=by
 have e1:(s.heap.push PySem.W.emptyDict).get? s.heap.objs.size=some PySem.W.emptyDict:=yC s.heap rfl
 have e2:((s.heap.push PySem.W.emptyDict).push (PySem.W.instObj C s.heap.objs.size)).get? (s.heap.objs.size+1)=some (PySem.W.instObj C s.heap.objs.size):=by
  have:=yC (s.heap.push PySem.W.emptyDict) (o:=PySem.W.instObj C s.heap.objs.size) rfl
  rwa [AZ]at this
 have e3:(s.heap.push PySem.W.emptyDict).Ns s.heap.objs.size (fun _=>none):=⟨PySem.W.emptyDict,#[],_,e1,rfl,(fun e he=>absurd he (by simp)),fun _=>rfl⟩
 have I1:=I.laid (a:=s.heap.objs.size) (o:=.own (s.heap.objs.size+1)) (h':=s.heap.push PySem.W.emptyDict) (t':=s.toks) (fun b u q=>yg _ q) (yi _) ⟨_,e1⟩
 refine I1.laid (a:=s.heap.objs.size+1) (o:=.ins C s.heap.objs.size []) (t':=s.toks) (fun b u q=>yg _ q) (Nat.le_of_eq (AZ _ _)) ?_
 have ne:s.heap.objs.size≠s.heap.objs.size+1:=yS (Nat.lt_succ_self _)
 refine⟨by rw[af ne,a9],yP _,ne,e2,fun _=>none,(Heap.Ns1.of_empty e3).at fun o q=>yg _ q,fun _=>zQ,fun y hy=>absurd rfl hy⟩
theorem tK {prog:Program}{w:World}{env:Env}{e:Expr}{f:Str}{pos:Pos}{s:Shared}{Q:Value->Shared->Prop} (hb:attributeBase e f env (eval e env)=eval e env)
  (h:wpAny (model prog w) A (eval e env) (fun o s₁=>wpAny (model prog w) A (getAttr o f true) Q E s₁) E s):wpAny (model prog w) A (eval (.Attribute e f pos) env) Q E s:=
 Attribute_any_ h (by rw[arm_eval_Attribute,hb])
end
def tFld (K:PySem.W.Frag)(ta:TE)(f:Str):TE:=fun σ H Q=>ta σ H fun x H1=>∃ a C dx fs v,x=.ref a/\H1 a=some (.ins C dx fs)/\Cls K C/\NoAttr K C f/\fs.lookup f=some v/\Q v H1
def sFld (K:PySem.W.Frag)(ta tv:TE)(f:Str):TS:=fun D σ H=>tv σ H fun y H1=>ta σ H1 fun x H2=>∃ a C dx fs,x=.ref a/\H2 a=some (.ins C dx fs)/\Cls K C/\NoAttr K C f/\fs.length<1000/\
 D.nx σ (upd H2 a (.ins C dx (gS f y fs)))
section
variable {X : Cx}{o e value : Expr}{f : Str}{pos pos' tpos : Pos}{ta tv : TE}
theorem pe_fld (he:PE X e ta)(hb:attributeBase e f X.env (eval e X.env)=eval e X.env):PE X (.Attribute e f pos) (tFld X.K ta f):=by
 intro pins s σ H Q I h
 refine tK hb (thn (he pins s σ H _ I h) fun u s1 ⟨x,H1,I1,rx,a,C,dx,fs,v,ex,ea,c,n,l,q⟩=>?_)
 subst ex
 obtain rfl:u=Value.ref a:=rx
 exact sy I1 ea c n l fun u' s2 I2 ru=>⟨v,H1,I2,ru,q⟩
theorem jD (ha:PE X o ta)(hv:PE X value tv)(hs:swapsWith value (some (.Attribute o f pos')) pos.line X.env=pure false):PS X (.Assign [.Attribute o f pos'] value pos) (sFld X.K ta tv f):=by
 intro pins s σ H D I h
 refine plainObj_wpAny_Assign_Attribute (thn (hv pins s σ H _ I h) fun u s1 ⟨y,H1,I1,ry,q⟩=>thn (ha pins s1 σ H1 _ I1 q) fun ov s2 ⟨x,H2,I2,rx,a,C,dx,fs,ex,ea,c,n,l,q2⟩=>?_) hs
 subst ex
 obtain rfl:ov=Value.ref a:=rx
 exact rB I2 ea c n l ry fun s3 I3=>⟨σ,_,I3,q2⟩
end
section
variable {X : Cx}{pins : List (Addr×Obj)}{σ : St}{H : Hp}{s : Shared}{A : Around}{E : Value -> Shared -> Prop}{Q : Value -> Shared -> Prop}{c : Value}{b : Bool}
inductive jj (K : PySem.W.Frag) (H : Hp) : V -> Value -> Prop where
  | non : jj K H .non (.type "NoneType")
  | bl (x : Bool) : jj K H (.bl x) (.type "bool")
  | int (i : Int) : jj K H (.int i) (.type "int")
  | str (x : Str) : jj K H (.str x) (.type "str")
  | flt (x : UInt64) : jj K H (.flt x) (.type "float")
  | lst {a : Addr} {xs : List V} (e : H a = some (.lst xs)) : jj K H (.ref a) (.type "list")
  | frz {a : Addr} {o : Obj} {xs : List V} (e : H a = some (.frz o (.lst xs))) : jj K H (.ref a) (.type "list")
  | tup {a : Addr} {xs : List V} (e : H a = some (.tup xs)) : jj K H (.ref a) (.type "tuple")
  | dK {a : Addr} {kvs : List (Key × V)} (e : H a = some (.dK kvs)) : jj K H (.ref a) (.type "dict")
  | dT {a : Addr} {kvs : List (List Key × V)} (e : H a = some (.dT kvs)) : jj K H (.ref a) (.type "dict")
  | ins {a C dx : Addr} {fs : List (Str × V)} (e : H a = some (.ins C dx fs)) (cl : Cls K C) (ha : PySem.W.findIn K (.ref C) "__class__" = some (some (.builtin "object.__class__")))
      (hn : PySem.W.specialIn K (.builtin "object.__class__") "__get__" = some (some (.builtin "getset_descriptor.__get__"))) (htk : PySem.W.takesIn K (.builtin "object.__class__") = some true)
      (hm : PySem.W.mroIn K C (.type "object") = some true) : jj K H (.ref a) (.ref C)
theorem uz {x:V}{u t:Value} (I:Inv X pins σ H s) (rx:RelV x u) (ty:jj X.K H x t) (e:PySem.W.kitOne X.K t c=some b) (h:∀ tk,Q (.bool b) { s with toks:=tk }):
  wpAny (model X.prog X.w) A (call (.builtin "isinstance") [u,c]) Q E s:=by
 cases ty with
 | non=>cases (show u=Value.none from rx);exact zG PySem.W.kitx_none I.kIn zQ e (fun z=>nomatch z) h
 | bl y=>cases (show u=Value.bool y from rx);exact zG PySem.W.kitx_bool I.kIn zQ e (fun z=>nomatch z) h
 | int i=>obtain⟨t,q⟩:=(show ∃ t,u=Value.int i t from rx);cases q;exact zG PySem.W.kitx_int I.kIn zQ e (fun z=>nomatch z) h
 | str y=>obtain⟨t,q⟩:=(show ∃ t,u=Value.str y t from rx);cases q;exact zG PySem.W.kitx_str I.kIn zQ e (fun z=>nomatch z) h
 | flt y=>obtain⟨t,q⟩:=(show ∃ t,u=Value.float y t from rx);cases q;exact zG PySem.W.kitx_float I.kIn zQ e (fun z=>nomatch z) h
 | @lst a xs ea=>
  cases (show u=Value.ref a from rx)
  obtain⟨_,_,n,_,h1⟩:=(show ObjOk X.prog X.w H s.heap a (.lst xs) from I.hok a _ ea)
  exact zG PySem.W.kitx_list I.kIn ⟨_,h1,rfl⟩ e (fun z=>nomatch z) h
 | @frz a ob xs ea=>
  cases (show u=Value.ref a from rx)
  obtain⟨_,_,_,n,_,h1⟩:=(show ObjOk X.prog X.w H s.heap a (.frz ob (.lst xs)) from I.hok a _ ea)
  exact zG PySem.W.kitx_list I.kIn ⟨_,h1,rfl⟩ e (fun z=>nomatch z) h
 | @tup a xs ea=>
  cases (show u=Value.ref a from rx)
  obtain⟨_,_,_,p⟩:=(show ObjOk X.prog X.w H s.heap a (.tup xs) from I.hok a _ ea)
  obtain⟨o,h1,h2,_⟩:=p
  exact zG PySem.W.kitx_tuple I.kIn ⟨o,h1,h2⟩ e (fun z=>nomatch z) h
 | @dK a kvs ea=>
  cases (show u=Value.ref a from rx)
  obtain⟨_,_,vs,_,p⟩:=(show ObjOk X.prog X.w H s.heap a (.dK kvs) from I.hok a _ ea)
  obtain⟨o,es,ep,h1,h2,_⟩:=p
  exact zG PySem.W.kitx_dict I.kIn ⟨o,h1,h2.1⟩ e (fun z=>nomatch z) h
 | @dT a kvs ea=>
  cases (show u=Value.ref a from rx)
  obtain⟨_,_,xs,_,o,es,ep,h1,h2,_⟩:=(show ObjOk X.prog X.w H s.heap a (.dT kvs) from I.hok a _ ea)
  exact zG PySem.W.kitx_dict I.kIn ⟨o,h1,h2.1⟩ e (fun z=>nomatch z) h
 | @ins a C dx fs ea cl ha hn htk hm=>
  cases (show u=Value.ref a from rx)
  obtain⟨mA,O,_⟩:=kH I.hok ea
  obtain⟨od,J,_⟩:=O.look
  exact zG (PySem.W.kitx_own (cl.get _) cl.hd ha hn htk hm) I.kIn J e (fun z=>nomatch z) h
end
structure Room (k : Nat) (A : Around) : Prop where
  hd : A.handled = none
  dp : A.depth + 3 * k + 5 < recursionLimit
  un : A.units + 16 * k + 200 < cLine
theorem Room.mono {j k:Nat}{A:Around} (r:Room k A) (h:j<=k):Room j A:=⟨r.hd,by have:=r.dp;omega,by have:=r.un;omega⟩
theorem Room.deeper {k:Nat}{A:Around} (r:Room (k+1) A) (env:Env):Room k (A.deeper env):=
 ⟨r.hd,by have:=r.dp;show A.depth+1+3 * k+5<_;omega,by have:=r.un;show A.units+3+16 * k+200<_;omega⟩
theorem sg {A:Around}{C:Addr}{us:List Value}{kw:List (Str×Value)}:(A.under (.builtin "type.__call__" ⟨.ref C::us,kw⟩)).depth=A.depth+1:=by
 first|rfl|simp[Around.under,Code.weight,Code.isCreation,Code.isGuard,Code.isCaller,Code.frames,Code.isFrame,guardIds]
theorem sf {A:Around}{C:Addr}{us:List Value}{kw:List (Str×Value)}:(A.under (.builtin "type.__call__" ⟨.ref C::us,kw⟩)).units=A.units+1:=by
 first|rfl|simp[Around.under,Code.cUnits,Code.frames,Code.isFrame]
theorem Room.make {k:Nat}{A:Around} (r:Room (k+1) A) (C:Addr) (us:List Value) (kw:List (Str×Value)):Room k (A.under (.builtin "type.__call__" ⟨.ref C::us,kw⟩)):=
 ⟨r.hd,by have:=r.dp;rw[sg];omega,by have:=r.un;rw[sf];omega⟩
theorem Room.depth {k:Nat}{A:Around} (r:Room k A):A.depth<recursionLimit:=by have:=r.dp;omega
theorem Room.units {k:Nat}{A:Around} (r:Room k A):A.units+64<cLine:=by have:=r.un;omega
def kg:TA:=fun _ H Q=>Q [] H
def bF (ta:TE)(tr:TA):TA:=fun σ H Q=>ta σ H fun x H1=>tr σ H1 fun xs H2=>Q (x::xs) H2
section
variable {X : Cx}{e : Expr}{es : List Expr}{te : TE}{t : TA}{pos : Pos}
theorem ad:PA X [] kg:=fun _ _ _ _ H Q I h=>Bt ⟨[],H,I,.nil,h⟩
theorem a8 (ha:PE X e te)(hr:PA X es t)(hs:starEach (e::es) X.env=(false,eval e X.env)::starEach es X.env:=by rfl):PA X (e::es) (bF te t):=by
 intro pos pins s σ H Q I h
 rw[hs]
 show wpAny _ _ (spliced ((false,eval e X.env)::backTo pos (starEach es X.env))) _ _ s
 refine Aq (thn (ha pins s σ H _ I h) fun u s1 ⟨x,H1,I1,r1,q1⟩=>?_)
 exact thn (hr pos pins s1 σ H1 _ I1 q1) fun us s2 ⟨xs,H2,I2,r2,q2⟩=>⟨x::xs,H2,I2,.cons r1 r2,q2⟩
def tLst (t:TA):TE:=fun σ H Q=>t σ H fun xs H1=>xs.length<=sizeLine/\∀ p,H1 p=none->Q (.ref p) (upd H1 p (.lst xs))
theorem pe_lst (h:PA X es t):PE X (.List es pos) (tLst t):=by
 intro pins s σ H Q I hq
 refine wpAny_List_spliced (thn (h pos pins s σ H _ I hq) fun us s1 ⟨xs,H1,I1,r,z,q⟩=>⟨by rw[<- r.length];exact z,?_⟩)
 have hf:H1 s1.heap.objs.size=none:=I1.hok.fresh (yi _)
 refine⟨.ref s1.heap.objs.size,upd H1 s1.heap.objs.size (.lst xs),I1.laid (t':=s1.toks) (fun b u e=>yg _ e) (yi _) ?_,rfl,q _ hf⟩
 exact⟨z,us,0,r,yC _ rfl⟩
end
abbrev Sp:=List V->Hp->VK->XK->Prop
abbrev CXT:=List Env->Hp->Shared->XK->Value->Shared->Prop
structure Env0 (P : Program) (w : World) (K : PySem.W.Frag) (mg : Str -> Option Value) (base : Heap) (A : Around) (outer : List Env) (s : Shared) (H : Hp) : Prop where
  frames : A.frames = some outer
  mod : Mod K mg base
  bs : ∀ b o, base.get? b = some o -> s.heap.get? b = some o /\ H b = none
  bsz : base.objs.size <= s.heap.objs.size
  funs : s.heap.FunFrames base outer
  frf : ∀ b ∈ frs outer, H b = none
  hok : HOk P w H s.heap
  bare : AllBare s.gens
def CE (outer:List Env)(P:Program)(w:World)(H:Hp)(s:Shared)(Q:VK)(u:Value)(s':Shared):Prop:=
 ∃ v H',s'.os=s.os/\AllBare s'.gens/\Un (frs outer) [] H H' s.heap s'.heap/\HOk P w H' s'.heap/\RelV v u/\Q v H'
def CR (CX:CXT)(outer:List Env)(P:Program)(w:World)(H:Hp)(s:Shared)(Q:VK)(E:XK)(r:Result)(s':Shared):Prop:=
 match r with
 | .ok (.ret u)=>CE outer P w H s Q u s'
 | .ok _=>False
 | .error e=>CX outer H s E e s'
structure FnOk (P : Program) (w : World) (K : PySem.W.Frag) (mg : Str -> Option Value) (base : Heap) (CX : CXT) (k : Nat) (f : Addr) (fd : FuncData) (ps : List Str) (sp : Sp) : Prop where
  len : ∀ vs H Q E, sp vs H Q E -> vs.length = ps.length
  run : ∀ (A : Around) (outer : List Env) (s : Shared) (H : Hp) (args : Args) (us : List Value) (vs : List V) (Q : VK) (E : XK), Room k A -> Env0 P w K mg base A outer s H -> BindsTo s fd args (ps.zip us) -> Vals vs us -> sp vs H Q E ->
    codeAny (model P w) A (.call (.ref f) args) (CR CX outer P w H s Q E) s
theorem FnOk.imp {P:Program}{w:World}{K:PySem.W.Frag}{mg:Str->Option Value}{base:Heap}{CX:CXT}{k:Nat}{f:Addr}{fd:FuncData}{ps:List Str}{sp sp':Sp} (F:FnOk P w K mg base CX k f fd ps sp)
  (h:∀ vs H Q E,sp' vs H Q E->sp vs H Q E):FnOk P w K mg base CX k f fd ps sp':=
 ⟨fun vs H Q E q=>F.len vs H Q E (h _ _ _ _ q),fun A outer s H args us vs Q E hr he hb hv hs=>F.run A outer s H args us vs Q E hr he hb hv (h _ _ _ _ hs)⟩
theorem Env0.make {P:Program}{w:World}{K:PySem.W.Frag}{mg:Str->Option Value}{base:Heap}{A:Around}{outer:List Env}{s:Shared}{H:Hp} (e:Env0 P w K mg base A outer s H) (C:Addr) (us:List Value) (kw:List (Str×Value)):
  Env0 P w K mg base (A.under (.builtin "type.__call__" ⟨.ref C::us,kw⟩)) outer s H:=⟨by first|exact e.frames|(simpa [Around.under,Code.envs,Code.isFrame,pushEnvs] using e.frames),e.mod,e.bs,e.bsz,e.funs,e.frf,e.hok,e.bare⟩
section
variable {X : Cx}{pins : List (Addr×Obj)}{σ : St}{H : Hp}{s s' : Shared}
theorem Inv.env0 (I:Inv X pins σ H s):Env0 X.prog X.w X.K X.mg X.base X.A X.stack s H:=
 ⟨I.ok.frames,I.ok.mod,I.bs,yM I.ok.bsz I.sz,I.stack,I.stkFree,I.hok,I.bare⟩
theorem Inv.after {Q:VK}{u:Value} (I:Inv X pins σ H s) (h:CE X.stack X.prog X.w H s Q u s'):EP X pins σ Q u s':=by
 obtain⟨v,H',os,bare,un,hok,r,q⟩:=h
 obtain⟨hh,g,d,t,os'⟩:=s'
 obtain rfl:os'=s.os:=os
 exact⟨v,H',I.call (h':=hh) (g':=g) (d':=d) (t':=t) (ch:=[]) un hok bare (fun b z=>absurd z (by simp)),r,q⟩
end
def sS (sp:Sp)(dvs:List V)(E:XK)(t:TA):TE:=fun σ H Q=>t σ H fun vs H1=>sp (vs++dvs) H1 Q E
def pJ (C:Addr)(m:Str)(sp:Sp)(dvs:List V)(E:XK)(ta:TE)(t:TA):TE:=fun σ H Q=>ta σ H fun x H1=>∃ a dx fs,x=.ref a/\H1 a=some (.ins C dx fs)/\fs.lookup m=none/\
 t σ H1 fun vs H2=>sp (x::(vs++dvs)) H2 Q E
def sQ (C:Addr)(sp:Sp)(dvs:List V)(E:XK)(t:TA):TE:=fun σ H Q=>t σ H fun vs H1=>∀ x dx,H1 x=none->H1 dx=none->dx≠x->
 sp (.ref x::(vs++dvs)) (upd (upd H1 dx (.own x)) x (.ins C dx [])) (fun v H2=>v=.non/\Q (.ref x) H2) E
def Binds (K:PySem.W.Frag)(fd:FuncData)(ps:List Str)(ds:List Value):Prop:=
 ∀ (s:Shared)(us:List Value),K.In s.heap->(us++ds).length=ps.length->BindsTo s fd ⟨us,[]⟩ (ps.zip (us++ds))
theorem Binds.all {K:PySem.W.Frag}{fd:FuncData}{ps:List Str} (h:∀ us:List Value,us.length=ps.length->bindArgs fd ⟨us,[]⟩=pure (ps.zip us)):Binds K fd ps []:=fun s us _ hl=>by
 rw[zp]at hl ⊢
 exact .of_eq (h us hl)
def gD (CX:CXT)(X:Cx)(E:XK):Prop:=∀ (pins:List (Addr×Obj))(σ:St)(H:Hp)(s:Shared)(e:Value)(s':Shared),Inv X pins σ H s->CX X.stack H s E e s'->X.xe e s'
section
variable {X : Cx}{CX : CXT}{k : Nat}{f C : Addr}{fd : FuncData}{ps : List Str}{sp : Sp}{dvs : List V}{ds : List Value}{E : XK}{x m : Str}{p pos apos : Pos}{e o : Expr}{es : List Expr}{ta : TE}{t : TA}
theorem oC {pins:List (Addr×Obj)}{σ:St}{H:Hp}{s:Shared}{Q:VK}{us:List Value}{vs:List V} (F:FnOk X.prog X.w X.K X.mg X.base CX k f fd ps sp) (hr:Room k X.A) (hb:Binds X.K fd ps ds) (hd:Vals dvs ds) (hx:gD CX X E)
  (I:Inv X pins σ H s) (r:Vals vs us) (h:sp (vs++dvs) H Q E):wpAny (model X.prog X.w) X.A (call (.ref f) us) (EP X pins σ Q) X.xe s:=by
 have r2:Vals (vs++dvs) (us++ds):=r.append hd
 have hl:(us++ds).length=ps.length:=by rw[<- r2.length];exact F.len _ _ _ _ h
 refine AB (AE (F.run X.A X.stack s H ⟨us,[]⟩ (us++ds) (vs++dvs) Q E hr I.env0 (hb s us I.kIn hl) r2 h) fun r s' hq=>?_)
 cases r with
 | error e=>exact hx pins σ H s e s' I hq
 | ok fl=>
  cases fl with
  | ret u=>exact I.after hq
  | next=>exact False.elim hq
  | brk=>exact False.elim hq
  | cont=>exact False.elim hq
theorem x9 (F:FnOk X.prog X.w X.K X.mg X.base CX k f fd ps sp)(hr:Room k X.A)(hg:Gl X x)(hm:X.mg x=some (.ref f))(hk:PySem.W.keepIn X.K (.ref f)=true)(hb:Binds X.K fd ps ds)(hd:Vals dvs ds)(hx:gD CX X E)
  (ha:PA X (e::es) t) (hdb:(x==("__debug__":Str))=false:=by decide) (he:starEach (e::es) X.env=(false,eval e X.env)::starEach es X.env:=by rfl) (hpl:(backTo pos (starEach es X.env)).any (·.1)=false:=by rfl):
  PE X (.Call (.Name x p) (e::es) [] pos) (sS sp dvs E t):=by
 intro pins s σ H Q I h
 refine zB (cQ I hg hm ?_ hdb)
 refine zR (h₀:=X.base) I.ok.mod.kin hk (thn (ha pos pins s σ H _ I h) fun us s1 ⟨vs,H1,I1,r,q⟩=>⟨I1.kIn,?_⟩) he hpl
 exact oC F hr hb hd hx I1 r q
theorem x0 {pl:Sem Bool}(he:PE X o ta)(c:Cls X.K C)(hm:rh X.K C m f)(F:FnOk X.prog X.w X.K X.mg X.base CX k f fd ps sp)(hr:Room k X.A)(hb:Binds X.K fd ps ds)(hd:Vals dvs ds)(hx:gD CX X E)(ha:PA X (e::es) t)
  (hst:starEach (e::es) X.env=(false,eval e X.env)::starEach es X.env:=by rfl) (hpl:(backTo pos (starEach es X.env)).any (·.1)=false:=by rfl)
  (ht:eval (.Call (.Attribute o m apos) (e::es) [] pos) X.env=(do
   let ov <- eval o X.env
   standAt apos.atName
   let (f,first) <- holding [ov] (getMethod ov m pl)
   callWith pos f first (backTo pos (starEach (e::es) X.env)) (backToKw pos (keywordEach [] X.env))):=by rfl):
  PE X (.Call (.Attribute o m apos) (e::es) [] pos) (pJ C m sp dvs E ta t):=by
 intro pins s σ H Q I h
 refine Aw (pl:=pl) (thn (he pins s σ H _ I h) fun u s1 ⟨x,H1,I1,rx,a,dx,fs,ex,ea,l,q⟩=>?_) ht
 subst ex
 obtain rfl:u=Value.ref a:=rx
 refine dL I1 ea c hm l ?_
 refine zR (first:=[.ref a]) (h₀:=X.base) I.ok.mod.kin hm.kp (thn (ha pos pins s1 σ H1 _ I1 q) fun us s2 ⟨vs,H2,I2,r,q2⟩=>⟨I2.kIn,?_⟩) hst hpl
 exact oC (us:=.ref a::us) (vs:=.ref a::vs) F hr hb hd hx I2 (.cons rfl r) q2
theorem vj {pl:Sem Bool}(he:PE X o ta)(c:Cls X.K C)(hm:rh X.K C m f)(F:FnOk X.prog X.w X.K X.mg X.base CX k f fd ps sp)(hr:Room k X.A)(hb:Binds X.K fd ps ds)(hd:Vals dvs ds)(hx:gD CX X E)
  (ht:eval (.Call (.Attribute o m apos) [] [] pos) X.env=(do
   let ov <- eval o X.env
   standAt apos.atName
   let (f,first) <- holding [ov] (getMethod ov m pl)
   callWith pos f first (backTo pos (starEach [] X.env)) (backToKw pos (keywordEach [] X.env))):=by rfl):
  PE X (.Call (.Attribute o m apos) [] [] pos) (pJ C m sp dvs E ta kg):=by
 intro pins s σ H Q I h
 refine Aw (pl:=pl) (thn (he pins s σ H _ I h) fun u s1 ⟨x,H1,I1,rx,a,dx,fs,ex,ea,l,q⟩=>?_) ht
 subst ex
 obtain rfl:u=Value.ref a:=rx
 refine dL I1 ea c hm l ?_
 exact PySem.W.callWith_K0 (first:=[.ref a]) I1.kIn hm.kp (oC (us:=[.ref a]) (vs:=[.ref a]) F hr hb hd hx I1 (.cons rfl .nil) q)
structure Mk (K : PySem.W.Frag) (C f : Addr) : Prop where
  makes : PySem.W.makesIn K C = true
  init : PySem.W.findIn K (.ref C) "__init__" = some (some (.ref f))
  fn : PySem.W.isFn K (.ref f) = true
  kp : PySem.W.keepIn K (.ref C) = true
theorem pU {pins:List (Addr×Obj)}{σ:St}{H:Hp}{s:Shared}{Q:VK}{us:List Value}{vs:List V} (M:Mk X.K C f) (F:FnOk X.prog X.w X.K X.mg X.base CX k f fd ps sp) (hr:Room (k+1) X.A) (hb:Binds X.K fd ps ds) (hd:Vals dvs ds)
  (hx:gD CX X E) (I:Inv X pins σ H s) (r:Vals vs us)
  (h:∀ x dx,H x=none->H dx=none->dx≠x->sp (.ref x::(vs++dvs)) (upd (upd H dx (.own x)) x (.ins C dx [])) (fun v H2=>v=.non/\Q (.ref x) H2) E):
  wpAny (model X.prog X.w) X.A (call (.ref C) us) (EP X pins σ Q) X.xe s:=by
 have hq:=h (s.heap.objs.size+1) s.heap.objs.size (I.hok.fresh (Ao _)) (I.hok.fresh (yi _)) (yS (Nat.lt_succ_self _))
 have I2:=Inv.made (C:=C) I
 have r2:Vals (V.ref (s.heap.objs.size+1)::(vs++dvs)) (Value.ref (s.heap.objs.size+1)::(us++ds)):=.cons rfl (r.append hd)
 have hl:(Value.ref (s.heap.objs.size+1)::us++ds).length=ps.length:=by
  have e:=r2.length
  rw[F.len _ _ _ _ hq]at e
  exact e.symm
 refine AB (qD (f:=f) I.kIn M.makes M.init (zy.mp M.fn) (AE (F.run _ X.stack _ _ ⟨Value.ref (s.heap.objs.size+1)::us,[]⟩ (Value.ref (s.heap.objs.size+1)::(us++ds)) _ _ E (hr.make C us [])
  (I2.env0.make C us []) (hb _ (Value.ref (s.heap.objs.size+1)::us) I2.kIn hl) r2 hq) fun r s' hq'=>?_))
 cases r with
 | error e=>exact hx pins σ _ _ e s' I2 hq'
 | ok fl=>
  cases fl with
  | ret u=>
   obtain⟨v,H',I3,rv,ev,q3⟩:=I2.after hq'
   subst ev
   exact⟨rv,⟨V.ref (s.heap.objs.size+1),H',I3,rfl,q3⟩⟩
  | next=>exact False.elim hq'
  | brk=>exact False.elim hq'
  | cont=>exact False.elim hq'
theorem x5 (M:Mk X.K C f)(F:FnOk X.prog X.w X.K X.mg X.base CX k f fd ps sp)(hr:Room (k+1) X.A)(hg:Gl X x)(hm:X.mg x=some (.ref C))(hb:Binds X.K fd ps ds)(hd:Vals dvs ds)(hx:gD CX X E)
  (ha:PA X (e::es) t) (hdb:(x==("__debug__":Str))=false:=by decide) (he:starEach (e::es) X.env=(false,eval e X.env)::starEach es X.env:=by rfl) (hpl:(backTo pos (starEach es X.env)).any (·.1)=false:=by rfl):
  PE X (.Call (.Name x p) (e::es) [] pos) (sQ C sp dvs E t):=by
 intro pins s σ H Q I h
 refine zB (cQ I hg hm ?_ hdb)
 refine zR (h₀:=X.base) I.ok.mod.kin M.kp (thn (ha pos pins s σ H _ I h) fun us s1 ⟨vs,H1,I1,r,q⟩=>⟨I1.kIn,?_⟩) he hpl
 exact pU M F hr hb hd hx I1 r q
theorem vk (M:Mk X.K C f)(F:FnOk X.prog X.w X.K X.mg X.base CX k f fd ps sp)(hr:Room (k+1) X.A)(hg:Gl X x)(hm:X.mg x=some (.ref C))(hb:Binds X.K fd ps ds)(hd:Vals dvs ds)(hx:gD CX X E)
  (hdb:(x==("__debug__":Str))=false:=by decide):PE X (.Call (.Name x p) [] [] pos) (sQ C sp dvs E kg):=by
 intro pins s σ H Q I h
 refine zB (cQ I hg hm ?_ hdb)
 exact PySem.W.callWith_K0 I.kIn M.kp (pU (us:=[]) M F hr hb hd hx I .nil h)
end
def PK (X:Cx)(kws:List Keyword)(t:TA):Prop:=
 ∀ (pos:Pos)(pins:List (Addr×Obj))(s:Shared)(σ:St)(H:Hp)(Q:List V->Hp->Prop),Inv X pins σ H s->t σ H Q->wpAny (model X.prog X.w) X.A (evalAll ((backToKw pos (keywordEach kws X.env)).map (·.2))) (AP X pins σ Q) X.xe s
section
variable {X : Cx}{CX : CXT}{k : Nat}{f C : Addr}{fd : FuncData}{ps ks : List Str}{sp : Sp}{E : XK}{x m : Str}{p pos apos kpos : Pos}{e o : Expr}{es : List Expr}{kws : List Keyword}{te ta : TE}{t tk : TA}{nm : Option Str}
theorem pk_nil:PK X [] kg:=fun _ _ _ _ H Q I h=>wpAny_evalAll_nil ⟨[],H,I,.nil,h⟩
theorem wW (ha:PE X e te)(hr:PK X kws t):PK X (⟨nm,e,kpos⟩::kws) (bF te t):=by
 intro pos pins s σ H Q I h
 show wpAny _ _ (evalAll ((do let v <- eval e X.env;standAt pos;pure v)::(backToKw pos (keywordEach kws X.env)).map (·.2))) _ _ s
 refine wpAny_evalAll_cons (yc (thn (ha pins s σ H _ I h) fun u s1 ⟨x,H1,I1,r1,q1⟩=>yc (Bc (yp ?_))))
 exact thn (hr pos pins s1 σ H1 _ I1 q1) fun us s2 ⟨xs,H2,I2,r2,q2⟩=>⟨x::xs,H2,I2,.cons r1 r2,q2⟩
variable {g : List Value -> List Value -> List Value}{gV : List V -> List V -> List V}
end
structure am (N P : List Str) (sc : Scope) : Prop where
  kind : sc.kind = .function
  co : sc.isCoroutine = false
  gen : sc.isGenerator = false
  nd : N.Nodup
  pre : N.take P.length = P
  par : ∀ x ∈ P, sc.names.lookup x = some .local \/ sc.names.lookup x = some .cell
  nofree : ∀ y ∈ sc.names, y.2 ≠ .free
theorem nU {kindOf:Str->Option NameKind}{x:Str}:∀ {binds:List (Str×Value)}{m:Str->Option Value},(∀ v,(x,v)∉binds)->bindL kindOf binds m x=m x
 | [],_,_=>rfl
 | (n,v)::r,m,h=>by
  unfold bindL
  rw[nU fun w hw=>h w (yX _ hw)]
  split
  ·have:x≠n:=by rintro rfl;exact h v zr
   simp[this]
  ·rfl
theorem nX {kindOf:Str->Option NameKind}{x:Str}:∀ {binds:List (Str×Value)}{m:Str->Option Value},(∀ v,(x,v)∉binds)->bindC kindOf binds m x=m x
 | [],_,_=>rfl
 | (n,v)::r,m,h=>by
  unfold bindC
  rw[nX fun w hw=>h w (yX _ hw)]
  split
  ·rfl
  ·have:x≠n:=by rintro rfl;exact h v zr
   simp[this]
theorem nV {kindOf:Str->Option NameKind}{x:Str}{v:Value}:∀ {P:List Str}{vs:List Value}{i:Nat}{m:Str->Option Value},P.Nodup->P[i]?=some x->vs[i]?=some v->kindOf x=some .local->
  bindL kindOf (P.zip vs) m x=some v
 | [],_,_,_,_,h,_,_=>by simp at h
 | _::_,[],_,_,_,_,h,_=>by simp at h
 | p::P,w::vs,0,m,nd,h1,h2,hk=>by
  simp at h1 h2;subst h1;subst h2
  show bindL kindOf ((p,w)::P.zip vs) m p=_
  unfold bindL
  rw[nU fun v hv=>(zt.mp nd).1 (List.of_mem_zip hv).1,if_pos hk]
  simp
 | p::P,w::vs,i+1,m,nd,h1,h2,hk=>by
  show bindL kindOf ((p,w)::P.zip vs) m x=_
  unfold bindL
  exact nV (i:=i) (zt.mp nd).2 (by simpa using h1) (by simpa using h2) hk
theorem nY {kindOf:Str->Option NameKind}{x:Str}{v:Value}:∀ {P:List Str}{vs:List Value}{i:Nat}{m:Str->Option Value},P.Nodup->P[i]?=some x->vs[i]?=some v->kindOf x≠some .local->
  bindC kindOf (P.zip vs) m x=some v
 | [],_,_,_,_,h,_,_=>by simp at h
 | _::_,[],_,_,_,_,h,_=>by simp at h
 | p::P,w::vs,0,m,nd,h1,h2,hk=>by
  simp at h1 h2;subst h1;subst h2
  show bindC kindOf ((p,w)::P.zip vs) m p=_
  unfold bindC
  rw[nX fun v hv=>(zt.mp nd).1 (List.of_mem_zip hv).1,if_neg hk]
  simp
 | p::P,w::vs,i+1,m,nd,h1,h2,hk=>by
  show bindC kindOf ((p,w)::P.zip vs) m x=_
  unfold bindC
  exact nY (i:=i) (zt.mp nd).2 (by simpa using h1) (by simpa using h2) hk
def start (N:List Str)(vs:List V):St:=vs.map some++List.replicate (N.length - vs.length) none
def kx (CX:CXT)(P:Program)(w:World)(K:PySem.W.Frag)(mg:Str->Option Value)(base:Heap)(N:List Str)(qual:Str)(scope:Scope)(f:Addr)(cd:Value)(A:Around)(outer:List Env)(s:Shared)(H:Hp)(E:XK):Cx where
 prog:=P
 w:=w
 K:=K
 mg:=mg
 base:=base
 A:=A.deeper (envOfC qual scope s.heap.objs.size f cd)
 N:=N
 s₀:=s
 H₀:=H
 env:=envOfC qual scope s.heap.objs.size f cd
 outer:=outer
 stack:=envOfC qual scope s.heap.objs.size f cd::outer
 ex:=[]
 calm:=true
 fn:=fun _=>true
 pn:=[]
 xe:=fun e s'=>wpAny (model P w) (A.deeper (envOfC qual scope s.heap.objs.size f cd)) (leaving (envOfC qual scope s.heap.objs.size f cd) e) (fun _ s''=>CX outer H s E e s'') (fun e' s''=>CX outer H s E e' s'') s'
theorem r9 {sc:Scope}{n:Nat}{x:Str} (h:sc.names.lookup x=some .cell):∃ c,(cellsFrom n sc.names []).lookup x=some c:=by
 have q:=PySem.W.cellsFrom_some sc.names n [] (.inl h)
 exact Bv.mp q
theorem uA {CX:CXT}{P:Program}{w:World}{K:PySem.W.Frag}{mg:Str->Option Value}{base:Heap}{N ps:List Str}{qual:Str}{scope:Scope}{f:Addr}{cd:Value}{A:Around}{outer:List Env}{s s1:Shared}{H:Hp}{E:XK}{us:List Value}{vs:List V}
  (S:am N ps scope) (hd:A.handled=none) (e0:Env0 P w K mg base A outer s H) (hl:vs.length=ps.length) (r:Vals vs us)
  (x:InCallC s s.heap.objs.size (bindL (envOfC qual scope s.heap.objs.size f cd).kindOf (ps.zip us) fun _=>none) (cellsFrom (s.heap.objs.size+1) scope.names []) (bindC (envOfC qual scope s.heap.objs.size f cd).kindOf (ps.zip us) fun _=>none) s1):
  Inv (kx CX P w K mg base N qual scope f cd A outer s H E) [] (start N vs) H s1:=by
 have hpl:ps.length<=N.length:=by have:=congrArg List.length S.pre;rw[yO]at this;omega
 obtain⟨h1,tk,rfl,hk⟩:=x.done
 have noA:∀ b:Addr,b∉(kx CX P w K mg base N qual scope f cd A outer s H E).ex:=fun b z=>absurd (show b∈([]:List Addr) from z) (by simp)
 refine⟨⟨e0.mod,S.kind,rfl,rfl,yi _,fun y z c h1 h2=>?_,fun y hy=>?_,fun y c _ h=>?_,fun _=>hd,Around.frames_deeper e0.frames,.inr ⟨rfl,rfl⟩,fun b z=>absurd z (noA b),e0.bs,e0.bsz,fun b _ _=>noA b,fun b z=>absurd z (noA b),e0.funs,e0.frf⟩,
  rfl,e0.bare,Un.kept hk,⟨_,x.toInCall.ns,fun i y v h1 h2 h3=>?_⟩,fun y c h=>⟨_,x.cell y c h⟩,e0.hok.fresh (yi _),fun y c h=>?_,fun p hp=>absurd (show p∈([]:List (Addr×Obj)) from hp) (by simp),e0.hok.kept hk,?_⟩
 ·exact name_of_addr x.apart (AI h1) (AI h2)
 ·have hy:scope.names.lookup y=some .cell\/scope.names.lookup y=some .free:=hy
  rcases hy with hy|hy
  ·exact r9 hy
  ·exact absurd rfl (S.nofree _ (AI hy))
 ·exact Ap (x.above y c (AI h))
 ·have hi:i<vs.length:=by
   unfold start at h2
   by_cases hi:i<vs.length
   ·exact hi
   ·rw[yF (by simpa using hi)]at h2
    rw[List.getElem?_replicate]at h2
    split at h2 <;> cases h2
  have ha:vs[i]?=some v:=by
   unfold start at h2
   rw[yK (by simpa using hi),yf]at h2
   cases e:vs[i]? with
   | none=>rw[e]at h2;cases h2
   | some a=>rw[e]at h2;cases h2;rfl
  obtain⟨u,hu,rv⟩:=r.get ha
  have hp:ps[i]?=some y:=by
   rw[<- S.pre,Bw (by omega)];exact h1
  have ndP:ps.Nodup:=by rw[<- S.pre];exact S.nd.sublist (List.take_sublist _ _)
  refine⟨u,rv,?_⟩
  rcases S.par y (yh hp) with k|k
  ·exact .inl ⟨k,nV ndP hp hu k⟩
  ·obtain⟨c,e⟩:=r9 (n:=s.heap.objs.size+1) k
   refine .inr ⟨.inl k,c,e,?_⟩
   have q:=x.cell y c e
   rw[nY ndP hp hu (by show scope.names.lookup y≠_;rw[k];decide)]at q
   exact q
 ·exact e0.hok.fresh (Ap (x.above y c (AI h)))
 ·unfold start
  show _=N.length
  rw[yu,y9,List.length_replicate]
  omega
theorem vW {CX:CXT}{P:Program}{w:World}{K:PySem.W.Frag}{mg:Str->Option Value}{base:Heap}{k:Nat}{f:Addr}{name qual:Str}{params:Arguments}{body:List Stmt}{scope:Scope}{dV kV doc pm cdv ct oc:Value}{an od:Option Addr}
  {osl:Array (Option Value)}{N ps:List Str}{sp:Sp} (lk:K.lookup f=some ⟨oc,od,.func (PySem.W.fnOf name qual params body scope dV kV doc pm an cdv ct),osl⟩) (hcd:PySem.W.codeIn K cdv qual=true) (S:am N ps scope)
  (len:∀ vs H Q E,sp vs H Q E->vs.length=ps.length)
  (hbody:∀ (A:Around)(outer:List Env)(s:Shared)(H:Hp)(vs:List V)(Q:VK)(E:XK),Room k (A.deeper (envOfC qual scope s.heap.objs.size f cdv))->sp vs H Q E->
   ∃ t,PSs (kx CX P w K mg base N qual scope f cdv A outer s H E) body t/\t { nx:=fun _ H'=>Q .non H',rt:=Q } (start N vs) H):
  FnOk P w K mg base CX (k+1) f (PySem.W.fnOf name qual params body scope dV kV doc pm an cdv ct) ps sp:=by
 refine⟨len,fun A outer s H args us vs Q E hr e0 hb r hsp=>?_⟩
 have hl:=len _ _ _ _ hsp
 have KX:K.In s.heap:=e0.mod.kin.keeps fun b o e=>(e0.bs b o e).1
 have lim:s.heap.NoLimit:=e0.mod.nolimit.keeps fun b o e=>(e0.bs b o e).1
 have hkind:∀ y∈ps.zip us,scope.names.lookup y.1=some .local\/(scope.names.lookup y.1=some .cell/\((cellsFrom (s.heap.objs.size+1) scope.names []).lookup y.1).isSome=true):=fun⟨n,v⟩ hy=>by
  rcases S.par n (List.of_mem_zip hy).1 with q|q
  ·exact .inl q
  ·exact .inr ⟨q,PySem.W.cellsFrom_some _ _ _ (.inl q)⟩
 refine codeAny_call_function hr.depth (KX _ _ lk) rfl S.co S.gen rfl (PySem.W.codeRec_of KX hcd) (hb _ _ _ _ ?_)
 refine wpAny_newFunctionEnv_cells S.kind hkind fun env he s1 x=>?_
 subst he
 refine⟨lim.keeps x.toInCall.keep,codeAny_func ?_⟩
 obtain⟨t,ht,hq⟩:=hbody A outer s H vs Q E (hr.deeper _) hsp
 have I:Inv (kx CX P w K mg base N qual scope f cdv A outer s H E) [] (start N vs) H s1:=uA S hr.hd e0 hl r x
 refine zj (ht [] s1 (start N vs) H _ I hq) (fun fl s' hs=>?_) fun e s' hs=>hs
 have fin:∀ {σ':St}{H':Hp}{v:V}{u:Value},Inv (kx CX P w K mg base N qual scope f cdv A outer s H E) [] σ' H' s'->RelV v u->Q v H'->CE outer P w H s Q u s':=
  fun {σ' H' v u} J rv q=>⟨v,H',J.os,J.bare,J.base,J.hok,rv,q⟩
 cases fl with
 | ret u=>
  obtain⟨v,σ',H',J,rv,q⟩:=hs
  exact fin J rv q
 | next=>
  obtain⟨σ',H',J,q⟩:=hs
  exact fin (v:=V.non) (u:=Value.none) J rfl q
 | brk=>
  obtain⟨_,_,_,q⟩:=hs
  exact False.elim q
 | cont=>
  obtain⟨_,_,_,q⟩:=hs
  exact False.elim q
section
variable {X : Cx}{x : Str}{p pos : Pos}{e : Expr}{es : List Expr}{t : TA}{id T : String}{r : List V -> Hp -> VK -> Prop}
def tCB (r:List V->Hp->VK->Prop)(t:TA):TE:=fun σ H Q=>t σ H fun vs H1=>r vs H1 Q
theorem aA (hc:CallR X (.builtin id) r)(hg:Gl X x)(hm:X.mg x=none)(hv:bootBuiltins x=some (.builtin id))(ha:PA X (e::es) t)(hn:x≠"__name__":=by decide)(hdb:(x==("__debug__":Str))=false:=by decide)
  (he:starEach (e::es) X.env=(false,eval e X.env)::starEach es X.env:=by rfl) (hpl:(backTo pos (starEach es X.env)).any (·.1)=false:=by rfl):PE X (.Call (.Name x p) (e::es) [] pos) (tCB r t):=by
 intro pins s σ H Q I h
 refine zB (iG I hg hm hv ?_ hn hdb)
 exact PyProof.Rows.callWith_builtin1 (thn (ha pos pins s σ H _ I h) fun us s1 ⟨vs,H1,I1,r1,q1⟩=>hc pins s1 σ H1 vs us Q I1 r1 q1) he hpl
theorem bY (hc:CallR X (.type T) r)(hg:Gl X x)(hm:X.mg x=none)(hv:bootBuiltins x=some (.type T))(ha:PA X (e::es) t)(hn:x≠"__name__":=by decide)(hdb:(x==("__debug__":Str))=false:=by decide)
  (he:starEach (e::es) X.env=(false,eval e X.env)::starEach es X.env:=by rfl) (hpl:(backTo pos (starEach es X.env)).any (·.1)=false:=by rfl):PE X (.Call (.Name x p) (e::es) [] pos) (tCB r t):=by
 intro pins s σ H Q I h
 refine zB (iG I hg hm hv ?_ hn hdb)
 exact Ay (thn (ha pos pins s σ H _ I h) fun us s1 ⟨vs,H1,I1,r1,q1⟩=>hc pins s1 σ H1 vs us Q I1 r1 q1) he hpl
end
end L2
namespace HT
open PySem PyProof.Rows
theorem eqAt_int (A:Around)(s:Shared)(a:Int)(t:Tok)(c:Int)(u:Tok):∃ e,SeqAt.EqAt A s (.int a t) (.int c u) e/\(e=true ↔ a=c):=
 ⟨(a==c),SeqAt.EqAt.int_int a t c u,by simp⟩
section
open PySem.SeqAt
open PySem.AutoSeq1 (wpAny_loadPart')
open PySem.MeetsSeq PySem.MeetsSeq2 PySem.MeetsSeq3
end
section
variable {prog : Program}{w : World}{A : Around}{E : Value -> Shared -> Prop}{s : Shared}
def sIx (n d:Nat):Option Int->Nat
 | none=>d
 | some v=>if v<0 then (v+(n:Int)).toNat else min v.toNat n
theorem sIx_none (n d:Nat):sIx n d none=d:=rfl
theorem sIx_nat (n d k:Nat):sIx n d (some (k:Int))=min k n:=by
 show (if (k:Int)<0 then ((k:Int)+(n:Int)).toNat else min (k:Int).toNat n)=min k n
 rw[if_neg (by omega),zm]
end
end HT
namespace L2
open PySem PySem.Spec PyProof.Rows
abbrev TO:=St->Hp->(Option Int->Hp->Prop)->Prop
def PO (X:Cx)(e:Option Expr)(t:TO):Prop:=
 ∀ (pins:List (Addr×Obj))(s:Shared)(σ:St)(H:Hp)(Q:Option Int->Hp->Prop),Inv X pins σ H s->t σ H Q->
  wpAny (model X.prog X.w) X.A (evalPart e X.env) (fun u s'=>∃ o H',Inv X pins σ H' s'/\IsPart u o/\Q o H') X.xe s
def wF:TO:=fun _ H Q=>Q none H
def tPart (t:TE):TO:=fun σ H Q=>t σ H fun x H1=>∃ i,x=.int i/\Q (some i) H1
theorem iJ {ns:List Int}:∀ {us:List Value},Vals (ns.map V.int) us->IntsAre us ns:=by
 induction ns with
 | nil=>intro us r;rw[Aa]at r;cases r;exact .nil
 | cons n ns ih=>
  intro us r
  rw[yN]at r
  cases r with
  | cons r1 r2=>
   obtain⟨t,e⟩:=r1
   subst e
   exact .cons n t (ih r2)
section
variable {X : Cx}{e : Expr}{te : TE}{lo hi : Option Expr}{tl th : TO}{pos p2 : Pos}
theorem gK:PO X none wF:=by
 intro pins s σ H Q I h
 rw[evalPart_none]
 exact yp ⟨none,H,I,.none,h⟩
theorem cP (h:PE X e te):PO X (some e) (tPart te):=by
 intro pins s σ H Q I hw
 rw[evalPart_some]
 refine thn (h pins s σ H _ I hw) fun u s1 ⟨x,H1,I1,r1,q1⟩=>?_
 obtain⟨i,rfl,q⟩:=q1
 obtain⟨t,rfl⟩:=r1
 exact⟨some i,H1,I1,.int i t,q⟩
def SlR (X:Cx)(r:V->Option Int->Option Int->Hp->VK->Prop):Prop:=
 ∀ (pins:List (Addr×Obj))(s:Shared)(σ:St)(H:Hp)(x:V)(v vl vu:Value)(lo hi:Option Int)(sl:Addr)(Q:VK),Inv X pins σ H s->RelV x v->s.heap.IsSliceOf sl vl vu .none->IsPart vl lo->IsPart vu hi->r x lo hi H Q->
  ∃ T id,typeLookup (.type T) "__getitem__"=pure (some (.builtin id))/\s.TypeIs v T/\wpAny (model X.prog X.w) X.A (getItem v (.ref sl)) (EP X pins σ Q) X.xe s
def tSl (r:V->Option Int->Option Int->Hp->VK->Prop)(te:TE)(tl th:TO):TE:=fun σ H Q=>te σ H fun x H1=>tl σ H1 fun l H2=>th σ H2 fun u H3=>r x l u H3 Q
theorem cU {r:V->Option Int->Option Int->Hp->VK->Prop}(hr:SlR X r)(he:PE X e te)(hl:PO X lo tl)(hu:PO X hi th):PE X (.Subscript e (.Slice lo hi none p2) pos) (tSl r te tl th):=by
 intro pins s σ H Q I h
 refine Subscript_ (thn (he pins s σ H _ I h) fun v s1 ⟨x,H1,I1,r1,q1⟩=>?_)
 refine wpAny_Slice (thn (hl pins s1 σ H1 _ I1 q1) fun vl s2 ⟨l,H2,I2,pl,q2⟩=>thn (hu pins s2 σ H2 _ I2 q2) fun vu s3 ⟨u,H3,I3,pu,q3⟩=>?_)
 rw[evalPart_none]
 refine yp ?_
 have I4:Inv X pins σ H3 { s3 with heap:=s3.heap.push { cls:=.type "slice",data:=.fields #[vl,vu,.none] } }:=I3.kept (t':=s3.toks) fun b ob q=>yg _ q
 obtain⟨T,id,hT,ht,hg⟩:=hr pins { s3 with heap:=s3.heap.push { cls:=.type "slice",data:=.fields #[vl,vu,.none] } } σ H3 x v vl vu l u s3.heap.objs.size Q I4 r1 (Heap.IsSliceOf.new ..) pl pu q3
 show wpAny (model X.prog X.w) X.A (subscriptTail e (.Slice lo hi none p2) v (.ref s3.heap.objs.size)) (EP X pins σ Q) X.xe { s3 with heap:=s3.heap.push { cls:=.type "slice",data:=.fields #[vl,vu,.none] } }
 exact tail_any (ops:=[.ref s3.heap.objs.size,v]) ht hT hg (by with_unfolding_all rfl)
def jO (xs:List V)(lo hi:Option Int):List V:=(xs.drop (HT.sIx xs.length 0 lo)).take (HT.sIx xs.length xs.length hi - HT.sIx xs.length 0 lo)
theorem qU (xs:List V)(lo hi:Option Int):(jO xs lo hi).length<=xs.length:=by
 unfold jO
 rw[yO,B9]
 omega
end
def ixN (n:Nat)(i:Int):Option Nat:=if 0<=i then (if i<n then some i.toNat else none) else if -(n:Int)<=i then some (i+n).toNat else none
def atI {α:Type}(xs:List α)(i:Int):Option α:=(ixN xs.length i).bind fun j=>xs[j]?
theorem t5 {n:Nat}{i:Int}{j:Nat} (h:ixN n i=some j):seqIndex? i n=some j/\j<n/\-(n:Int)<=i/\i<n:=by
 unfold ixN at h
 by_cases h0:0<=i
 ·rw[if_pos h0]at h
  by_cases h1:i<n
  ·rw[if_pos h1]at h
   have e:i.toNat=j:=Option.some.inj h
   exact⟨by rw[seqIndex_of h0 h1,e],by omega,by omega,h1⟩
  ·rw[if_neg h1]at h;cases h
 ·rw[if_neg h0]at h
  by_cases h1:-(n:Int)<=i
  ·rw[if_pos h1]at h
   have e:(i+n).toNat=j:=Option.some.inj h
   exact⟨by rw[seqIndex_neg (by omega) h1,e],by omega,h1,by omega⟩
  ·rw[if_neg h1]at h;cases h
theorem tL {α:Type}{xs:List α}{i:Int}{v:α} (h:atI xs i=some v):∃ j,seqIndex? i xs.length=some j/\xs[j]?=some v/\j<xs.length/\-(xs.length:Int)<=i/\i<xs.length:=by
 unfold atI at h
 cases e:ixN xs.length i with
 | none=>rw[e]at h;cases h
 | some j=>
  rw[e]at h
  obtain⟨h1,h2,h3,h4⟩:=t5 e
  exact⟨j,h1,h,h2,h3,h4⟩
theorem dj {α:Type}{xs:List α}{j:Nat}{v:α} (h:xs[j]?=some v):atI xs (j:Int)=some v:=by
 have hj:j<xs.length:=(yd.mp h).1
 have e:ixN xs.length (j:Int)=some j:=by
  unfold ixN
  rw[if_pos (by omega),if_pos (by omega)];simp
 unfold atI;rw[e];exact h
def y3 (b:Expr):Prop:=∀ o i,subscripted b false o i=operate [o,i] (getItem o i)
def IxR (X:Cx)(r:R2):Prop:=
 ∀ (value slice:Expr)(pins:List (Addr×Obj))(s:Shared)(σ:St)(H:Hp)(x y:V)(v u:Value)(Q:VK),Inv X pins σ H s->RelV x v->RelV y u->r x y H Q->
  subscripted slice false v u=operate [v,u] (getItem v u)->wpAny (model X.prog X.w) X.A (subscriptTail value slice v u) (EP X pins σ Q) X.xe s
def MtR (X:Cx)(id:String)(r:V->List V->Hp->VK->Prop):Prop:=
 ∀ (pins:List (Addr×Obj))(s:Shared)(σ:St)(H:Hp)(x:V)(xs:List V)(v:Value)(us:List Value)(Q:VK),Inv X pins σ H s->RelV x v->Vals xs us->r x xs H Q->
  wpAny (model X.prog X.w) X.A (call (.builtin id) (v::us)) (EP X pins σ Q) X.xe s
section
variable {X : Cx}{a b : Expr}{ta tb : TE}{pos : Pos}
theorem bK {r:R2}(hr:IxR X r)(ha:PE X a ta)(hb:PE X b tb)(hs:y3 b):PE X (.Subscript a b pos) (tOp r ta tb):=by
 intro pins s σ H Q I h
 exact Subscript_ (binT ha hb I h fun v u s2 x y H2 I2 rx ry q=>hr a b pins s2 σ H2 x y v u Q I2 rx ry q (hs _ _))
def rIxL (K:PySem.W.Frag):R2:=fun x y H Q=>∃ p xs i v,x=.ref p/\y=.int i/\SqL K H p xs/\atI xs i=some v/\Q v H
def rIxT (K:PySem.W.Frag):R2:=fun x y H Q=>∃ p xs i v,x=.ref p/\y=.int i/\SqT K H p xs/\atI xs i=some v/\Q v H
theorem xD:IxR X (rIxL X.K):=by
 intro value slice pins s σ H x y v u Q I rx ry h hs
 obtain⟨p,xs,i,z,rfl,rfl,hq,he,q⟩:=h
 cases rx
 obtain⟨t,rfl⟩:=ry
 obtain⟨its,r,pl,hz⟩:=I.list hq
 obtain⟨j,h1,h2,h3,h4,h5⟩:=tL he
 obtain⟨w,ew,rw'⟩:=r.get h2
 have hl:=r.length
 have hn:=lW
 have fin:EP X pins σ Q w s:=⟨z,H,I,rw',q⟩
 by_cases h0:0<=i
 ·have hj:i.toNat=j:=by
   rw[seqIndex_of h0 h5]at h1
   exact Option.some.inj h1
  exact item_listR pl.isList h0 (by omega) (by rw[hj];simpa using ew) fin hs
 ·have hj:(i+(its.toArray.size:Int)).toNat=j:=by
   rw[seqIndex_neg (by omega) h4]at h1
   rw[yx,<- hl]
   exact Option.some.inj h1
  exact subscriptTail_builtinR (x:=w) pl.isList.typeIs slot_list_getitem.lookup
   (wpAny_getItem_list_neg (Q:=fun r s'=>r=w/\EP X pins σ Q r s') pl.isList (by omega) (by rw[yx] <;> omega) (by omega) (by rw[hj];simpa using ew) ⟨rfl,fin⟩) hs
theorem ix_tup:IxR X (rIxT X.K):=by
 intro value slice pins s σ H x y v u Q I rx ry h hs
 obtain⟨p,xs,i,z,rfl,rfl,hq,he,q⟩:=h
 cases rx
 obtain⟨t,rfl⟩:=ry
 obtain⟨its,r,pl,hz⟩:=I.tuple hq
 obtain⟨j,h1,h2,h3,h4,h5⟩:=tL he
 obtain⟨w,ew,rw'⟩:=r.get h2
 have hl:=r.length
 have hn:=lW
 have fin:EP X pins σ Q w s:=⟨z,H,I,rw',q⟩
 exact subscriptTail_builtinR (x:=w) pl.typeIs slot_tuple_getitem.lookup
  (getItem_tuple (j:=j) (Q:=fun r s'=>r=w/\EP X pins σ Q r s') pl (by omega) (by omega) (by rw[yx,<- hl];exact h1) (by simpa using ew) ⟨rfl,fin⟩) hs
theorem se (its:List Value)(n j:Nat)(u:Value):Obj.mapSeq (·.setIfInBounds j u) { cls:=.type "list",data:=.seq its.toArray n }={ cls:=.type "list",data:=.seq (its.set j u).toArray n }:=by
 simp[Obj.mapSeq]
theorem Inv.lst {pins:List (Addr×Obj)}{σ:St}{H:Hp}{s:Shared}{p:Addr}{xs:List V} (I:Inv X pins σ H s) (h:H p=some (.lst xs)):
  ∃ (its:List Value)(n:Nat),Vals xs its/\s.heap.get? p=some { cls:=.type "list",data:=.seq its.toArray n }/\xs.length<=sizeLine:=by
 obtain⟨z,its,n,r,e⟩:=I.hok p _ h
 exact⟨its,n,r,e,z⟩
theorem Inv.lstUpd {pins:List (Addr×Obj)}{σ:St}{H:Hp}{s:Shared}{p:Addr}{xs ys:List V}{its its':List Value}{n n':Nat}{f:Obj->Obj} (I:Inv X pins σ H s) (h:H p=some (.lst xs))
  (ho:s.heap.get? p=some { cls:=.type "list",data:=.seq its.toArray n }) (hf:f { cls:=.type "list",data:=.seq its.toArray n }={ cls:=.type "list",data:=.seq its'.toArray n' }) (r:Vals ys its') (hz:ys.length<=sizeLine) (t:Nat):
  Inv X pins σ (upd H p (.lst ys)) { s with heap:=s.heap.update p f,toks:=t }:=by
 have e:(s.heap.update p f).get? p=some { cls:=.type "list",data:=.seq its'.toArray n' }:=by
  rw[zP f ho (by rw[hf] <;> rfl),hf]
 refine I.write (x:=p) (e:=p) (by rw[h];trivial) (.inl rfl) (fun b u hb q=>(zg _ _ (Ne.symm hb)).trans q) ⟨_,e⟩ ?_
 exact⟨hz,its',n',r,e⟩
def rSetL:V->V->V->Hp->(Hp->Prop)->Prop:=fun o i v H Q=>∃ p xs k j,o=.ref p/\i=.int k/\H p=some (.lst xs)/\ixN xs.length k=some j/\Q (upd H p (.lst (xs.set j v)))
theorem pL:PSet X rSetL:=by
 intro pins s σ H o i v ov iv u Q I ro ri rv h
 obtain⟨p,xs,k,j,rfl,rfl,hp,hj,q⟩:=h
 cases ro
 obtain⟨t,rfl⟩:=ri
 obtain⟨its,n,r,ho,hz⟩:=I.lst hp
 obtain⟨h1,h2,h3,h4⟩:=t5 hj
 have hl:=r.length
 have hn:=lW
 have I':Inv X pins σ (upd H p (.lst (xs.set j v))) { s with heap:=s.heap.update p (Obj.mapSeq (·.setIfInBounds j u)) }:=
  I.lstUpd hp ho (se its n j u) (r.set rv j) (by rw[List.length_set];exact hz) s.toks
 by_cases h0:0<=k
 ·have hk:k.toNat=j:=by
   rw[seqIndex_of h0 h4]at h1
   exact Option.some.inj h1
  exact PySem.W.ki_setAt ho h0 (by omega) (by rw[yx,<- hl];exact h4) (by rw[hk];exact⟨_,I',q⟩)
 ·have hk:(k+(its.toArray.size:Int)).toNat=j:=by
   rw[seqIndex_neg (by omega) h3]at h1
   rw[yx,<- hl]
   exact Option.some.inj h1
  exact PySem.W.ki_setBack ho (by omega) (by rw[yx,<- hl];exact h3) (by omega) (by rw[hk];exact⟨_,I',q⟩)
theorem oq (lo hi:Option Int)(n:Nat):(sliceBounds lo hi none n).1=((HT.sIx n 0 lo:Nat):Int)/\(sliceBounds lo hi none n).2.1=((HT.sIx n n hi:Nat):Int)/\(sliceBounds lo hi none n).2.2=1:=by
 refine⟨?_,?_,rfl⟩
 ·cases lo with
  | none=>simp[sliceBounds,HT.sIx]
  | some i=>
   simp only[sliceBounds,HT.sIx,Option.getD_none,show (1:Int) > 0 by decide,AV]
   by_cases h:i<0
   ·simp only[h,AV] <;> omega
   ·simp only[h,As] <;> omega
 ·cases hi with
  | none=>simp[sliceBounds,HT.sIx]
  | some i=>
   simp only[sliceBounds,HT.sIx,Option.getD_none,show (1:Int) > 0 by decide,AV]
   by_cases h:i<0
   ·simp only[h,AV] <;> omega
   ·simp only[h,As] <;> omega
theorem mD (its:List Value)(lo hi:Option Int):slicePick its.toArray lo hi none=((its.drop (HT.sIx its.length 0 lo)).take (HT.sIx its.length its.length hi - HT.sIx its.length 0 lo)).toArray:=by
 obtain⟨h1,h2,h3⟩:=oq lo hi its.toArray.size
 unfold slicePick
 rw[h1,h2,h3]
 simp only[sliceRange_one,pick_run,yx] <;> rfl
def rSlL (K:PySem.W.Frag):V->Option Int->Option Int->Hp->VK->Prop:=fun x lo hi H Q=>∃ a xs,x=.ref a/\SqL K H a xs/\∀ p,H p=none->Q (.ref p) (upd H p (.lst (jO xs lo hi)))
theorem sl_list:SlR X (rSlL X.K):=by
 intro pins s σ H x v vl vu lo hi sl Q I rx hs pl pu h
 obtain⟨a,xs,rfl,hx,q⟩:=h
 cases rx
 obtain⟨its,r,ht,hz⟩:=I.list hx
 have hlen:=r.length
 refine⟨"list",_,slot_list_getitem.lookup,ht.isList.typeIs,?_⟩
 refine wpAny_getItem_list_slice ht.isList hs pl pu .none (by simp) ?_ (by rw[yx] <;> omega)
 rw[mD,<- hlen]
 refine⟨.ref s.heap.objs.size,_,I.laid (t':=s.toks) (o:=.lst (jO xs lo hi)) (fun b ob q=>yg _ q) (yi _) ?_,rfl,q _ (I.hok.fresh (yi _))⟩
 exact⟨yM (qU xs lo hi) hz,_,0,(r.drop (HT.sIx xs.length 0 lo)).take (HT.sIx xs.length xs.length hi - HT.sIx xs.length 0 lo),yC _ rfl⟩
def fR:V->Bool
 | .non=>true
 | .bl _=>true
 | .int _=>true
 | .str _=>true
 | _=>false
def eqV:V->V->Bool
 | .non,.non=>true
 | .bl a,.bl b=>a==b
 | .bl a,.int b=>(if a then 1 else 0)==b
 | .int a,.bl b=>a==(if b then 1 else 0)
 | .int a,.int b=>a==b
 | .str a,.str b=>a==b
 | _,_=>false
theorem wa {A:Around}{s:Shared}{y x:V}{u v:Value} (ry:RelV y u) (rx:RelV x v) (fy:fR y=true) (fx:fR x=true):SeqAt.EqAt A s u v (eqV y x):=by
 cases y with
 | non=>
  cases ry
  cases x with
  | non=>cases rx;exact SeqAt.EqAt.same _
  | bl b=>cases rx;exact SeqAt.EqAt.none_bool b
  | int b=>obtain⟨t,rfl⟩:=rx;exact SeqAt.EqAt.none_int b t
  | str b=>obtain⟨t,rfl⟩:=rx;exact SeqAt.EqAt.none_str b t
  | _=>exact absurd (show false=true from fx) yv
 | bl a=>
  cases ry
  cases x with
  | non=>cases rx;exact SeqAt.EqAt.bool_none a
  | bl b=>cases rx;exact SeqAt.EqAt.bool_bool a b
  | int b=>obtain⟨t,rfl⟩:=rx;exact SeqAt.EqAt.bool_int a b t
  | str b=>obtain⟨t,rfl⟩:=rx;exact SeqAt.EqAt.bool_str a b t
  | _=>exact absurd (show false=true from fx) yv
 | int a=>
  obtain⟨t',rfl⟩:=ry
  cases x with
  | non=>cases rx;exact SeqAt.EqAt.int_none a t'
  | bl b=>cases rx;exact SeqAt.EqAt.int_bool a t' b
  | int b=>obtain⟨t,rfl⟩:=rx;exact SeqAt.EqAt.int_int a t' b t
  | str b=>obtain⟨t,rfl⟩:=rx;exact SeqAt.EqAt.int_str a t' b t
  | _=>exact absurd (show false=true from fx) yv
 | str a=>
  obtain⟨t',rfl⟩:=ry
  cases x with
  | non=>cases rx;exact SeqAt.EqAt.str_none a t'
  | bl b=>cases rx;exact SeqAt.EqAt.str_bool a t' b
  | int b=>obtain⟨t,rfl⟩:=rx;exact SeqAt.EqAt.str_int a t' b t
  | str b=>obtain⟨t,rfl⟩:=rx;exact SeqAt.EqAt.str_str a t' b t
  | _=>exact absurd (show false=true from fx) yv
 | _=>exact absurd (show false=true from fy) yv
def eqU (x:V)(u:Value):Bool:=match u with
 | .none=>eqV .non x
 | .bool b=>eqV (.bl b) x
 | .int i _=>eqV (.int i) x
 | .str z _=>eqV (.str z) x
 | _=>false
theorem w8 {x y:V}{u:Value} (r:RelV y u) (f:fR y=true):eqU x u=eqV y x:=by
 cases y with
 | non=>cases r;rfl
 | bl b=>cases r;rfl
 | int i=>obtain⟨t,rfl⟩:=r;rfl
 | str z=>obtain⟨t,rfl⟩:=r;rfl
 | _=>exact absurd (show false=true from f) yv
theorem jh {x:V}:∀ {xs:List V}{us:List Value},Vals xs us->xs.all fR=true->us.any (eqU x)=xs.any fun y=>eqV y x
 | _,_,.nil,_=>rfl
 | y::xs,u::us,.cons r t,f=>by
  rw[Bx,z7]at f
  rw[Af,Af,w8 r f.1,jh t f.2]
theorem gu {A:Around}{s:Shared}{x:V}{v:Value} (rx:RelV x v) (fx:fR x=true):∀ {xs:List V}{us:List Value},Vals xs us->xs.all fR=true->∀ u∈us,SeqAt.EqAt A s u v (eqU x u)
 | _,_,.nil,_=>fun u hu=>by cases hu
 | y::xs,u::us,.cons r t,f=>fun u' hu=>by
  rw[Bx,z7]at f
  rcases yB.mp hu with rfl|hu
  ·rw[w8 r f.1];exact wa r rx f.1 fx
  ·exact gu rx fx t f.2 u' hu
def inV (x:V)(xs:List V):Bool:=xs.any fun y=>eqV y x
def rIn (K:PySem.W.Frag)(neg:Bool):R2:=fun x y H Q=>∃ p xs,y=.ref p/\(SqL K H p xs\/SqT K H p xs)/\fR x=true/\xs.all fR=true/\Q (.bl (if neg then !inV x xs else inV x xs)) H
theorem ue:OpR X (compareOp .In) (rIn X.K false):=by
 intro pins s σ H x y v u Q I rx ry h
 obtain⟨p,xs,rfl,hq,fx,fs,q⟩:=h
 cases ry
 rcases hq with hq|hq
 ·obtain⟨its,r,pl,hz⟩:=I.list hq
  refine SeqAt.in_listAt (eqU x) pl.isList (fun w hw=>gu rx fx r fs w (by simpa using hw)) ⟨.bl _,H,I,rfl,?_⟩
  rw[show its.toArray.any (eqU x)=its.any (eqU x) by simp,jh r fs]
  exact q
 ·obtain⟨its,r,pl,hz⟩:=I.tuple hq
  refine SeqAt.in_tupleAt (eqU x) pl (fun w hw=>gu rx fx r fs w (by simpa using hw)) ⟨.bl _,H,I,rfl,?_⟩
  rw[show its.toArray.any (eqU x)=its.any (eqU x) by simp,jh r fs]
  exact q
theorem oM:OpR X (compareOp .NotIn) (rIn X.K true):=by
 intro pins s σ H x y v u Q I rx ry h
 obtain⟨p,xs,rfl,hq,fx,fs,q⟩:=h
 cases ry
 rcases hq with hq|hq
 ·obtain⟨its,r,pl,hz⟩:=I.list hq
  refine SeqAt.notIn_listAt (eqU x) pl.isList (fun w hw=>gu rx fx r fs w (by simpa using hw)) ⟨.bl _,H,I,rfl,?_⟩
  rw[show its.toArray.any (eqU x)=its.any (eqU x) by simp,jh r fs]
  exact q
 ·obtain⟨its,r,pl,hz⟩:=I.tuple hq
  refine SeqAt.notIn_tupleAt (eqU x) pl (fun w hw=>gu rx fx r fs w (by simpa using hw)) ⟨.bl _,H,I,rfl,?_⟩
  rw[show its.toArray.any (eqU x)=its.any (eqU x) by simp,jh r fs]
  exact q
theorem pA:CallR X (.builtin "len") (fun xs H Q=>∃ p ys,xs=[.ref p]/\(SqL X.K H p ys\/SqT X.K H p ys)/\Q (.int ys.length) H):=by
 intro pins s σ H xs us Q I r h
 obtain⟨p,ys,rfl,hq,q⟩:=h
 obtain⟨u,rfl,rx⟩:=fP r
 cases rx
 have hn:=lW
 rcases hq with hq|hq
 ·obtain⟨its,r',pl,hz⟩:=I.list hq
  have hlen:=r'.length
  exact Calls.call_len_list pl.isList (by simp only[yx] <;> omega) ⟨.int ys.length,H,I.tok _,⟨s.toks+1,by rw[yx,hlen]⟩,q⟩
 ·obtain⟨its,r',pl,hz⟩:=I.tuple hq
  have hlen:=r'.length
  exact len_tuple pl (by simp only[yx] <;> omega) ⟨.int ys.length,H,I.tok _,⟨s.toks+1,by rw[yx,hlen]⟩,q⟩
theorem py:CallR X (.builtin "len") (fun xs H Q=>∃ z,xs=[.str z]/\z.length<=sizeLine/\Q (.int z.length) H):=by
 intro pins s σ H xs us Q I r h
 obtain⟨z,rfl,hz,q⟩:=h
 obtain⟨u,rfl,t,rfl⟩:=fP r
 have hn:=lW
 exact len_str (by omega) ⟨.int z.length,H,I.tok _,⟨_,rfl⟩,q⟩
theorem px:CallR X (.type "list") (fun xs H Q=>∃ p ys,xs=[.ref p]/\(SqL X.K H p ys\/SqT X.K H p ys)/\∀ l,H l=none->Q (.ref l) (upd H l (.lst ys))):=by
 intro pins s σ H xs us Q I r h
 obtain⟨p,ys,rfl,hq,q⟩:=h
 obtain⟨u,rfl,rx⟩:=fP r
 cases rx
 have fin:∀ (its:List Value),Vals ys its->ys.length<=sizeLine->∀ (h':Heap)(c':Nat),(∀ b o',s.heap.get? b=some o'->h'.get? b=some o')->
   h'.get? s.heap.objs.size=some { cls:=.type "list",dict:=none,data:=.seq its.toArray c',slots:=#[] }->EP X pins σ Q (.ref s.heap.objs.size) { s with heap:=h' }:=fun its r' hz h' c' kp e=>
  ⟨.ref s.heap.objs.size,_,I.laid (t':=s.toks) kp (yi _) (show ObjOk X.prog X.w _ h' _ (.lst ys) from ⟨hz,its,c',r',e⟩),rfl,q _ (I.hok.fresh (yi _))⟩
 rcases hq with hq|hq
 ·obtain⟨its,r',pl,hz⟩:=I.list hq
  have hlen:=r'.length
  obtain⟨o,ho,hc,n,hd⟩:=pl.isList
  exact call_list_seq p (.inl rfl) ho hc hd (fun h' c' kp e=>fin its r' hz h' c' kp e) (by simp only[yx] <;> omega)
 ·obtain⟨its,r',pl,hz⟩:=I.tuple hq
  have hlen:=r'.length
  obtain⟨o,ho,hc,n,hd⟩:=pl
  exact call_list_seq p (.inr rfl) ho hc hd (fun h' c' kp e=>fin its r' hz h' c' kp e) (by simp only[yx] <;> omega)
def tyV (K:PySem.W.Frag)(T:String)(x:V)(H:Hp):Prop:=match x with
 | .str _=>T="str"
 | .int _=>T="int"
 | .ref p=>(T="list"/\∃ xs,SqL K H p xs)\/(T="tuple"/\∃ o,K.lookup p=some o/\o.cls=.type "tuple"/\o.dict=none) \/
   (T="dict"/\((∃ kvs,H p=some (.dK kvs))\/∃ kvs,H p=some (.dT kvs)))\/(T="set"/\∃ S n,H p=some (.set S n))
 | _=>False
theorem uY {pins:List (Addr×Obj)}{σ:St}{H:Hp}{s:Shared}{T:String}{x:V}{v:Value} (I:Inv X pins σ H s) (r:RelV x v) (ty:tyV X.K T x H):
  s.TypeIs v T/\∀ a,v=.ref a->∃ ob,s.heap.get? a=some ob/\ob.dict=none:=by
 cases x with
 | str z=>
  obtain⟨t,rfl⟩:=r
  cases (show T="str" from ty)
  exact⟨typeIs_str s z t,fun _ e=>nomatch e⟩
 | int i=>
  obtain⟨t,rfl⟩:=r
  cases (show T="int" from ty)
  exact⟨typeIs_int s i t,fun _ e=>nomatch e⟩
 | ref p=>
  cases r
  rcases ty with⟨rfl,xs,hq⟩|⟨rfl,o,hk,hc,hd⟩|⟨rfl,hk⟩|⟨rfl,S,n,hk⟩
  ·obtain⟨its,_,pl,_⟩:=I.list hq
   refine⟨pl.isList.typeIs,fun a e=>?_⟩
   cases e
   obtain⟨o,n,e,c,hd,_⟩:=pl
   exact⟨o,e,hd⟩
  ·refine⟨⟨o,I.kIn p o hk,hc⟩,fun a e=>?_⟩
   cases e
   exact⟨o,I.kIn _ o hk,hd⟩
  ·have z:∃ o,s.heap.get? p=some o/\o.ExactDict:=by
    rcases hk with⟨kvs,hk⟩|⟨kvs,hk⟩
    ·obtain⟨_,_,_,_,o,_,_,e,ex,_⟩:=I.hok p _ hk
     exact⟨o,e,ex⟩
    ·obtain⟨_,_,_,_,o,_,_,e,ex,_⟩:=I.hok p _ hk
     exact⟨o,e,ex⟩
   obtain⟨o,e,ex⟩:=z
   refine⟨⟨o,e,ex.1⟩,fun a e2=>?_⟩
   cases e2
   exact⟨o,e,ex.2.1⟩
  ·obtain⟨o,_,_,_,e,ex,_⟩:=I.hok p _ hk
   refine⟨⟨o,e,ex.1⟩,fun a e2=>?_⟩
   cases e2
   exact⟨o,e,ex.2.1⟩
 | _=>exact False.elim ty
def tBM0 (K:PySem.W.Frag)(T:String)(r:V->List V->Hp->VK->Prop)(to:TE):TE:=fun σ H Q=>to σ H fun x H1=>tyV K T x H1/\r x [] H1 Q
def tBM (K:PySem.W.Frag)(T:String)(r:V->List V->Hp->VK->Prop)(to:TE)(t:TA):TE:=fun σ H Q=>to σ H fun x H1=>tyV K T x H1/\t σ H1 fun xs H2=>r x xs H2 Q
variable {o e : Expr}{es : List Expr}{to : TE}{t : TA}{name : Str}{apos cpos : Pos}{T id : String}{r : V -> List V -> Hp -> VK -> Prop}
theorem pe_bm0 (pa:PlainAttrs T)(slot:Slot T name id)(hty:typeOf (.builtin id)=pure (.type "method_descriptor"))(hm:MtR X id r)(ho:PE X o to)
  (hbase:attributeBase o name X.env (eval o X.env)=eval o X.env:=by rfl) (hline:(apos.endLine==cpos.line)=true:=by rfl):PE X (.Call (.Attribute o name apos) [] [] cpos) (tBM0 X.K T r to):=by
 intro pins s σ H Q I h
 refine wpAny_Call_method0_late hbase hline (thn (ho pins s σ H _ I h) fun v s1 ⟨x,H1,I1,r1,ty,q1⟩=>?_)
 obtain⟨h1,h2⟩:=uY I1 r1 ty
 exact⟨T,id,pa,slot,hty,h1,h2,zM rfl (PySem.evalArgs_none (hm pins s1 σ H1 x [] v [] Q I1 r1 .nil q1))⟩
theorem pe_bm (pa:PlainAttrs T)(slot:Slot T name id)(hty:typeOf (.builtin id)=pure (.type "method_descriptor"))(hm:MtR X id r)(ho:PE X o to)(ha:PA X (e::es) t)
  (hbase:attributeBase o name X.env (eval o X.env)=eval o X.env:=by rfl)
  (hfew:((backTo cpos (starEach (e::es) X.env)).all (fun x=>!x.1)&&(backToKw cpos (keywordEach [] X.env)).all (fun x=>x.1.isSome)
   && decide ((e::es).length+([]:List Keyword).length+(if ([]:List Keyword).isEmpty then 0 else 1)<30))=true:=by rfl)
  (hline:(apos.endLine==cpos.line)=true:=by rfl) (hs:starEach (e::es) X.env=(false,eval e X.env)::starEach es X.env:=by rfl) (hplain:(backTo cpos (starEach es X.env)).any (·.1)=false:=by rfl):
  PE X (.Call (.Attribute o name apos) (e::es) [] cpos) (tBM X.K T r to t):=by
 intro pins s σ H Q I h
 refine wpAny_Call_method_late hbase hfew hline rfl (thn (ho pins s σ H _ I h) fun v s1 ⟨x,H1,I1,r1,ty,q1⟩=>?_)
 obtain⟨h1,h2⟩:=uY I1 r1 ty
 refine⟨T,id,pa,slot,hty,h1,h2,?_⟩
 have hA:=ha cpos pins s1 σ H1 _ I1 q1
 rw[hs]at hA ⊢
 refine zM (by show (false || (backTo cpos (starEach es X.env)).any (·.1))=false;rw[hplain] <;> rfl) (Be ?_)
 exact thn hA fun us s2 ⟨vs,H2,I2,r2,q2⟩=>hm pins s2 σ H2 x vs v us Q I2 r1 r2 q2
end
def MtM (X:Cx)(id:String)(r:V->List V->Hp->VK->Prop):Prop:=
 ∀ (pins:List (Addr×Obj))(s:Shared)(σ:St)(H:Hp)(x:V)(xs:List V)(v:Value)(us:List Value)(Q:VK),Inv X pins σ H s->RelV x v->Vals xs us->r x xs H Q->
  wpAny (model X.prog X.w) X.A (call (.builtin id) (v::us)) (EP X pins σ Q) X.xe s
theorem Vals.one:∀ {x:V}{us:List Value},Vals [x] us->∃ u,us=[u]/\RelV x u
 | _,_,.cons r .nil=>⟨_,rfl,r⟩
theorem Vals.zero:∀ {us:List Value},Vals [] us->us=[]
 | _,.nil=>rfl
theorem Vals.dropLast {xs:List V}{us:List Value} (h:Vals xs us):Vals xs.dropLast us.dropLast:=by
 induction h with
 | nil=>exact .nil
 | cons r t ih=>
  cases t with
  | nil=>exact .nil
  | cons q t'=>exact .cons r ih
theorem Vals.eraseIdx:∀ {xs:List V}{us:List Value} (i:Nat),Vals xs us->Vals (xs.eraseIdx i) (us.eraseIdx i)
 | _,_,_,.nil=>.nil
 | _,_,0,.cons _ t=>t
 | _,_,i+1,.cons r t=>.cons r (Vals.eraseIdx i t)
theorem Vals.rep {xs:List V}{us:List Value} (h:Vals xs us):∀ k:Nat,Vals (List.replicate k xs).flatten (List.replicate k us).flatten
 | 0=>.nil
 | k+1=>by
  rw[zO,zO,AY,AY]
  exact Vals.append h (Vals.rep h k)
theorem sD {α:Type}(l:List α):l.eraseIdx (l.length - 1)=l.dropLast:=by
 induction l with
 | nil=>rfl
 | cons a r ih=>
  cases r with
  | nil=>rfl
  | cons b r=>
   have e:(a::b::r).length - 1=((b::r).length - 1)+1:=by
    have h1:(a::b::r).length=r.length+2:=rfl
    have h2:(b::r).length=r.length+1:=rfl
    omega
   rw[e,List.eraseIdx_cons_succ,ih]
   all_goals rfl
theorem nu {α:Type}:∀ (l:List α)(i:Nat),(l.eraseIdx i).length<=l.length
 | [],_=>yi _
 | _::_,0=>Ao _
 | _::r,i+1=>Nat.succ_le_succ (nu r i)
theorem nF (its:List Value):∀ (k:Nat)(acc:List Value),
  List.foldl (fun x1 x2=>x1++x2) acc.toArray (List.replicate k its.toArray)=(acc++(List.replicate k its).flatten).toArray
 | 0,acc=>by simp
 | k+1,acc=>by
  have e:acc.toArray++its.toArray=(acc++its).toArray:=by simp
  have e2:(acc++its)++(List.replicate k its).flatten=acc++(List.replicate (k+1) its).flatten:=by
   rw[zO,AY,Ab]
  rw[<- e2,<- nF its k (acc++its),<- e,zO,List.foldl_cons]
section
variable {X : Cx}{pins : List (Addr×Obj)}{σ : St}{H : Hp}{s : Shared}{l b : Addr}{xs ys zs : List V}
theorem Inv.lset {its its':List Value}{n:Nat}{f:Array Value->Array Value}{t':Nat} (I:Inv X pins σ H s) (hH:H l=some (.lst xs))
  (e:s.heap.get? l=some { cls:=.type "list",data:=.seq its.toArray n }) (hf:f its.toArray=its'.toArray) (hv:Vals ys its') (hz:ys.length<=sizeLine):
  Inv X pins σ (upd H l (.lst ys)) { s with heap:=s.heap.update l (Obj.mapSeq f),toks:=t' }:=by
 have q:=PySem.IsL.update e f
 rw[hf]at q
 refine I.write (x:=l) (e:=l) (by rw[hH];exact trivial) (.inl rfl) (fun b' u hb hu=>(zg s.heap (Obj.mapSeq f) (Ne.symm hb)).trans hu) ⟨_,q⟩ ?_
 exact⟨hz,its',_,hv,q⟩
theorem Inv.lnew {its:List Value}{t':Nat} (I:Inv X pins σ H s) (hv:Vals ys its) (hz:ys.length<=sizeLine):
  Inv X pins σ (upd H s.heap.objs.size (.lst ys)) { s with heap:=s.heap.push { cls:=.type "list",data:=.seq its.toArray },toks:=t' }:=
 I.laid (fun _ _ q=>yg _ q) (yi _) ⟨hz,its,0,hv,yC _ rfl⟩
theorem Inv.fresh (I:Inv X pins σ H s):H s.heap.objs.size=none:=I.hok.fresh (yi _)
theorem Inv.lstM (I:Inv X pins σ H s)(hH:H l=some (.lst xs)):xs.length<=sizeLine/\∃ (its:List Value)(n:Nat),Vals xs its/\xs.length=its.length/\s.heap.get? l=some { cls:=.type "list",data:=.seq its.toArray n }:=by
 obtain⟨z,its,n,r,e⟩:=I.hok l _ hH
 exact⟨z,its,n,r,r.length,e⟩
theorem vD {n:Nat}(h:n<=sizeLine):Builtin.List.listTooLong n=false:=by
 unfold Builtin.List.listTooLong
 exact yj (by omega)
end
section
variable {X : Cx}
def sV:V->List V->Hp->VK->Prop:=fun x vs H Q=>∃ l xs y,x=.ref l/\vs=[y]/\H l=some (.lst xs)/\xs.length<sizeLine/\Q .non (upd H l (.lst (xs++[y])))
theorem dm:MtM X "list.append" sV:=by
 intro pins s σ H x vs v us Q I rx rv h
 obtain⟨l,xs,y,rfl,rfl,hH,hz,q⟩:=h
 cases rx
 obtain⟨u,rfl,ru⟩:=rv.one
 obtain⟨z,its,n,r,hl,e⟩:=I.lstM hH
 refine call_meets F.slot_list_append ⟨_,e,rfl⟩ F.entry_list_append (F.args_list_append_2 _ _) (PySem.list_append l its.toArray n u (by rw[yx];omega)) ⟨e,?_⟩
 refine⟨.non,_,I.lset (its':=its++[u]) hH e (by simp) (r.append (.cons ru .nil)) ?_,rfl,q⟩
 rw[yu,zF]
 omega
def rPop:V->List V->Hp->VK->Prop:=fun x vs H Q=>∃ l xs y,x=.ref l/\vs=[]/\H l=some (.lst xs)/\xs[xs.length - 1]?=some y/\Q y (upd H l (.lst xs.dropLast))
theorem mt_pop:MtM X "list.pop" rPop:=by
 intro pins s σ H x vs v us Q I rx rv h
 obtain⟨l,xs,y,rfl,rfl,hH,hy,q⟩:=h
 cases rx
 have hus:=rv.zero
 subst hus
 obtain⟨z,its,n,r,hl,e⟩:=I.lstM hH
 obtain⟨u,hu,ru⟩:=r.get hy
 have hy':its.toArray[its.toArray.size - 1]?=some u:=by
  show its.toArray[its.length - 1]?=some u
  rw[<- B7,<- hl]
  exact hu
 refine call_meets F.slot_list_pop ⟨_,e,rfl⟩ F.entry_list_pop (F.args_list_pop_1 _) (MeetsSeq.list_pop_last l its.toArray n u hy' (by rw[yx];omega)) ⟨e,?_⟩
 refine⟨y,_,I.lset (its':=its.dropLast) hH e ?_ r.dropLast ?_,ru,q⟩
 ·show its.toArray.eraseIdxIfInBounds (its.toArray.size - 1)=its.dropLast.toArray
  rw[yx,List.eraseIdxIfInBounds_toArray,sD]
 ·rw[List.length_dropLast]
  omega
def rPopAt:V->List V->Hp->VK->Prop:=fun x vs H Q=>∃ l xs i k y,x=.ref l/\vs=[.int i]/\H l=some (.lst xs)/\-(2 ^ 63)<=i/\i<2 ^ 63/\seqIndex? i xs.length=some k/\xs[k]?=some y/\Q y (upd H l (.lst (xs.eraseIdx k)))
theorem qA:MtM X "list.pop" rPopAt:=by
 intro pins s σ H x vs v us Q I rx rv h
 obtain⟨l,xs,i,k,y,rfl,rfl,hH,h1,h2,hk,hy,q⟩:=h
 cases rx
 obtain⟨u,rfl,ru⟩:=rv.one
 obtain⟨t,rfl⟩:=ru
 obtain⟨z,its,n,r,hl,e⟩:=I.lstM hH
 obtain⟨w,hw,rw'⟩:=r.get hy
 refine call_meets F.slot_list_pop ⟨_,e,rfl⟩ F.entry_list_pop (F.args_list_pop_2 _ _)
  (MeetsSeq.list_pop_at l its.toArray n i t k w (fitsIndex_both h1 h2) (by rw[yx,<- hl];exact hk) (by rw[<- B7];exact hw) (by rw[yx];omega)) ⟨e,?_⟩
 refine⟨y,_,I.lset (its':=its.eraseIdx k) hH e ?_ (r.eraseIdx k) ?_,rw',q⟩
 ·show its.toArray.eraseIdxIfInBounds k=(its.eraseIdx k).toArray
  rw[List.eraseIdxIfInBounds_toArray]
 ·have:=nu xs k
  omega
def rCat:R2:=fun x y H Q=>∃ l b xs zs,x=.ref l/\y=.ref b/\H l=some (.lst xs)/\H b=some (.lst zs)/\xs.length+zs.length<=sizeLine/\∀ p,H p=none->Q (.ref p) (upd H p (.lst (xs++zs)))
theorem op_cat:OpR X (binaryOp .Add) rCat:=by
 intro pins s σ H x y v u Q I rx ry h
 obtain⟨l,b,xs,zs,rfl,rfl,hH,hB,hz,q⟩:=h
 cases rx
 cases ry
 obtain⟨z,its,n,r,hl,e⟩:=I.lstM hH
 obtain⟨z2,its2,n2,r2,hl2,e2⟩:=I.lstM hB
 refine PySem.P.add_list e e2 ?_ (by rw[yx,yx];omega)
 have ea:its.toArray++its2.toArray=(its++its2).toArray:=by simp
 rw[ea]
 exact⟨.ref _,_,I.lnew (t':=s.toks) (r.append r2) (by rw[yu];omega),rfl,q _ I.fresh⟩
def rRep:R2:=fun x y H Q=>∃ l k xs,x=.ref l/\y=.int k/\H l=some (.lst xs)/\-(2 ^ 63)<=k/\k<2 ^ 63/\xs.length * k.toNat<=sizeLine/\
 ∀ p,H p=none->Q (.ref p) (upd H p (.lst (List.replicate k.toNat xs).flatten))
theorem xz {α:Type}(xs:List α)(k:Nat):(List.replicate k xs).flatten.length=k * xs.length:=by
 induction k with
 | zero=>simp
 | succ k ih=>rw[zO,AY,yu,ih,Nat.succ_mul,Nat.add_comm]
theorem op_rep:OpR X (binaryOp .Mult) rRep:=by
 intro pins s σ H x y v u Q I rx ry h
 obtain⟨l,k,xs,rfl,rfl,hH,h1,h2,hz,q⟩:=h
 cases rx
 obtain⟨t,rfl⟩:=ry
 obtain⟨z,its,n,r,hl,e⟩:=I.lstM hH
 have hlen:its.toArray.size * k.toNat<=sizeLine:=by rw[yx,<- hl];exact hz
 have hcap:¬ its.toArray.size * k.toNat > (2 ^ 63 - 1) / 8:=by
  have:(sizeLine:Nat)<=(2 ^ 63 - 1) / 8:=by decide
  omega
 have hfit:¬ (!Builtin.List.listFitsIndex k)=true:=by
  rw[fitsIndex_both h1 h2]
  exact yv
 have hlong:¬ Builtin.List.listTooLong (its.toArray.size * k.toNat)=true:=by
  rw[vD hlen]
  exact yv
 have hnew:List.foldl (fun x1 x2=>x1++x2) #[] (List.replicate (if its.toArray.isEmpty=true then 0 else k.toNat) its.toArray)=(List.replicate k.toNat its).flatten.toArray:=by
  have f0:∀ m:Nat,List.foldl (fun x1 x2=>x1++x2) #[] (List.replicate m its.toArray)=(List.replicate m its).flatten.toArray:=fun m=>by
   have:=nF its m []
   rw[zb]at this
   exact this
  rw[f0]
  cases its with
  | nil=>simp
  | cons a r'=>rw[if_neg (by simp)]
 refine wpAny_binaryOp_repeat_ref (T:="list") (U:="int") (by decide) ⟨_,e,rfl⟩ (fun s'=>typeIs_int s' k t) noFill_list_mul F.fills_int_mul F.slot_int_rmul repeat_list F.slot_int_index.lookup
  (call_meets F.slot_int_rmul (typeIs_int s k t) F.entry_int_rmul (F.args_int_rmul_2 _ _) (int___rmul___int_list k t l its.toArray n)
   ⟨e,rfl,⟨_,e,rfl⟩,call_meets F.slot_list_mul ⟨_,e,rfl⟩ F.entry_list_mul (F.args_list_mul_2 _ _) (AutoListH.list___mul___list_int_3 l its.toArray n k t hfit hcap hlong) ⟨e,?_⟩⟩)
 rw[hnew]
 exact⟨.ref _,_,I.lnew (t':=s.toks) (r.rep k.toNat) (by rw[xz,Nat.mul_comm];exact hz),rfl,q _ I.fresh⟩
end
section
variable {prog : Program}{w : World}{A : Around}{E : Value -> Shared -> Prop}{s : Shared}
end
section
variable {X : Cx}
end
end L2
namespace Att
open PySem PySem.W PySem.Calls PyProof.Rows
theorem ku {P:Params}{h:Heap}:∀ (ns:List Int)(vs:List Value),WellAll P h vs (ns.map WData.int)->IntsAre vs ns:=by
 intro ns
 induction ns with
 | nil=>
  intro vs w
  rw[Aa]at w
  cases w
  exact .nil
 | cons n ns ih=>
  intro vs w
  rw[yN]at w
  cases w with
  | cons a b=>
   cases a
   exact .cons _ _ (ih _ b)
theorem tU {l:OpenLaw}{n:Nat} (hn:l.most=some n) {P:Params}{h:Heap}{args:List WData}{vals:List Value}
  (hpre:l.row.toRowW.claim.pre args=true) (hwl:WellAll P h vals args):
  ∃ a vs ns,vals=[Value.ref a]/\args=[WData.list (ns.map WData.int)]/\h.get? a=some { cls:=.type "list",data:=.seq vs.toArray }/\IntsAre vs ns/\ns.length<=n:=by
 have hsh:WShape.hasAll [] args [.list .int]=true:=(pre_splitW hpre).1
 have hc:l.pre.holds [] { args:=args }=true:=(pre_splitW hpre).2
 obtain⟨d,r,rfl,h1,h2⟩:=hasAllW_cons hsh
 obtain rfl:=hasAllW_nil h2
 obtain⟨xs,rfl,h3⟩:=hasW_list h1
 obtain⟨ns,rfl⟩:=items_int h3
 have hlen:ns.length<=n:=by
  unfold OpenLaw.pre at hc
  have h4:(WTm.not (.lt (.lit (.int (n:Int))) (.len (.arg 0)))).holds [] { args:=[.list (ns.map .int)] }=true:=by
   have h4:=(holds_andW hc).1
   rw[hn]at h4
   exact h4
  have h5:=condW_of h4 (w_not (w_lt w_lit (w_len_list (w_arg rfl))))
  rw[y9]at h5
  refine Nat.le_of_not_lt fun q=>?_
  have q':(n:Int)<((ns.length:Nat):Int):=by omega
  first
   | (rw[ye q']at h5;exact absurd h5 (by decide))
   | (simp at h5;omega)
 cases hwl with
 | cons w1 w2=>
  cases w2
  cases w1 with
  | list ho hall=>exact⟨_,_,ns,rfl,rfl,ho,ku ns _ hall,hlen⟩
theorem u8 (l:OpenLaw)(args:List WData):l.row.toRowW.claim.post args (.bool true) args=true:=
 postW_of (r:=l.row.toRowW) (X:=(true==true))
  (show WShape.has [] (.bool true) .bool=true by first|rfl|decide|simp[WShape.has,WShape.arms,WShape.armsAll])
  (show (WTm.eq .res (.lit (.bool true))).value [] { args:=args,res:=some (.bool true),after:=args }=some (.bool (true==true)) from w_eq_bool (w_res rfl) w_lit) rfl
theorem attach_call {l:OpenLaw}{n:Nat}{q:Program}{loose:List Str}{XP:(Str->Option Value)->Heap->Prop}{YP:World->Heap->Prop}{d:DefRec}
  (hn:l.most=some n) (hdf:d.params.defaults=[])
  (call:∀ (w:World)(s₀ s₁:Shared)(mg mb:Str->Option Value)(fa:Addr)(o:Obj)(pm cd doc:Value)(a:Addr)(vs:List Value)(ns:List Int),
   Ground q loose [] XP w s₀ mg mb s₁.heap->YP w s₁.heap->
   s₁.heap.get? fa=some o->o.data=.func (docDef d.name d.params d.body d.scope pm cd doc)->s₁.heap.CodeRec cd d.name->mg d.name=some (.ref fa)->
   s₁.heap.get? a=some { cls:=.type "list",data:=.seq vs.toArray }->IntsAre vs ns->ns.length<=n->s₁.gens=#[]->
   codeAny (model l.prog w) callerA (.call (.ref fa) ⟨[.ref a],[]⟩) (fun r s'=>r=.ok (.ret (.bool true))/\OldK s₁.heap s'.heap/\s'.os=s₁.os/\AllBare s'.gens) s₁):
  WalkO q loose XP YP l.row.toRowW d [] (fun f vs=>PySem.call f vs):=by
 intro w s₀ s₁ mg mb G Y fa o pm cd doc dV kV ho hd hcd hD hmg hg args vals as hpre hlay hrd hwl hlo
 obtain rfl:dV=.none:=Dflts.none hD hdf
 obtain rfl:kV=.none:=Dflts.noKw hD
 obtain⟨a,vs,ns,rfl,rfl,hobj,hints,hlen⟩:=tU hn hpre hwl
 refine enter_call (AE (call w s₀ s₁ mg mb fa o pm cd doc a vs ns G Y ho (fd_plain hd) hcd hmg hobj hints hlen hg) fun r s' hq=>?_)
 obtain⟨rfl,h2,h3,h4⟩:=hq
 exact⟨.inl ⟨.bool true,.bool true,[],rfl,fun _=>rfl,.bool true,u8 l _,fun _=>⟨List.Pairwise.nil,fun _ hm=>(nomatch hm)⟩⟩,h2,h3,h4⟩
section
variable {prog : Program}{w : World}{A : Around}{E : Value -> Shared -> Prop}{s : Shared}{K : Frag}
end
end Att
namespace L2
open PySem PySem.Spec PyProof.Rows
theorem mS:∀ {vs:List Value}{ns:List Int},IntsAre vs ns->Vals (ns.map V.int) vs
 | _,_,.nil=>.nil
 | _,_,.cons n t h=>.cons ⟨t,rfl⟩ (mS h)
def Only (H:Hp):Prop:=∀ b,H b=none\/∃ o xs,H b=some (.frz o (.lst xs))
theorem vL {P:Program}{w:World}{K:PySem.W.Frag}{mg mb:Str->Option Value}{CX:CXT}{k:Nat}{fa a:Addr}{fd:FuncData}{x:Str}{sp:Sp}{s₁:Shared}{vs:List Value}{ns:List Int}
  (KX:K.In s₁.heap) (hns:s₁.heap.Ns mainGlobals mg) (hb:s₁.heap.Ns builtinsNs mb) (hbb:∀ x:Str,x≠"__name__"->mb x=bootBuiltins x) (hlim:s₁.heap.NoLimit) (hg:s₁.gens=#[])
  (ha:s₁.heap.get? a=some { cls:=.type "list",data:=.seq vs.toArray }) (hi:IntsAre vs ns) (hl:ns.length<=sizeLine) (hr:Room k callerA)
  (F:∀ base:Heap,K.In base->base.Ns mainGlobals mg->FnOk P w K mg base CX k fa fd [x] sp) (hbind:∀ (s:Shared)(u:Value),BindsTo s fd ⟨[u],[]⟩ [(x,u)])
  (hsp:∀ H:Hp,Only H->SqL K H a (ns.map V.int)->sp [.ref a] H (fun v _=>v=.bl true) fun _ _ _=>False)
  (hCX:∀ H e s',CX [] H s₁ (fun _ _ _=>False) e s'->False):
  codeAny (model P w) callerA (.call (.ref fa) ⟨[.ref a],[]⟩) (fun r s'=>r=.ok (.ret (.bool true))/\OldK s₁.heap s'.heap/\s'.os=s₁.os/\AllBare s'.gens) s₁:=by
 have rv:=mS hi
 have lenV:=hi.length
 have core:∀ H:Hp,Only H->SqL K H a (ns.map V.int)->HOk P w H s₁.heap->(∀ b,H b≠none->b=a)->(H a≠none->K.lookup a=none)->
   codeAny (model P w) callerA (.call (.ref fa) ⟨[.ref a],[]⟩) (fun r s'=>r=.ok (.ret (.bool true))/\OldK s₁.heap s'.heap/\s'.os=s₁.os/\AllBare s'.gens) s₁:=by
  intro H hO hS hok hA hK
  have base_of:∀ {b:Addr}{o:Obj},s₁.heap.get? b=some o->H b=none->(oZ s₁.heap H).get? b=some o:=fun e n=>vT e n
  have noA:∀ {b:Addr}{o:Obj}{es:Array DictEntry}{ep:Nat},s₁.heap.get? b=some o->o.data=.dict es ep->H b=none:=fun {b o es ep} e d=>by
   cases q:H b with
   | none=>rfl
   | some u=>
    have e':b=a:=hA b (by rw[q];simp)
    subst e'
    rw[ha]at e;cases e
    have d':Data.seq vs.toArray _=Data.dict es ep:=d
    cases d'
  have nsK:∀ {b:Addr}{m:Str->Option Value},s₁.heap.Ns b m->(oZ s₁.heap H).Ns b m:=fun {b m} ⟨o,es,ep,e,d,r⟩=>⟨o,es,ep,base_of e (noA e d),d,r⟩
  have hKb:K.In (oZ s₁.heap H):=fun b o e=>base_of (KX b o e) (by
   cases q:H b with
   | none=>rfl
   | some u=>
    have e':b=a:=hA b (by rw[q];simp)
    subst e'
    rw[hK (by rw[q];simp)]at e;cases e)
  have hM:Mod K mg (oZ s₁.heap H):=⟨hKb,nsK hns,⟨mb,nsK hb,hbb⟩,let ⟨mc,h1,h2⟩:=hlim;⟨mc,nsK h1,h2⟩⟩
  have e0:Env0 P w K mg (oZ s₁.heap H) callerA [] s₁ H:=⟨rfl,hM,fun b o e=>xv e,Nat.le_of_eq (uB _ _),trivial,fun b hb=>absurd (show b∈([]:List Addr) from hb) (by simp),hok,.of_eq hg⟩
  refine AE ((F _ hKb (nsK hns)).run callerA [] s₁ H ⟨[.ref a],[]⟩ [.ref a] [.ref a] _ _ hr e0 (hbind s₁ (.ref a)) (.cons rfl .nil) (hsp H hO hS)) fun r s' h=>?_
  cases r with
  | error e=>exact (hCX H e s' h).elim
  | ok fl=>
   cases fl with
   | next=>exact False.elim h
   | brk=>exact False.elim h
   | cont=>exact False.elim h
   | ret u=>
    obtain⟨v,H',os,bare,un,hok',r',q⟩:=h
    have q':v=.bl true:=q
    subst q'
    obtain rfl:u=Value.bool true:=r'
    refine⟨rfl,OldK.of_keep fun b o e=>?_,os,bare⟩
    cases q:H b with
    | none=>exact un.keep b o e q (by intro z;exact absurd (show b∈([]:List Addr) from z) (by simp)) (by simp)
    | some u=>
     rcases hO b with z|⟨ob,xs,z⟩
     ·rw[q]at z;cases z
     ·have z2:=un.frzs b ob _ z
      obtain⟨e1,_⟩:=hok b _ z
      obtain⟨e2,_⟩:=hok' b _ z2
      rw[e]at e1;cases e1
      exact e2
 cases hk:K.lookup a with
 | some o=>
  have e:=KX a o hk
  rw[ha]at e
  cases e
  refine core (fun _=>none) (fun _=>.inl rfl) (.inr ⟨_,vs.toArray,_,hk,rfl,rfl,rfl,by rw[yx,lenV];exact hl,by simpa using rv⟩) (fun b u z=>by have z':(none:Option HO)=some u:=z;cases z') (fun b z=>absurd rfl z) fun z=>absurd rfl z
 | none=>
  refine core (fun b=>if b=a then some (.frz { cls:=.type "list",data:=.seq vs.toArray } (.lst (ns.map V.int))) else none) (fun b=>?_) (.inl (.inr ⟨{ cls:=.type "list",data:=.seq vs.toArray },if_pos rfl⟩)) (fun b u z=>?_) (fun b z=>?_) fun _=>hk
  ·by_cases hb:b=a
   ·exact .inr ⟨_,_,if_pos hb⟩
   ·exact .inl (if_neg hb)
  ·by_cases hb:b=a
   ·have z':=(if_pos hb).symm.trans z
    cases z'
    subst hb
    exact⟨ha,by rw[y9];exact hl,vs,_,rv,ha⟩
   ·have z':=(if_neg hb).symm.trans z
    cases z'
  ·by_cases hb:b=a
   ·exact hb
   ·exact absurd (if_neg hb) z
theorem walk_of {l:PySem.W.OpenLaw}{n k:Nat}{q:Program}{loose:List Str}{XP:(Str->Option Value)->Heap->Prop}{YP:World->Heap->Prop}{d:DefRec}{K:Params->PySem.W.Frag}{CX:World->CXT}{sp:World->Sp}{x:Str}
  (hn:l.most=some n) (hn2:n<=sizeLine) (hdf:d.params.defaults=[]) (hr:Room k callerA)
  (hY:∀ (w:World)(h:Heap),YP w h->(K w.params).In h)
  (F:∀ (w:World)(mg:Str->Option Value)(fa:Addr)(h:Heap),(K w.params).In h->h.Ns mainGlobals mg->mg d.name=some (.ref fa)->
   ∃ fd:FuncData,(∀ (s:Shared)(u:Value),BindsTo s fd ⟨[u],[]⟩ [(x,u)])/\
    ∀ base:Heap,(K w.params).In base->base.Ns mainGlobals mg->FnOk l.prog w (K w.params) mg base (CX w) k fa fd [x] (sp w))
  (hsp:∀ (w:World)(H:Hp)(a:Addr)(ns:List Int),ns.length<=n->Only H->SqL (K w.params) H a (ns.map V.int)->sp w [.ref a] H (fun v _=>v=.bl true) fun _ _ _=>False)
  (hCX:∀ (w:World)(H:Hp)(s:Shared)(e:Value)(s':Shared),CX w [] H s (fun _ _ _=>False) e s'->False):
  PySem.W.WalkO q loose XP YP l.row.toRowW d [] (fun f vs=>PySem.call f vs):=by
 refine Att.attach_call hn hdf fun w s₀ s₁ mg mb fa o pm cd doc a vs ns G Y ho hd hcd hmg hobj hints hlen hg=>?_
 have KX:=hY w _ Y
 obtain⟨fd,hb,hF⟩:=F w mg fa _ KX G.T.g hmg
 exact vL KX G.T.g G.T.b G.T.builtins G.T.nolimit hg hobj hints (yM hlen hn2) hr hF hb (fun H hO hS=>hsp w H a ns hlen hO hS) fun H e s'=>hCX w H s₁ e s'
def aS (s:Stmt)(j:Nat):Stmt:=match s with
 | .ClassDef _ _ _ body _ _ _ _ _ _ _=>body.getD j (.Pass ⟨0,0,0,0⟩)
 | _=>.Pass ⟨0,0,0,0⟩
def aY (s:Stmt):Arguments:=match s with
 | .FunctionDef _ a _ _ _ _ _ _ _ _=>a
 | _=>{ posonlyargs:=[],args:=[],vararg:=none,kwonlyargs:=[],kw_defaults:=[],kwarg:=none,defaults:=[] }
def aJ (s:Stmt):List Stmt:=match s with
 | .FunctionDef _ _ b _ _ _ _ _ _ _=>b
 | _=>[]
def ag (s:Stmt):Scope:=match s with
 | .FunctionDef _ _ _ _ _ _ sc _ _ _=>sc
 | _=>{ kind:=.function,names:=[],isGenerator:=false,isCoroutine:=false }
abbrev CX0:CXT:=fun _ _ _ _ _ _=>False
abbrev E0:XK:=fun _ _ _=>False
theorem mY {X:Cx}:gD CX0 X E0:=fun _ _ _ _ _ _ _ h=>h.elim
structure Fun (K : PySem.W.Frag) (x qual : Str) (st : Stmt) (f : Addr) (fd : FuncData) : Prop where
  ex : ∃ (oc : Value) (od : Option Addr) (kV doc pm : Value) (an : Option Addr) (cdv ct : Value) (osl : Array (Option Value)),
    fd = PySem.W.fnOf x qual (aY st) (aJ st) (ag st) .none kV doc pm an cdv ct /\ K.lookup f = some ⟨oc, od, .func fd, osl⟩ /\ PySem.W.codeIn K cdv qual = true
  kp : PySem.W.keepIn K (.ref f) = true
section
variable {P : Program}{w : World}{K : PySem.W.Frag}{mg : Str -> Option Value}{base : Heap}
theorem Fun.ok {x qual:Str}{st:Stmt}{f:Addr}{fd:FuncData}{N ps:List Str}{k:Nat}{sp:Sp} (F:Fun K x qual st f fd) (S:am N ps (ag st)) (len:∀ vs H Q E,sp vs H Q E->vs.length=ps.length)
  (hbody:∀ (cdv:Value)(A:Around)(outer:List Env)(s:Shared)(H:Hp)(vs:List V)(Q:VK)(E:XK),Room k (A.deeper (envOfC qual (ag st) s.heap.objs.size f cdv))->sp vs H Q E->
   ∃ t,PSs (kx CX0 P w K mg base N qual (ag st) f cdv A outer s H E).nox (aJ st) t/\t { nx:=fun _ H'=>Q .non H',rt:=Q } (start N vs) H):FnOk P w K mg base CX0 (k+1) f fd ps sp:=by
 obtain⟨oc,od,kV,doc,pm,an,cdv,ct,osl,rfl,lk,hcd⟩:=F.ex
 refine vW lk hcd S len fun A outer s H vs Q E hr hsp=>?_
 obtain⟨t,h,q⟩:=hbody cdv A outer s H vs Q E hr hsp
 exact⟨t,h.nox,q⟩
theorem Fun.binds {x qual:Str}{st:Stmt}{f:Addr}{fd:FuncData}{ps:List Str} (F:Fun K x qual st f fd)
  (h:∀ (kV doc pm:Value)(an:Option Addr)(cdv ct:Value)(us:List Value),us.length=ps.length->bindArgs (PySem.W.fnOf x qual (aY st) (aJ st) (ag st) .none kV doc pm an cdv ct) ⟨us,[]⟩=pure (ps.zip us)):Binds K fd ps []:=by
 obtain⟨oc,od,kV,doc,pm,an,cdv,ct,osl,rfl,lk,hcd⟩:=F.ex
 exact .all (h kV doc pm an cdv ct)
theorem pd {x qual:Str}{st:Stmt}{f:Addr}{oc:Value}{od an:Option Addr}{osl:Array (Option Value)}{kV doc pm cdv ct:Value} (l:K.lookup f=some ⟨oc,od,.func (PySem.W.fnOf x qual (aY st) (aJ st) (ag st) .none kV doc pm an cdv ct),osl⟩)
  (c:PySem.W.codeIn K cdv qual=true) (k:PySem.W.keepIn K (.ref f)=true):Fun K x qual st f (PySem.W.fnOf x qual (aY st) (aJ st) (ag st) .none kV doc pm an cdv ct):=⟨⟨oc,od,kV,doc,pm,an,cdv,ct,osl,rfl,l,c⟩,k⟩
end
theorem bc {A:Around}{k:Nat} (hr:Room k A):A.units+1<cLine:=yH (Nat.add_le_add_left (by decide:1<=64) _) hr.units
theorem dl {n:Nat}(h:n<=1000):n<sizeLine:=yH h (by decide)
section
variable {X : Cx}
theorem pv (i:Nat){x:Str}{pos:Pos} (hN:X.N[i]?=some x:=by rfl) (hv:Vis X.env.scope x:=by first|exact Or.inl rfl|exact Or.inr (Or.inl rfl)|exact Or.inr (Or.inr rfl)) (hd:(x==("__debug__":Str))=false:=by decide)
  (hcd:(x==("__classdict__":Str))=false:=by decide):PE X (.Name x pos) (gZ i):=pe_var hN hv hd hcd
end
theorem bv {A B:Prop}(h:B):if false=true then A else B:=by
 rw[if_neg yv]
 exact h
theorem bA {A B:Prop}(h:A):if true=true then A else B:=by
 rw[if_pos rfl]
 exact h
theorem bB {c A B:Prop}[Decidable c](h1:c->A)(h2:¬ c->B):if c then A else B:=by
 by_cases h:c
 ·rw[if_pos h]
  exact h1 h
 ·rw[if_neg h]
  exact h2 h
theorem vM {c A B:Prop}[Decidable c](hc:c)(h:B):if (!decide c)=true then A else B:=by
 rw[ye hc]
 exact bv h
def Same (H H':Hp):Prop:=∀ b o,H b=some o->H' b=some o
theorem Same.refl (H:Hp):Same H H:=fun _ _ h=>h
theorem Same.trans {H H1 H2:Hp}(a:Same H H1)(b:Same H1 H2):Same H H2:=fun c o h=>b c o (a c o h)
theorem Same.free {H H':Hp}(e:Same H H'){l:Addr}(h:H' l=Option.none):H l=Option.none:=by
 cases q:H l with
 | none=>rfl
 | some o=>
  rw[e l o q]at h
  cases h
theorem Same.seq {K:PySem.W.Frag}{H H':Hp}{a:Addr}{xs:List V} (e:Same H H') (h:SqL K H a xs):SqL K H' a xs:=by
 rcases h with (h|⟨o,h⟩)|h
 ·exact .inl (.inl (e _ _ h))
 ·exact .inl (.inr ⟨o,e _ _ h⟩)
 ·exact .inr h
def Itz (K:PySem.W.Frag)(a b:Addr):It:=
 ⟨fun i H=>∃ xs ys x y,SqL K H a xs/\SqL K H b ys/\xs[i]?=some x/\ys[i]?=some y,
  fun i H v H'=>∃ T,H T=none/\v=.ref T/\∃ x y,(∀ xs,SqL K H a xs->xs[i]?=some x)/\(∀ ys,SqL K H b ys->ys[i]?=some y)/\H'=upd H T (.tup [x,y]),
  fun i H=>∃ xs ys,SqL K H a xs/\SqL K H b ys/\(xs.length<=i\/ys.length<=i)⟩
theorem Inv.turnedN {X:Cx}{pins:List (Addr×Obj)}{σ:St}{H:Hp}{s:Shared}{h':Heap}{t':Nat}{ch:List Addr} (I:Inv X pins σ H s) (hf:∀ b∈ch,kA X pins H b)
  (k:∀ b o,b∉ch->s.heap.get? b=some o->h'.get? b=some o):Inv X pins σ H { s with heap:=h',toks:=t' }:=by
 refine I.step (g':=s.gens) (d':=s.drawn) (ch:=ch) (fun b hb=>⟨(hf b hb).2.2.2.1,(hf b hb).2.1,(hf b hb).2.2.2.2.1,(hf b hb).2.2.2.2.2⟩) (fun b o _ _ hc e _=>k b o hc e) (fun b o _ _ hc e _=>⟨o.slots,k b o hc e⟩) (fun _ _ _ _ n=>n)
  (fun b o hc e=>⟨o,k b o hc e⟩) (fun _ _ e=>e) (fun _ _ _ e=>e) (fun b ps e=>⟨#[],by rw[e];simp⟩) (fun m hm=>?_) (fun b u e=>?_) I.bare
 ·obtain⟨o,es,ep,ho,r⟩:=hm
  exact⟨o,es,ep,k _ o (fun z=>(hf _ z).2.1 rfl) ho,r⟩
 ·refine (I.hok b u e).stay (fun c v hc q=>k c v (fun z=>?_) q) (fun _ q=>q) fun _ _ q=>q
  have n:=(hf c z).1
  rcases hc with w|w
  ·rw[w,e]at n;cases n
  ·rw[w]at n;cases n
theorem Inv.track {X:Cx}{pins:List (Addr×Obj)}{σ:St}{H:Hp}{s:Shared}{T:Addr}{o:HO} (I:Inv X pins σ H s) (hf:kA X pins H T) (hs:X.s₀.heap.objs.size<=T) (new:ObjOk X.prog X.w (upd H T o) s.heap T o):Inv X pins σ (upd H T o) s:=by
 have hn:=hf.1
 have:=I.step (h':=s.heap) (H':=upd H T o) (g':=s.gens) (d':=s.drawn) (t':=s.toks) (ch:=[T]) (fun b hb=>by
   have e:b=T:=by simpa using hb
   subst e
   exact⟨.inr hs,hf.2.1,hf.2.2.2.2.1,hf.2.2.2.2.2⟩) (fun b o _ _ _ e _=>e) (fun b o _ _ _ e _=>⟨o.slots,e⟩) (fun b o hb _ n=>by rw[af (by simpa using hb)];exact n)
  (fun b o _ e=>⟨o,e⟩) (fun b xs e=>by rw[af (ah e hn)];exact e) (fun b ob xs e=>by rw[af (ah e hn)];exact e) (fun b ps e=>⟨#[],by rw[af (ah e hn),e];simp⟩) (fun m hm=>hm)
  (fun b u e=>by
   by_cases hb:b=T
   ·subst hb;rw[a9]at e;cases e;exact new
   ·rw[af hb]at e
    exact (I.hok b u e).stay (fun c v _ q=>q) (fun c q=>by rw[af (ah q hn)];exact q) fun c xs q=>by rw[af (ah q hn)];exact q) I.bare
 exact this
theorem d8 {X:Cx}{pins:List (Addr×Obj)}{σ:St}{H:Hp}{s:Shared}{a b:Addr}{xs:List V} (I:Inv X pins σ H s) (h:SqL X.K H a xs) (hf:kA X pins H b):a≠b:=by
 rintro rfl
 rcases h with (h|⟨o,h⟩)|⟨o,its,n,hk,_⟩
 ·rw[hf.1]at h;cases h
 ·rw[hf.1]at h;cases h
 ·have e:=I.ok.mod.kin a o hk
  rcases hf.2.2.2.1 with z|z
  ·exact I.ok.noex a o e z
  ·exact absurd (yA (yt e) (yM I.ok.bsz z)) (zC _)
def tnZip (z TI TO i1 i2 a b:Addr)(i:Nat)(h:Heap):Prop:=IsZip h z TI TO .none/\IsPair h TI (.ref i1) (.ref i2)/\(∃ u v,IsPair h TO u v)/\h.IsListIter i1 a i/\h.IsListIter i2 b i
structure ZipFp (z TI TO i1 i2 : Addr) : Prop where
  TIz : TI ≠ z
  TOz : TO ≠ z
  i1z : i1 ≠ z
  i2z : i2 ≠ z
  TITO : TI ≠ TO
  TIi1 : TI ≠ i1
  TIi2 : TI ≠ i2
  TOi1 : TO ≠ i1
  TOi2 : TO ≠ i2
  i12 : i1 ≠ i2
theorem uZ {P:Program}{w:World}{K:PySem.W.Frag}{elts:List Expr}{x1:Nat}{tpos:Pos} (a b z TI TO i1 i2:Addr) (D:ZipFp z TI TO i1 i2):
  sO P w K (.Tuple elts x1 tpos) (Itz K a b) [z,TI,TO,i1,i2] z (tnZip z TI TO i1 i2 a b) where
 mem:=by simp
 obj:=fun i h st c hc=>by
  obtain⟨h1,h2,⟨u,v,h3⟩,⟨o4,e4,c4,d4⟩,⟨o5,e5,c5,d5⟩⟩:=st
  simp only[yB,yJ,AT]at hc
  rcases hc with rfl|rfl|rfl|rfl|rfl
  ·exact⟨_,h1,fun v z=>by cases z⟩
  ·exact⟨_,h2,fun v z=>by cases z⟩
  ·exact⟨_,h3,fun v z=>by cases z⟩
  ·exact⟨_,e4,fun v z=>by rw[d4]at z;cases z⟩
  ·exact⟨_,e5,fun v z=>by rw[d5]at z;cases z⟩
 keep:=fun i h h' st k=>by
  obtain⟨h1,h2,⟨u,v,h3⟩,h4,h5⟩:=st
  exact⟨k z (by simp) _ h1,k TI (by simp) _ h2,⟨u,v,k TO (by simp) _ h3⟩,h4.at fun o e=>k i1 (by simp) o e,h5.at fun o e=>k i2 (by simp) o e⟩
 item:=by
  intro X hP hw hK hc i pins s σ H E I hf st hg
  subst hP hw hK
  obtain⟨xs,ys,x,y,hx,hy,ex,ey⟩:=hg
  obtain⟨h1,h2,⟨u,v,h3⟩,h4,h5⟩:=st
  obtain⟨its,rv,p,hz⟩:=I.list hx
  obtain⟨its2,rv2,p2,hz2⟩:=I.list hy
  obtain⟨w1,ew1,r1⟩:=rv.get ex
  obtain⟨w2,ew2,r2⟩:=rv2.get ey
  have ap:ZipApart z TI TO i1 i2 a b:=⟨D.TIz,D.TOz,D.i1z,D.i2z,D.TITO,D.TIi1,D.TIi2,D.TOi1,D.TOi2,D.i12,
   d8 I hx (hf z (by simp)),d8 I hx (hf TO (by simp)),d8 I hx (hf i1 (by simp)),d8 I hx (hf i2 (by simp)),d8 I hy (hf z (by simp)),d8 I hy (hf TO (by simp)),d8 I hy (hf i1 (by simp)),d8 I hy (hf i2 (by simp))⟩
  refine wpAny_pyNext_zip_item ap h1 h2 h3 h4 h5 p.isList p2.isList (x:=w1) (y:=w2) (by simpa using ew1) (by simpa using ew2) fun h' a1 a2 a3 a4 a5 a6 a7=>?_
  refine⟨_,rfl,wpAny_letOwnedTupleGo_zip a1 fun h'' b1 sb=>?_⟩
  have hT:H s.heap.objs.size=none:=I.hok.fresh (yi _)
  have zne:∀ c∈[z,TI,TO,i1,i2],c≠s.heap.objs.size:=fun c hc e=>by
   have:∃ o,s.heap.get? c=some o:=by
    simp only[yB,yJ,AT]at hc
    obtain⟨o4,e4,_⟩:=h4
    obtain⟨o5,e5,_⟩:=h5
    rcases hc with rfl|rfl|rfl|rfl|rfl
    ·exact⟨_,h1⟩
    ·exact⟨_,h2⟩
    ·exact⟨_,h3⟩
    ·exact⟨_,e4⟩
    ·exact⟨_,e5⟩
   obtain⟨o,q⟩:=this
   exact absurd (yt q) (by rw[e];exact zC _)
  have kk:∀ c o,c∉[z,TI,TO,i1,i2]->s.heap.get? c=some o->h''.get? c=some o:=fun c o hc e=>by
   simp only[yB,yJ,AT,not_or]at hc
   exact sb.extBut _ _ hc.1 (a7 c o hc.1 hc.2.2.1 hc.2.2.2.1 hc.2.2.2.2 e)
  have I1:Inv X pins σ H { s with heap:=h'' }:=I.turnedN (t':=s.toks) (ch:=[z,TI,TO,i1,i2]) hf kk
  have I2:Inv X pins σ (upd H s.heap.objs.size (.tup [x,y])) { s with heap:=h'' }:=by
   refine I1.track (I.fpOk (yi _) hT) I.sz ⟨by show 2<=sizeLine;decide,[w1,w2],.cons r1 (.cons r2 .nil),?_⟩
   exact⟨_,sb.extBut _ _ (Ne.symm (zne z (by simp))) a5,rfl,_,rfl⟩
  refine⟨.ref s.heap.objs.size,_,I2,rfl,⟨_,hT,rfl,x,y,fun xs' hx'=>by rw[I.list_inj hx' hx];exact ex,fun ys' hy'=>by rw[I.list_inj hy' hy];exact ey,rfl⟩,?_,fun c hc=>?_⟩
  ·exact⟨b1,sb.extBut _ _ D.TIz (a7 TI _ D.TIz D.TITO D.TIi1 D.TIi2 h2),⟨_,_,sb.extBut _ _ D.TOz a2⟩,a3.extBut sb.extBut D.i1z,a4.extBut sb.extBut D.i2z⟩
  ·rw[af (zne c hc)]
   exact (hf c hc).1
 done:=by
  intro X hP hw hK hc i pins s σ H E I hf st hg
  subst hP hw hK
  obtain⟨xs,ys,hx,hy,hl⟩:=hg
  obtain⟨h1,h2,⟨u,v,h3⟩,h4,h5⟩:=st
  obtain⟨its,rv,p,hz⟩:=I.list hx
  obtain⟨its2,rv2,p2,hz2⟩:=I.list hy
  have l1:=rv.length
  have l2:=rv2.length
  have ap:ZipApart z TI TO i1 i2 a b:=⟨D.TIz,D.TOz,D.i1z,D.i2z,D.TITO,D.TIi1,D.TIi2,D.TOi1,D.TOi2,D.i12,
   d8 I hx (hf z (by simp)),d8 I hx (hf TO (by simp)),d8 I hx (hf i1 (by simp)),d8 I hx (hf i2 (by simp)),d8 I hy (hf z (by simp)),d8 I hy (hf TO (by simp)),d8 I hy (hf i1 (by simp)),d8 I hy (hf i2 (by simp))⟩
  refine wpAny_pyNext_zip_end (I.ok.hd hc) ap h1 h2 h3 h4 h5 p.isList p2.isList ?_ fun h' kk=>⟨rfl,I.turnedN (t':=s.toks) (ch:=[z,TI,TO,i1,i2]) hf fun c o hc e=>?_⟩
  ·rcases hl with q|q
   ·exact .inl (by simp;omega)
   ·exact .inr (by simp;omega)
  ·simp only[yB,yJ,AT,not_or]at hc
   exact kk c o hc.1 hc.2.2.1 hc.2.2.2.1 hc.2.2.2.2 e
 self:=fun _ _ _ _ _ st h=>wpAny_pyIter_zip st.1 h
theorem wq:bootBuiltins "zip"=some (.type "zip"):=by decide +kernel
def iZip (K:PySem.W.Frag)(ta:TA):TI:=fun σ H R=>ta σ H fun vs H1=>∃ a b,vs=[.ref a,.ref b]/\(∃ xs,SqL K H1 a xs)/\(∃ ys,SqL K H1 b ys)/\R (Itz K a b) H1
theorem pi_zip {X:Cx}{elts:List Expr}{x1:Nat}{tpos:Pos}{e1 e2:Expr}{ta:TA}{p pos:Pos} (hg:Gl X "zip") (hm:X.mg "zip"=none) (ha:PA X [e1,e2] ta)
  (hs:starEach [e1,e2] X.env=[(false,eval e1 X.env),(false,eval e2 X.env)]:=by rfl) (hs2:starEach [e2] X.env=[(false,eval e2 X.env)]:=by rfl):
  PI X (.Tuple elts x1 tpos) (.Call (.Name "zip" p) [e1,e2] [] pos) (iZip X.K ta):=by
 intro pins s σ H R I h
 refine Call_ (iG I hg hm wq (Ay (thn (ha pos pins s σ H _ I h) fun us s1 ⟨vs,H1,I1,r1,q1⟩=>?_) (by rw[hs,hs2]) (by rw[hs2];rfl)))
 obtain⟨a,b,e,⟨xs,hx⟩,⟨ys,hy⟩,q⟩:=q1
 subst e
 cases r1 with
 | cons r rr=>
  cases rr with
  | cons r' rr=>
   cases rr
   cases r
   cases r'
   obtain⟨its,rv,p1,hz⟩:=I1.list hx
   obtain⟨its2,rv2,p2,hz2⟩:=I1.list hy
   refine call_zip_2 p1.isList p2.isList fun h' a1 a2 a3 a4 a5 a6 a7=>?_
   refine wpAny_pyIter_zip a1 ?_
   have I2:Inv X pins σ H1 { s1 with heap:=h' }:=I1.kept (t':=s1.toks) a7
   refine⟨_,[s1.heap.objs.size+4,s1.heap.objs.size+2,s1.heap.objs.size+3,s1.heap.objs.size,s1.heap.objs.size+1],_,_,H1,rfl,I2,uZ a b _ _ _ _ _ ⟨?_,?_,?_,?_,?_,?_,?_,?_,?_,?_⟩,⟨a1,a2,⟨_,_,a3⟩,a4,a5⟩,fun c hc=>?_,q⟩
   all_goals try (intro z;have z':@Eq Nat _ _:=z;omega)
   have le:@LE.le Nat _ s1.heap.objs.size c:=by
    simp only[yB,yJ,AT]at hc
    rcases hc with rfl|rfl|rfl|rfl|rfl <;> omega
   have:=I1.fpOk (H':=H1) (b:=c) le (I1.hok.fresh le)
   exact this
theorem xJ {K:PySem.W.Frag}{a b:Addr}{xs ys:List V}{g:TG}{tb:TS}{D:jk}{σ:St}{H:Hp} (Pv:Nat->St->Hp->Prop) (h0:Pv 0 σ H) (hl:∀ i σ H,i<=min xs.length ys.length->Pv i σ H->SqL K H a xs/\SqL K H b ys)
  (hs:∀ i x y T σ H,xs[i]?=some x->ys[i]?=some y->Pv i σ H->H T=none->g (.ref T) σ (upd H T (.tup [x,y])) fun σ2 H2=>tb { D with nx:=Pv (i+1),ct:=Pv (i+1),bk:=D.nx } σ2 H2) (hd:∀ σ H,Pv (min xs.length ys.length) σ H->D.nx σ H):
  ∃ W:Nat->Nat->St->Hp->Prop,(∃ m,W 0 m σ H)/\∀ i m σ H,W i m σ H->
   ((Itz K a b).stop i H/\D.nx σ H)\/((Itz K a b).go i H/\∃ N:St->Hp->Prop,(∀ σ' H',N σ' H'->∃ m',m'<m/\W (i+1) m' σ' H')/\∀ x H',(Itz K a b).yld i H x H'->g x σ H' fun σ2 H2=>tb { D with nx:=N,ct:=N,bk:=D.nx } σ2 H2):=by
 refine⟨fun i m σ H=>m=min xs.length ys.length - i/\i<=min xs.length ys.length/\Pv i σ H,⟨_,rfl,yP _,h0⟩,?_⟩
 rintro i m σ H ⟨rfl,hi,p⟩
 obtain⟨q1,q2⟩:=hl i σ H hi p
 by_cases hlt:i<min xs.length ys.length
 ·have l1:i<xs.length:=by omega
  have l2:i<ys.length:=by omega
  refine .inr ⟨⟨xs,ys,xs[i],ys[i],q1,q2,by simp[l1],by simp[l2]⟩,Pv (i+1),fun σ' H' p'=>⟨_,?_,rfl,hlt,p'⟩,fun x H' yl=>?_⟩
  ·omega
  ·obtain⟨T,hT,rfl,x,y,ex,ey,rfl⟩:=yl
   exact hs i x y T σ H (ex xs q1) (ey ys q2) p hT
 ·have e:i=min xs.length ys.length:=by omega
  subst e
  exact .inl ⟨⟨xs,ys,q1,q2,by omega⟩,hd σ H p⟩
abbrev noX:Value->Shared->Prop:=fun _ _=>False
section
variable {prog : Program}{w : World}{A : Around}{R : Result -> Shared -> Prop}{s : Shared}
theorem pq {elt target iter:Expr}{ifs:List Expr}{scope:Scope}{pos:Pos}{it acc:Value}{env:Env} (I:Nat->Shared->Prop)
  (turn:∀ n s,I n s->wpAny (model prog w) A (pyNext it) (fun r s₁=>match r with
   | none=>R (.ok .next) s₁
   | some v=>wpAny (model prog w) A (letOwnedTupleGo target it v) (fun _ s₂=>wpAny (model prog w) A (assign target env v) (fun _ s₃=>
     wpAny (model prog w) A (forIn ifs true fun c r=>if r=true then do let ok <- isTrue c env (eval c env);pure (ForInStep.yield ok) else pure (ForInStep.yield r)) (fun ok s₄=>
      if ok=true then wpAny (model prog w) A (eval elt env) (fun x s₅=>wpAny (model prog w) A (call (.builtin "list.append") [acc,x]) (fun _ s₆=>∃ m,m<n/\I m s₆) noX s₅) noX s₄
      else ∃ m,m<n/\I m s₄) noX s₃) noX s₂) noX s₁) noX s)
  (n:Nat) (h:I n s):codeAny (model prog w) A (.compLoop (.ListComp elt [⟨target,iter,ifs,0⟩] scope pos) 0 it acc env) R s:=by
 refine codeAny_loop rfl I (fun n s hI=>?_) n h
 show wpAny _ A ((compTurn (.ListComp elt [⟨target,iter,ifs,0⟩] scope pos) 0 it acc env).onRaise (fun x=>do noteFrame x env;theTreesLotGoes x)) _ _ s
 refine wpAny_noted ?_
 rw[compTurn_list]
 refine yc (Bc (yc (zj (turn n s hI) (fun r s₁ h₁=>?_) fun _ _ h'=>h'.elim)))
 cases r with
 | none=>exact yp h₁
 | some v=>
  refine yc (zj h₁ (fun _ s₂ h₂=>?_) fun _ _ h'=>h'.elim)
  refine yc (zj h₂ (fun _ s₃ h₃=>yc (zj h₃ (fun ok s₄ h₄=>?_) fun _ _ h'=>h'.elim)) fun _ _ h'=>h'.elim)
  cases ok with
  | false=>exact yp ⟨rfl,h₄⟩
  | true=>
   exact yc (yc (zj h₄ (fun x s₅ h₅=>yc (zj h₅ (fun _ s₆ h₆=>yp (yp ⟨rfl,h₆⟩)) fun _ _ h'=>h'.elim)) fun _ _ h'=>h'.elim))
end
theorem qz {M:Model}{A:Around}{E:Value->Shared->Prop}{s:Shared}{scope:Scope}{globals:Addr}{cl:List (Str×Addr)}{qual:Str}{env:Env}{Q:Env->Shared->Prop}
  (h:Q (newEnv scope s.heap.objs.size globals (cellsFrom (s.heap.objs.size+1) scope.names cl) qual none .none (some env) builtinsNs) { s with heap:=pushCells (s.heap.push { cls:=.type "dict",data:=.dict #[] }) scope.names }):
  wpAny M A (newFunctionEnv scope globals cl [] qual none .none (some env)) Q E s:=by
 simp only[newFunctionEnv,Option.isSome_some,AV]
 refine yc (wpAny_alloc ?_)
 refine yc (wpAny_layCells _ (fun name kind cells=>by cases hkc:kind==NameKind.cell <;> simp[hkc]) _ _ _ _ ?_)
 rw[show ({ s with heap:=s.heap.push { cls:=.type "dict",data:=.dict #[] } }:Shared).heap.objs.size=s.heap.objs.size+1 from AZ ..]
 refine yc ?_
 rw[List.forIn_nil]
 exact yp (yp h)
theorem iM {env:Env}(f:Str×NameKind->List (Str×Addr)->Sem (ForInStep (List (Str×Addr))))
  (hf:∀ name kind cs,f (name,kind) cs=if kind==.free then (do let a <- cellOf env name;pure (.yield ((name,a)::cs))) else pure (.yield cs)):
  ∀ (names:List (Str×NameKind))(cs:List (Str×Addr)),(∀ x∈names,x.2=.free->∃ c,env.cells.lookup x.1=some c)->
   ∃ cl,forIn names cs f=pure cl/\(∀ p∈cl,p∈cs\/env.cells.lookup p.1=some p.2)/\(∀ p∈cs,p∈cl)/\∀ x∈names,x.2=.free->∃ c,(x.1,c)∈cl
 | [],cs,_=>⟨cs,by rw[List.forIn_nil],fun _ h=>.inl h,fun _ h=>h,fun _ h=>nomatch h⟩
 | (name,kind)::r,cs,hc=>by
  have hr:∀ x∈r,x.2=.free->∃ c,env.cells.lookup x.1=some c:=fun x hx=>hc x (yX _ hx)
  by_cases hk:kind=.free
  ·subst hk
   obtain⟨c,e⟩:=hc (name,.free) zr rfl
   obtain⟨cl,h1,h2,h3,h4⟩:=iM f hf r ((name,c)::cs) hr
   refine⟨cl,?_,fun p hp=>?_,fun p hp=>h3 p (yX _ hp),fun x hx hf'=>?_⟩
   ·rw[List.forIn_cons,hf]
    show ((if (NameKind.free==NameKind.free)=true then _ else _) >>= _)=_
    rw[if_pos (by decide)]
    unfold cellOf
    rw[e]
    exact h1
   ·rcases h2 p hp with z|z
    ·rcases yB.mp z with z|z
     ·subst z;exact .inr e
     ·exact .inl z
    ·exact .inr z
   ·rcases yB.mp hx with z|z
    ·subst z;exact⟨c,h3 _ zr⟩
    ·exact h4 x z hf'
  ·obtain⟨cl,h1,h2,h3,h4⟩:=iM f hf r cs hr
   refine⟨cl,?_,h2,h3,fun x hx hf'=>?_⟩
   ·rw[List.forIn_cons,hf,if_neg (by simpa using hk)]
    exact h1
   ·rcases yB.mp hx with z|z
    ·subst z;exact absurd hf' hk
    ·exact h4 x z hf'
theorem sJ {env:Env}{scope:Scope} (hc:∀ x∈scope.names,x.2=.free->∃ c,env.cells.lookup x.1=some c):
  ∃ cl,closureFor scope env=pure cl/\(∀ p∈cl,env.cells.lookup p.1=some p.2)/\∀ x∈scope.names,x.2=.free->∃ c,(x.1,c)∈cl:=by
 obtain⟨cl,h1,h2,_,h4⟩:=iM (env:=env) (fun x cs=>if x.2==.free then (do let a <- cellOf env x.1;pure (.yield ((x.1,a)::cs))) else pure (.yield cs)) (fun _ _ _=>rfl) scope.names [] hc
 refine⟨cl,?_,fun p hp=>(h2 p hp).elim (fun z=>nomatch z) id,h4⟩
 unfold closureFor
 rw[<- h1]
 show (forIn scope.names [] _ >>= fun cs=>pure cs)=_
 have e:∀ (m:Sem (List (Str×Addr))),(m >>= fun cs=>pure cs)=m:=fun m=>bind_pure m
 first
  | exact e _
  | (rw[e];congr 1;funext x cs;obtain⟨n,k⟩:=x;cases hk:k==NameKind.free <;> simp[hk])
theorem eI {α:Type}:∀ {l:List (Str×α)}{x:Str}{c:α},(x,c)∈l->∃ d,l.lookup x=some d
 | (k,v)::r,x,c,h=>by
  rw[B8]
  cases hb:x==k with
  | true=>exact⟨v,rfl⟩
  | false=>
   rcases yB.mp h with e|h
   ·cases e;simp at hb
   ·exact eI h
theorem eM:∀ (names:List (Str×NameKind))(n:Nat)(acc:List (Str×Addr))(p:Str×Addr),p∈cellsFrom n names acc->p∈acc\/(n<=p.2/\(p.1,NameKind.cell)∈names)
 | [],_,_,_,h=>.inl h
 | (y,k)::r,n,acc,p,h=>by
  unfold cellsFrom at h
  split at h
  ·rename_i hk
   have ek:k=.cell:=by simpa using hk
   rcases eM r (n+1) _ p h with z|⟨z1,z2⟩
   ·rcases yB.mp z with z|z
    ·subst z;subst ek;exact .inr ⟨yi _,zr⟩
    ·exact .inl z
   ·exact .inr ⟨by omega,yX _ z2⟩
  ·rcases eM r n acc p h with z|⟨z1,z2⟩
   ·exact .inl z
   ·exact .inr ⟨z1,yX _ z2⟩
theorem eN:∀ (names:List (Str×NameKind))(n:Nat)(acc:List (Str×Addr)),(∀ p∈acc,p.2<n)->(∀ x y c,(x,c)∈acc->(y,c)∈acc->x=y)->
  ∀ x y c,(x,c)∈cellsFrom n names acc->(y,c)∈cellsFrom n names acc->x=y
 | [],_,_,_,h=>h
 | (z,k)::r,n,acc,hlt,h=>by
  unfold cellsFrom
  split
  ·refine eN r (n+1) _ (fun p hp=>?_) (fun x y c h1 h2=>?_)
   ·rcases yB.mp hp with e|hp
    ·subst e;exact Nat.lt_succ_self _
    ·exact Br (hlt p hp)
   ·rcases yB.mp h1 with e1|h1 <;> rcases yB.mp h2 with e2|h2
    ·cases e1;cases e2;rfl
    ·cases e1;exact absurd (hlt _ h2) (zC _)
    ·cases e2;exact absurd (hlt _ h1) (zC _)
    ·exact h x y c h1 h2
  ·exact eN r n acc hlt h
theorem eL:∀ (names:List (Str×NameKind))(n:Nat)(acc:List (Str×Addr)){x:Str},(∀ y∈names,y.2=.cell->y.1≠x)->(cellsFrom n names acc).lookup x=acc.lookup x
 | [],_,_,_,_=>rfl
 | (z,k)::r,n,acc,x,h=>by
  unfold cellsFrom
  have hr:∀ y∈r,y.2=.cell->y.1≠x:=fun y hy=>h y (yX _ hy)
  split
  ·rename_i hk
   rw[eL r (n+1) _ hr,B8]
   have:(x==z)=false:=by
    have:=h (z,k) zr (by simpa using hk)
    simpa using Ne.symm this
   rw[this]
  ·exact eL r n acc hr
theorem d0:∀ (names:List (Str×NameKind))(h:Heap)(acc:List (Str×Addr)),(∀ p∈acc,∃ v,h.IsCell p.2 v)->∀ p∈cellsFrom h.objs.size names acc,∃ v,(pushCells h names).IsCell p.2 v
 | [],_,_,hc=>hc
 | (z,k)::r,h,acc,hc=>by
  unfold cellsFrom pushCells
  split
  ·have:=d0 r (h.push { cls:=.type "cell",data:=.cell none }) ((z,h.objs.size)::acc) (fun p hp=>by
    rcases yB.mp hp with e|hp
    ·subst e;exact⟨none,_,yC _ rfl,rfl⟩
    ·obtain⟨v,q⟩:=hc p hp
     exact⟨v,q.keeps fun b o e=>yg _ e⟩)
   rwa [AZ]at this
  ·exact d0 r h acc hc
def aV (X:Cx)(scope:Scope)(N':List Str)(cells:List (Str×Addr))(C:Addr)(s:Shared)(H:Hp)(fp:List Addr):Cx where
 prog:=X.prog
 w:=X.w
 K:=X.K
 mg:=X.mg
 base:=X.base
 A:=X.A
 N:=N'
 s₀:=s
 H₀:=H
 env:=compEnvC scope cells C X.env
 outer:=X.stack
 stack:=X.stack
 ex:=fp
 fn:=fun x=>decide (scope.names.lookup x=some .cell)
 calm:=X.calm
 pn:=[]
 xe:=fun _ _=>False
def qI (scope:Scope)(x:Str):Bool:=scope.names.any fun y=>y.1==x&&y.2==.free
def qJ (scope:Scope)(x:Str):Bool:=scope.names.any fun y=>y.1==x&&y.2==.cell
def nR (sc:Scope)(N:List Str)(scope:Scope)(nT:Nat)(js:List Nat)(N':List Str):Bool:=
 scope.kind==.function&&decide (N'.length=nT+js.length) &&
 scope.names.all (fun x=>(x.2 != .local || scope.names.lookup x.1==some .local)&&(x.2 != .free || ((sc.names.lookup x.1==some .cell || sc.names.lookup x.1==some .free)&&scope.names.lookup x.1==some .free))) &&
 (js.zipIdx.all fun (j,i)=>match N'[nT+i]?,N[j]? with
  | some x,some y=>x==y&&qI scope x&&!(qJ scope x)
  | _,_=>false)
structure cq (X : Cx) (scope : Scope) (nT : Nat) (js : List Nat) (N' : List Str) : Prop where
  kind : scope.kind = .function
  len : N'.length = nT + js.length
  loc : ∀ x ∈ scope.names, x.2 = .local -> scope.names.lookup x.1 = some .local
  free : ∀ x ∈ scope.names, x.2 = .free -> (X.env.kindOf x.1 = some .cell \/ X.env.kindOf x.1 = some .free)
  frl : ∀ x ∈ scope.names, x.2 = .free -> scope.names.lookup x.1 = some .free
  cap : ∀ (i j : Nat), js[i]? = some j -> ∃ x, N'[nT + i]? = some x /\ X.N[j]? = some x /\ (x, NameKind.free) ∈ scope.names /\ ∀ y ∈ scope.names, y.2 = .cell -> y.1 ≠ x
theorem ak {X:Cx}{sc:Scope}{N:List Str}{scope:Scope}{nT:Nat}{js:List Nat}{N':List Str} (hsc:X.env.scope=sc) (hN:X.N=N) (h:nR sc N scope nT js N'=true):cq X scope nT js N':=by
 unfold nR at h
 simp only[z7,zU,zJ,zy]at h
 obtain⟨⟨⟨h1,h2⟩,h3⟩,h4⟩:=h
 refine⟨h1,h2,fun x hx hl=>?_,fun x hx hf=>?_,fun x hx hf=>?_,fun i j e=>?_⟩
 ·have:=(h3 x hx).1
  simp only[hl,bne_self_eq_false,By,zy]at this
  exact this
 ·have:=(h3 x hx).2
  simp only[hf,bne_self_eq_false,By,Bool.or_eq_true,z7,zy]at this
  show X.env.scope.names.lookup x.1=_\/X.env.scope.names.lookup x.1=_
  rw[hsc]
  exact this.1
 ·have:=(h3 x hx).2
  simp only[hf,bne_self_eq_false,By,Bool.or_eq_true,z7,zy]at this
  exact this.2
 ·have m:(j,i)∈js.zipIdx:=by
   rw[List.mem_zipIdx_iff_getElem?]
   exact e
  have q:=h4 (j,i) m
  rw[hN]
  revert q
  dsimp only
  cases e1:N'[nT+i]? with
  | none=>intro q;cases q
  | some x=>
   cases e2:N[j]? with
   | none=>intro q;cases q
   | some y=>
    intro q
    simp only[z7,zy,Bool.not_eq_true']at q
    obtain⟨⟨q1,q2⟩,q3⟩:=q
    subst q1
    refine⟨x,rfl,rfl,?_,fun y hy hc hxy=>?_⟩
    ·unfold qI at q2
     obtain⟨z,hz,hz2⟩:=List.any_eq_true.mp q2
     simp only[z7,zy]at hz2
     obtain⟨a,b⟩:=z
     obtain⟨rfl,rfl⟩:=hz2
     exact hz
    ·have:qJ scope x=true:=List.any_eq_true.mpr ⟨y,hy,by simp[hxy,hc]⟩
     rw[q3]at this;cases this
def tH (nT:Nat)(js:List Nat)(σ:St):St:=List.replicate nT none++js.map fun j=>(σ[j]?).join
def pC (X:Cx)(ifs:List Expr)(t:TT):Prop:=
 ∀ (pins:List (Addr×Obj))(s:Shared)(σ:St)(H:Hp)(Q:Bool->Hp->Prop),Inv X pins σ H s->t σ H Q->
  wpAny (model X.prog X.w) X.A (forIn ifs true fun c r=>if r=true then do let ok <- isTrue c X.env (eval c X.env);pure (ForInStep.yield ok) else pure (ForInStep.yield r)) (TP X pins σ Q) X.xe s
def fU:TT:=fun _ H Q=>Q true H
theorem aM {X:Cx}:pC X [] fU:=fun pins s σ H Q I h=>by rw[List.forIn_nil];exact yp ⟨H,I,h⟩
theorem dQ {X:Cx}{c:Expr}{t:TT} (hc:PT X c t):pC X [c] t:=fun pins s σ H Q I h=>by
 rw[List.forIn_cons]
 rw[if_pos rfl]
 refine yc (yc (thn (hc pins s σ H Q I h) fun b s1 q=>yp ?_))
 show wpAny _ _ (forIn [] b _) _ _ _
 rw[List.forIn_nil]
 exact yp q
def bi (nT:Nat)(js:List Nat)(g:TG)(tt:TT)(te:TE)(σ:St)(F:Addr->Hp->Prop):It->Hp->Prop:=fun J H1=>∀ l,H1 l=none->
 ∃ W:Nat->Nat->St->Hp->Prop,(∃ m,W 0 m (tH nT js σ) (upd H1 l (.lst [])))/\∀ i m σ' H',W i m σ' H'->
  (J.stop i H'/\F l H')\/(J.go i H'/\∀ x H2,J.yld i H' x H2->g x σ' H2 fun σ3 H3=>∃ (N:Hp->Prop)(NV:V->Hp->Prop),
   (∀ H4,N H4->∃ m',m'<m/\W (i+1) m' σ3 H4)/\(∀ v H5,NV v H5->∃ ys,H5 l=some (.lst ys)/\ys.length<sizeLine/\∃ m',m'<m/\W (i+1) m' σ3 (upd H5 l (.lst (ys++[v]))))/\
   tt σ3 H3 fun b H4=>if b=true then te σ3 H4 NV else N H4)
section
variable {X : Cx}{pins : List (Addr×Obj)}{σ : St}{H : Hp}{s : Shared}{elt tg iter : Expr}{ifs : List Expr}{scope : Scope}{pos : Pos}{wi : TI}{nT : Nat}{js : List Nat}{N' : List Str}{g : TG}{tt : TT}{te : TE}
def OwnC (X:Cx)(pins:List (Addr×Obj))(H:Hp)(C:Addr)(s:Shared):Prop:=kA X pins H C/\X.s₀.heap.objs.size<=C/\∃ m,s.heap.Ns C m
theorem qV {use:Option (Value->Sem Unit)}{Q:Value->Shared->Prop}{F:Addr->Hp->Prop}{cpos:Pos}{Cc:Cx->Prop} (hc:∀ cells C s H fp,Cc (aV X scope N' cells C s H fp)) (S:cq X scope nT js N') (hi:PI0 Cc X tg iter wi)
  (hg:∀ cells C s H fp,PG (aV X scope N' cells C s H fp) tg g) (ht:∀ cells C s H fp,pC (aV X scope N' cells C s H fp) ifs tt) (he:∀ cells C s H fp,PE (aV X scope N' cells C s H fp) elt te)
  (I:Inv X pins σ H s) (h:wi σ H (bi nT js g tt te σ F))
  (fin:∀ (l C:Addr)(s':Shared)(H':Hp),Inv X pins σ H' s'->OwnC X pins H' C s'->F l H'->compPost (model X.prog X.w) X.A X.xe use Q (.ref l) C (.ok .next) s')
  (hs:∀ x,foldedSetIterable iter X.env x=pure x:=by intro _;rfl):
  wpAny (model X.prog X.w) X.A (comprehension (.ListComp elt [⟨tg,iter,ifs,0⟩] scope pos) scope X.env cpos (newList []) false (eval iter X.env) use) Q X.xe s:=by
 have hasC:∀ x∈scope.names,x.2=.free->∃ c,X.env.cells.lookup x.1=some c:=fun x hx hf=>I.ok.has x.1 (S.free x hx hf)
 obtain⟨cl,hcl,hclm,hclf⟩:=sJ (env:=X.env) hasC
 refine wpAny_comprehension_free rfl hs hcl S.kind S.loc (thn (hi pins s σ H _ I h) fun v s1 h1=>thn h1 fun itv s2 h2=>?_)
 obtain⟨it,fp,tn,J,H2,e,I2,T,st2,f2,rd⟩:=h2
 subst e
 have I3:Inv X pins σ (upd H2 s2.heap.objs.size (.lst [])) { s2 with heap:=s2.heap.push { cls:=.type "list",data:=.seq ([]:List Value).toArray } }:=I2.lnew (t':=s2.toks) (its:=[]) .nil (yP _)
 refine zZ ?_ (by show 0<=sizeLine;exact yP _)
 obtain⟨W,⟨m0,w0⟩,turn⟩:=rd s2.heap.objs.size (I2.hok.fresh (yi _))
 have hl2:H2 s2.heap.objs.size=none:=I2.hok.fresh (yi _)
 generalize hl:s2.heap.objs.size=l at I3 w0 turn hl2 ⊢
 generalize hs3:({ s2 with heap:=s2.heap.push { cls:=.type "list",data:=.seq ([]:List Value).toArray } }:Shared)=s3 at I3 ⊢
 have z3:s3.heap.objs.size=l+1:=by rw[<- hs3,<- hl];exact AZ ..
 have k23:∀ b o,s2.heap.get? b=some o->s3.heap.get? b=some o:=fun b o e=>by rw[<- hs3];exact yg _ e
 refine qz ?_
 generalize hC:s3.heap.objs.size=C
 generalize hcells:cellsFrom (C+1) scope.names cl=cells
 have hz4:(s3.heap.push { cls:=.type "dict",data:=.dict #[] }).objs.size=C+1:=by rw[AZ,hC]
 have k34:∀ b o,s3.heap.get? b=some o->(pushCells (s3.heap.push { cls:=.type "dict",data:=.dict #[] }) scope.names).get? b=some o:=fun b o e=>pushCells_keeps _ _ b o (yg _ e)
 have nsC:(pushCells (s3.heap.push { cls:=.type "dict",data:=.dict #[] }) scope.names).Ns C (fun _=>none):=by
  have:=(Heap.Ns.new s3.heap (.type "dict")).keeps (pushCells_keeps scope.names _)
  rwa [hC]at this
 generalize hh4:pushCells (s3.heap.push { cls:=.type "dict",data:=.dict #[] }) scope.names=h4 at k34 nsC
 have memC:∀ x c,cells.lookup x=some c->(X.env.cells.lookup x=some c/\@LT.lt Nat _ c C)\/(@LE.le Nat _ (C+1) c/\(x,NameKind.cell)∈scope.names):=fun x c e=>by
  have m:=mem_of_lookup e
  rw[<- hcells]at m
  rcases eM _ _ _ _ m with z|z
  ·have q:=hclm _ z
   obtain⟨v,iz⟩:=I3.cell x c q
   exact .inl ⟨q,by have:=iz.lt;rw[hC]at this;exact this⟩
  ·exact .inr z
 have cellsOk:∀ x c,cells.lookup x=some c->∃ v,h4.IsCell c v:=fun x c e=>by
  have m:=mem_of_lookup e
  have:=d0 scope.names (s3.heap.push { cls:=.type "dict",data:=.dict #[] }) cl (fun p hp=>by
   obtain⟨v,iz⟩:=I3.cell p.1 p.2 (hclm p hp)
   exact⟨v,iz.keeps fun b o e=>yg _ e⟩)
  rw[hz4,hcells,hh4]at this
  exact this _ m
 show codeAny (model X.prog X.w) X.A (.compStart _ 0 (.ref it) (.ref l) (compEnvC scope cells C X.env)) (compPost (model X.prog X.w) X.A X.xe use Q (.ref l) C) { s3 with heap:=h4 }
 have fpLt:∀ b∈fp,@LT.lt Nat _ b l:=fun b hb=>by
  obtain⟨o,e,_⟩:=T.obj _ _ st2 b hb
  rw[<- hl];exact yt e
 have fpStk:∀ b∈fp,b∉frs X.stack:=fun b hb z=>(yB.mp (I2.stkSub b z)).elim (f2 b hb).2.1 (f2 b hb).2.2.1
 have okC:(aV X scope N' cells C s3 (upd H2 l (.lst [])) fp).Ok:=by
  refine⟨I3.ok.mod,S.kind,I3.ok.glob,I3.ok.blt,Nat.le_of_eq hC,fun x y c e1 e2=>?_,fun x hx=>?_,fun x c hf e=>?_,I3.ok.hd,I3.ok.frames,.inl rfl,fun b hb=>⟨?_,fun x c e z=>?_⟩,I3.bs,yM I3.ok.bsz I3.sz,fun b o e hb=>?_,fpStk,I3.stack,I3.stkFree⟩
  ·have e1':=mem_of_lookup (show cells.lookup x=some c from e1)
   have e2':=mem_of_lookup (show cells.lookup y=some c from e2)
   rw[<- hcells]at e1' e2'
   refine eN scope.names (C+1) cl (fun p hp=>?_) (fun x y c h1 h2=>I3.ok.inj x y c (hclm _ h1) (hclm _ h2)) x y c e1' e2'
   obtain⟨v,iz⟩:=I3.cell p.1 p.2 (hclm p hp)
   have h1:@LT.lt Nat _ p.2 s3.heap.objs.size:=iz.lt
   rw[hC]at h1
   show @LT.lt Nat _ p.2 (C+1)
   omega
  ·have hx':(relabel scope X.env).names.lookup x=some .cell\/(relabel scope X.env).names.lookup x=some .free:=hx
   have:∃ k,(x,k)∈scope.names/\(k=.cell\/k=.free):=by
    have m:∃ k,(x,k)∈(relabel scope X.env).names/\(k=.cell\/k=.free):=by
     rcases hx' with z|z
     ·exact⟨_,mem_of_lookup z,.inl rfl⟩
     ·exact⟨_,mem_of_lookup z,.inr rfl⟩
    obtain⟨k,m,hk⟩:=m
    unfold relabel at m
    obtain⟨⟨n,k'⟩,m',e⟩:=yw.mp m
    dsimp only at e
    split at e
    ·rename_i hcond
     cases e
     simp only[z7,zy]at hcond
     exact⟨k',m',.inr hcond.1.1⟩
    ·cases e;exact⟨k,m',hk⟩
   obtain⟨k,m,hk⟩:=this
   show ∃ c,cells.lookup x=some c
   rw[<- hcells]
   have key:∃ c,(x,c)∈cellsFrom (C+1) scope.names cl:=by
    rcases hk with rfl|rfl
    ·have gen:∀ (names:List (Str×NameKind))(n:Nat)(acc:List (Str×Addr)),((x,NameKind.cell)∈names\/∃ c,(x,c)∈acc)->∃ c,(x,c)∈cellsFrom n names acc:=by
      intro names
      induction names with
      | nil=>intro n acc h;exact h.elim (fun z=>nomatch z) id
      | cons y r ih=>
       intro n acc h
       obtain⟨y,k⟩:=y
       unfold cellsFrom
       split
       ·rename_i hk
        refine ih _ _ ?_
        rcases h with h|⟨c,h⟩
        ·rcases yB.mp h with e|h
         ·cases e;exact .inr ⟨n,zr⟩
         ·exact .inl h
        ·exact .inr ⟨c,yX _ h⟩
       ·rename_i hk
        refine ih _ _ ?_
        rcases h with h|h
        ·rcases yB.mp h with e|h
         ·cases e;exact absurd (show (NameKind.cell==NameKind.cell)=true by decide) hk
         ·exact .inl h
        ·exact .inr h
     exact gen _ _ _ (.inl m)
    ·obtain⟨c,hc'⟩:=hclf _ m rfl
     have gen:∀ (names:List (Str×NameKind))(n:Nat)(acc:List (Str×Addr)),(x,c)∈acc->(x,c)∈cellsFrom n names acc:=by
      intro names
      induction names with
      | nil=>intro n acc h;exact h
      | cons y r ih=>
       intro n acc h
       obtain⟨y,k⟩:=y
       unfold cellsFrom
       split
       ·exact ih _ _ (yX _ h)
       ·exact ih _ _ h
     exact⟨c,gen _ _ _ hc'⟩
   obtain⟨c,m⟩:=key
   exact eI m
  ·have hf':decide (scope.names.lookup x=some NameKind.cell)=true:=hf
   have hf'':=yr hf'
   rcases memC x c e with⟨_,_⟩|⟨z,_⟩
   ·
    have gen:∀ (names:List (Str×NameKind))(n:Nat)(acc:List (Str×Addr)),names.lookup x=some .cell->C+1<=n->∀ c,(cellsFrom n names acc).lookup x=some c->C+1<=c:=by
     intro names
     induction names with
     | nil=>intro n acc h;cases h
     | cons y r ih=>
      intro n acc h hn c hcc
      obtain⟨y,k⟩:=y
      rw[B8]at h
      unfold cellsFrom at hcc
      have last:∀ (names:List (Str×NameKind))(n:Nat)(acc:List (Str×Addr)),C+1<=n->(∀ d,acc.lookup x=some d->C+1<=d)->∀ c,(cellsFrom n names acc).lookup x=some c->C+1<=c:=by
       intro names
       induction names with
       | nil=>intro n acc _ h c hc;exact h c hc
       | cons y r ih=>
        intro n acc hn h c hc
        obtain⟨y,k⟩:=y
        unfold cellsFrom at hc
        split at hc
        ·refine ih (n+1) _ (by omega) (fun d hd=>?_) c hc
         rw[B8]at hd
         split at hd
         ·cases hd;exact hn
         ·exact h d hd
        ·exact ih n acc hn h c hc
      cases hb:x==y with
      | true=>
       rw[hb]at h
       cases h
       rw[if_pos (by decide)]at hcc
       refine last r (n+1) _ (by omega) (fun d hd=>?_) c hcc
       rw[B8,hb]at hd
       cases hd;exact hn
      | false=>
       rw[hb]at h
       split at hcc
       ·exact ih (n+1) _ h (by omega) c hcc
       ·exact ih n acc h hn c hcc
    have e':cells.lookup x=some c:=e
    rw[<- hcells]at e'
    have h1:@LE.le Nat _ (C+1) c:=gen scope.names (C+1) cl hf'' (yi _) c e'
    show @LE.le Nat _ s3.heap.objs.size c
    omega
   ·show @LE.le Nat _ s3.heap.objs.size c
    omega
  ·have:=fpLt b hb
   show @Ne Nat b C
   omega
  ·subst z
   rcases memC x c e with⟨q,_⟩|⟨q,_⟩
   ·exact (f2 c hb).2.2.2.2.1 x c q rfl
   ·have:=fpLt c hb
    omega
  ·rcases (f2 b hb).2.2.2.1 with z|z
   ·exact I3.ok.noex b o e z
   ·exact absurd (yA (yt e) (yM I3.ok.bsz z)) (zC _)
 have HC:∀ c:Addr,@LE.le Nat _ C c->upd H2 l (.lst []) c=none:=fun c hcc=>I3.hok.fresh (show @LE.le Nat _ s3.heap.objs.size c by omega)
 have I4:Inv (aV X scope N' cells C s3 (upd H2 l (.lst [])) fp) [] (tH nT js σ) (upd H2 l (.lst [])) { s3 with heap:=h4 }:=by
  refine⟨okC,rfl,I3.bare,Un.kept k34,⟨_,nsC,fun i x v e1 e2 e3=>?_⟩,cellsOk,HC C (yi _),fun x c e=>?_,(fun p hp=>nomatch hp),I3.hok.kept k34,?_⟩
  ·
   unfold tH at e2
   by_cases hi':i<nT
   ·rw[yK (by simpa using hi'),List.getElem?_replicate]at e2
    split at e2 <;> cases e2
   ·rw[yF (by simpa using hi'),List.length_replicate,yf]at e2
    cases ej:js[i - nT]? with
    | none=>rw[ej]at e2;cases e2
    | some j=>
     rw[ej]at e2
     have e2':(σ[j]?).join=some v:=by simpa using e2
     have e2'':σ[j]?=some (some v):=by
      cases eσ:σ[j]? with
      | none=>rw[eσ]at e2';cases e2'
      | some o=>rw[eσ]at e2';exact congrArg some e2'
     obtain⟨y,n1,n2,n3,n4⟩:=S.cap _ _ ej
     have:nT+(i - nT)=i:=by omega
     rw[this]at n1
     have exy:x=y:=by
      have e1':N'[i]?=some x:=e1
      rw[n1]at e1';exact (Option.some.inj e1').symm
     subst exy
     obtain⟨m,hn,hlk⟩:=I3.loc
     have kinds:=S.free _ n3 rfl
     have vis:Vis X.env.scope x:=by
      rcases kinds with k|k
      ·exact .inr (.inl k)
      ·exact .inr (.inr k)
     obtain⟨u,r,lk⟩:=hlk j x v n2 e2'' vis
     refine⟨u,r,?_⟩
     rcases lk with⟨k,_⟩|⟨k,c,ec,iz⟩
     ·rcases kinds with k'|k'
      ·rw[k]at k';cases k'
      ·rw[k]at k';cases k'
     ·refine .inr ⟨?_,c,?_,iz.keeps k34⟩
      ·show (relabel scope X.env).names.lookup x=some .cell\/(relabel scope X.env).names.lookup x=some .free
       have e3':Vis (relabel scope X.env) x:=e3
       rcases e3' with z|z|z
       ·
        exfalso
        have m:=mem_of_lookup z
        unfold relabel at m
        obtain⟨⟨n,k'⟩,m',e⟩:=yw.mp m
        dsimp only at e
        split at e
        ·cases e
        ·cases e
         have q:=S.loc _ m' rfl
         rw[S.frl _ n3 rfl]at q
         cases q
       ·exact .inl z
       ·exact .inr z
      ·show cells.lookup x=some c
       rw[<- hcells,eL _ _ _ n4]
       obtain⟨d,hd⟩:=hclf _ n3 rfl
       obtain⟨d',hd'⟩:=eI hd
       have:=hclm _ (mem_of_lookup hd')
       rw[ec]at this
       rw[hd',Option.some.inj this]
  ·rcases memC x c e with⟨q,_⟩|⟨q,_⟩
   ·exact I3.freeC x c q
   ·exact HC c (by omega)
  ·unfold tH
   show _=N'.length
   rw[S.len,yu,List.length_replicate,y9]
 have stat:∀ {H':Hp},(∀ b∈fp,H' b=none)->∀ b∈fp,kA (aV X scope N' cells C s3 (upd H2 l (.lst [])) fp) [] H' b:=fun hn b hb=>by
  refine⟨hn b hb,?_,fpStk b hb,.inl hb,fun x c e z=>?_,(fun p hp=>nomatch hp)⟩
  ·have:=fpLt b hb
   show @Ne Nat b C
   omega
  ·subst z
   rcases memC x c e with⟨q,_⟩|⟨q,_⟩
   ·exact (f2 c hb).2.2.2.2.1 x c q rfl
   ·have:=fpLt c hb
    omega
 have fr0:∀ b∈fp,upd H2 l (.lst []) b=none:=fun b hb=>by
  rw[af (yS (fpLt b hb))]
  exact (f2 b hb).1
 have tn4:tn 0 h4:=T.keep _ _ _ st2 fun b _ o e=>k34 b o (k23 b o e)
 have loop:codeAny (model X.prog X.w) X.A (.compLoop (.ListComp elt [⟨tg,iter,ifs,0⟩] scope pos) 0 (.ref it) (.ref l) (compEnvC scope cells C X.env)) (compPost (model X.prog X.w) X.A X.xe use Q (.ref l) C) { s3 with heap:=h4 }:=by
  refine pq (fun n s'=>∃ i σ' H',Inv (aV X scope N' cells C s3 (upd H2 l (.lst [])) fp) [] σ' H' s'/\tn i s'.heap/\(∀ b∈fp,H' b=none)/\W i n σ' H') ?_ m0 ⟨0,_,_,I4,tn4,fr0,w0⟩
  rintro n s5 ⟨i,σ5,H5,I5,st5,fr5,w5⟩
  rcases turn i n σ5 H5 w5 with⟨stop,qn⟩|⟨go,step⟩
  ·refine thn (T.done (aV X scope N' cells C s3 (upd H2 l (.lst [])) fp) rfl rfl rfl (hc _ _ _ _ _) i [] s5 σ5 H5 noX I5 (stat fr5) st5 stop) fun r s6 ⟨hr,I6⟩=>?_
   subst hr
   have un:Un (frs X.stack) fp (upd H2 l (.lst [])) H5 s3.heap s6.heap:=I6.base
   have J6:Inv X pins σ H5 s6:=I3.call' (ch:=fp) I6.os un I6.hok I6.bare fun b hb=>⟨(f2 b hb).2.2.2.1,(f2 b hb).2.1,(f2 b hb).2.2.2.2.1,(f2 b hb).2.2.2.2.2⟩
   obtain⟨m6,n6,_⟩:=I6.loc
   have hCX:@Ne Nat C X.env.locals:=by
    have h1:@LT.lt Nat _ X.env.locals s3.heap.objs.size:=I3.lt
    omega
   have hCs:@LE.le Nat _ X.s₀.heap.objs.size C:=by have:=I3.sz;omega
   refine fin l C s6 H5 J6 ⟨⟨I6.free,hCX,fun z=>?_,.inr hCs,fun x c e z=>?_,fun p hp z=>?_⟩,hCs,m6,n6⟩ qn
   ·have:=I3.nofs (a:=C) (Nat.le_of_eq hC)
    exact this z
   ·obtain⟨v,iz⟩:=I3.cell x c e
    have h1:@LT.lt Nat _ c s3.heap.objs.size:=iz.lt
    have h2:@Eq Nat c C:=z
    omega
   ·have h1:@LT.lt Nat _ p.1 s3.heap.objs.size:=yt (I3.pin p hp).1
    have h2:@Eq Nat p.1 C:=z
    omega
  ·refine thn (T.item (aV X scope N' cells C s3 (upd H2 l (.lst [])) fp) rfl rfl rfl (hc _ _ _ _ _) i [] s5 σ5 H5 noX I5 (stat fr5) st5 go) fun r s6 ⟨u,hr,h6⟩=>?_
   subst hr
   refine thn h6 fun _ s7 ⟨x,H7,I7,r7,y7,st7,fr7⟩=>?_
   have I7':=I7.pinned (stat fr7) (T.obj _ _ st7)
   refine thn (hg cells C s3 (upd H2 l (.lst [])) fp _ s7 σ5 H7 x u _ I7' r7 (step x H7 y7)) fun _ s8 ⟨σ8,H8,I8,q8⟩=>?_
   have again:∀ {H9:Hp}{s9:Shared},Inv (aV X scope N' cells C s3 (upd H2 l (.lst [])) fp) ([]++lC fp s7.heap) σ8 H9 s9->tn (i+1) s9.heap/\∀ b∈fp,H9 b=none:=fun {H9 s9} I9=>by
    refine⟨T.keep _ _ _ st7 fun b hb o e=>(I9.pin (b,o) (yT _ (yT _ (fJ hb e)))).1,fun b hb=>?_⟩
    obtain⟨o,e,d⟩:=T.obj _ _ st7 b hb
    exact (I9.pin (b,o) (yT _ (yT _ (fJ hb e)))).2.1
   obtain⟨N,NV,hN,hNV,q8⟩:=q8
   refine thn (ht cells C s3 (upd H2 l (.lst [])) fp _ s8 σ8 H8 _ I8 q8) fun b s9 ⟨H9,I9,q9⟩=>?_
   cases b with
   | false=>
    rw[if_neg yv]at q9 ⊢
    obtain⟨m',hm,w9⟩:=hN _ q9
    exact⟨m',hm,i+1,σ8,H9,I9.unpinned,(again I9).1,(again I9).2,w9⟩
   | true=>
    rw[if_pos rfl]at q9 ⊢
    refine thn (he cells C s3 (upd H2 l (.lst [])) fp _ s9 σ8 H9 _ I9 q9) fun y s10 ⟨v,H10,I10,r10,q10⟩=>?_
    obtain⟨ys,el,hz,m',hm,w10⟩:=hNV _ _ q10
    refine thn (dm (X:=aV X scope N' cells C s3 (upd H2 l (.lst [])) fp) _ s10 σ8 H10 (.ref l) [v] (.ref l) [y] (fun z H11=>z=.non/\H11=upd H10 l (.lst (ys++[v]))) I10 rfl (.cons r10 .nil) ⟨l,ys,v,rfl,rfl,el,hz,rfl,rfl⟩) fun _ s11 ⟨_,H11,I11,_,_,e11⟩=>?_
    subst e11
    exact⟨m',hm,i+1,σ8,_,I11.unpinned,(again I11).1,(again I11).2,w10⟩
 refine codeAny_compStart_list loop (T.self _ 0 _ _ _ tn4 loop)
end
section
variable {X : Cx}{elt tg iter : Expr}{ifs : List Expr}{scope : Scope}{pos : Pos}{wi : TI}{nT : Nat}{js : List Nat}{N' : List Str}{g : TG}{tt : TT}{te : TE}
def sR (wi:TI)(nT:Nat)(js:List Nat)(g:TG)(tt:TT)(te:TE):TE:=fun σ H Q=>wi σ H (bi nT js g tt te σ fun l H'=>Q (.ref l) H')
theorem vp {Cc:Cx->Prop}(hc:∀ cells C s H fp,Cc (aV X scope N' cells C s H fp))(S:cq X scope nT js N')(hi:PI0 Cc X tg iter wi)
  (hg:∀ cells C s H fp,PG (aV X scope N' cells C s H fp) tg g) (ht:∀ cells C s H fp,pC (aV X scope N' cells C s H fp) ifs tt) (he:∀ cells C s H fp,PE (aV X scope N' cells C s H fp) elt te)
  (hs:∀ x,foldedSetIterable iter X.env x=pure x:=by intro _;rfl):PE X (.ListComp elt [⟨tg,iter,ifs,0⟩] scope pos) (sR wi nT js g tt te):=by
 intro pins s σ H Q I h
 rw[eval_ListComp]
 refine qV (use:=none) hc S hi hg ht he I h (fun l C s' H' I' ⟨f,_,m,n⟩ q=>?_) hs
 refine⟨m,n,fun h' sb=>⟨.ref l,H',?_,rfl,q⟩⟩
 exact I'.turned (t':=s'.toks) (fun b o hb e=>(sb.2 b hb).trans e) f.1 f.2.1 f.2.2.2.1 f.2.2.2.2.1 f.2.2.2.2.2
theorem aX (hc:X.calm=true)(S:cq X scope nT js N')(hi:PI X tg iter wi)
  (hg:∀ cells C s H fp,PG (aV X scope N' cells C s H fp) tg g) (ht:∀ cells C s H fp,pC (aV X scope N' cells C s H fp) ifs tt) (he:∀ cells C s H fp,PE (aV X scope N' cells C s H fp) elt te)
  (hs:∀ x,foldedSetIterable iter X.env x=pure x:=by intro _;rfl):PE X (.ListComp elt [⟨tg,iter,ifs,0⟩] scope pos) (sR wi nT js g tt te):=vp (fun _ _ _ _ _=>hc) S hi hg ht he hs
theorem qd {Cc:Cx->Prop}{i:Nat}{x:Str}{pos' spos:Pos} (hN:X.N.Nodup) (hi':X.N[i]?=some x) (hx:X.env.scope.names.lookup x=some .local) (hc:∀ cells C s H fp,Cc (aV X scope N' cells C s H fp)) (S:cq X scope nT js N') (hi:PI0 Cc X tg iter wi)
  (hg:∀ cells C s H fp,PG (aV X scope N' cells C s H fp) tg g) (ht:∀ cells C s H fp,pC (aV X scope N' cells C s H fp) ifs tt) (he:∀ cells C s H fp,PE (aV X scope N' cells C s H fp) elt te)
  (hsw:swapsWith (.ListComp elt [⟨tg,iter,ifs,0⟩] scope pos) (some (.Name x pos')) spos.line X.env=pure true:=by rfl)
  (hs:∀ x,foldedSetIterable iter X.env x=pure x:=by intro _;rfl):PS X (.Assign [.Name x pos'] (.ListComp elt [⟨tg,iter,ifs,0⟩] scope pos) spos) (v4 (sR wi nT js g tt te) (bd i)):=by
 intro pins s σ H D I h
 rw[exec_Assign_Name_used _ _ _ _ hsw]
 refine yc (Bc (yc ?_))
 show wpAny _ X.A (do let _ <- comprehension (.ListComp elt [⟨tg,iter,ifs,0⟩] scope pos) scope X.env _ (newList []) false (eval iter X.env) (some (assign (.Name x pos') X.env))) _ _ s
 refine yc (zj (qV (use:=some (assign (.Name x pos') X.env)) (Q:=fun _ s'=>SP X pins D .next s') hc S hi hg ht he I h (fun l C s' H' I' ⟨f,sz,m,n⟩ q=>?_) hs) (fun _ s' hq=>yp (yp hq)) fun _ _ e=>e)
 show wpAny _ _ (assign (.Name x pos') X.env (.ref l)) _ _ s'
 refine wpAny_assign_Name (mU I' hN hi' (.inl hx) (v:=.ref l) rfl (fun s'' I'' ⟨a,sb,ha⟩=>?_) (.inr hx))
 have hCa:C≠a:=by
  rcases ha with rfl|ha
  ·exact f.2.1
  ·exact fun z=>f.2.2.2.2.1 x a ha z.symm
 refine⟨m,n.sameBut sb hCa,fun h' sb'=>⟨_,H',?_,q⟩⟩
 exact I''.turned (t':=s''.toks) (fun b o hb e=>(sb'.2 b hb).trans e) f.1 f.2.1 f.2.2.2.1 f.2.2.2.2.1 f.2.2.2.2.2
theorem cb {i:Nat}{x:Str}{pos' spos:Pos} (hN:X.N.Nodup) (hi':X.N[i]?=some x) (hx:X.env.scope.names.lookup x=some .local) (hc:X.calm=true) (S:cq X scope nT js N') (hi:PI X tg iter wi)
  (hg:∀ cells C s H fp,PG (aV X scope N' cells C s H fp) tg g) (ht:∀ cells C s H fp,pC (aV X scope N' cells C s H fp) ifs tt) (he:∀ cells C s H fp,PE (aV X scope N' cells C s H fp) elt te)
  (hsw:swapsWith (.ListComp elt [⟨tg,iter,ifs,0⟩] scope pos) (some (.Name x pos')) spos.line X.env=pure true:=by rfl)
  (hs:∀ x,foldedSetIterable iter X.env x=pure x:=by intro _;rfl):PS X (.Assign [.Name x pos'] (.ListComp elt [⟨tg,iter,ifs,0⟩] scope pos) spos) (v4 (sR wi nT js g tt te) (bd i)):=qd hN hi' hx (fun _ _ _ _ _=>hc) S hi hg ht he hsw hs
end
section
variable {js : List Nat}{tt : TT}{te : TE}{σ : St}{F : Addr -> Hp -> Prop}
theorem uH {K:PySem.W.Frag}{a:Addr}{xs:List V}{H1:Hp} (Pv:Addr->Nat->Hp->Prop)
  (h0:∀ l,H1 l=none->Pv l 0 (upd H1 l (.lst []))) (hl:∀ l i H,i<=xs.length->Pv l i H->SqL K H a xs)
  (hs:∀ l i x H,xs[i]?=some x->Pv l i H->tt (some x::js.map fun j=>(σ[j]?).join) H fun b H4=>
   if b=true then te (some x::js.map fun j=>(σ[j]?).join) H4 fun v H5=>∃ ys,H5 l=some (.lst ys)/\ys.length<sizeLine/\Pv l (i+1) (upd H5 l (.lst (ys++[v]))) else Pv l (i+1) H4)
  (hd:∀ l H,Pv l xs.length H->F l H):bi 1 js (bd 0) tt te σ F (Itl K a) H1:=by
 intro l hl0
 refine⟨fun i m σ' H=>m=xs.length - i/\i<=xs.length/\(∃ o,σ'=o::js.map fun j=>(σ[j]?).join)/\Pv l i H,⟨xs.length,by simp,yP _,⟨none,rfl⟩,h0 l hl0⟩,?_⟩
 rintro i m σ' H ⟨rfl,hi,⟨o,rfl⟩,p⟩
 have q:=hl l i H hi p
 by_cases hlt:i<xs.length
 ·refine .inr ⟨⟨xs,xs[i],q,by simp[hlt]⟩,fun x H2 y=>?_⟩
  obtain⟨e,y⟩:=y
  subst e
  refine⟨Pv l (i+1),fun v H5=>∃ ys,H5 l=some (.lst ys)/\ys.length<sizeLine/\Pv l (i+1) (upd H5 l (.lst (ys++[v]))),fun H4 p4=>⟨xs.length - (i+1),by omega,rfl,hlt,⟨some x,rfl⟩,p4⟩,
   fun v H5 ⟨ys,e1,e2,p5⟩=>⟨ys,e1,e2,xs.length - (i+1),by omega,rfl,hlt,⟨some x,rfl⟩,p5⟩,hs l i x _ (y xs q) p⟩
 ·have e:i=xs.length:=by omega
  subst e
  exact .inl ⟨⟨xs,q,yi _⟩,hd l H p⟩
theorem sF {lo:Int}{n:Nat}{H1:Hp} (Pv:Addr->Nat->Hp->Prop)
  (h0:∀ l,H1 l=none->Pv l 0 (upd H1 l (.lst [])))
  (hs:∀ l i H,i<n->Pv l i H->tt (some (.int (lo+i))::js.map fun j=>(σ[j]?).join) H fun b H4=>
   if b=true then te (some (.int (lo+i))::js.map fun j=>(σ[j]?).join) H4 fun v H5=>∃ ys,H5 l=some (.lst ys)/\ys.length<sizeLine/\Pv l (i+1) (upd H5 l (.lst (ys++[v]))) else Pv l (i+1) H4)
  (hd:∀ l H,Pv l n H->F l H):bi 1 js (bd 0) tt te σ F (Itr lo n) H1:=by
 intro l hl0
 refine⟨fun i m σ' H=>m=n - i/\i<=n/\(∃ o,σ'=o::js.map fun j=>(σ[j]?).join)/\Pv l i H,⟨n,by simp,yP _,⟨none,rfl⟩,h0 l hl0⟩,?_⟩
 rintro i m σ' H ⟨rfl,hi,⟨o,rfl⟩,p⟩
 by_cases hlt:i<n
 ·refine .inr ⟨hlt,fun x H2 y=>?_⟩
  obtain⟨e,y⟩:=y
  subst e y
  refine⟨Pv l (i+1),fun v H5=>∃ ys,H5 l=some (.lst ys)/\ys.length<sizeLine/\Pv l (i+1) (upd H5 l (.lst (ys++[v]))),fun H4 p4=>⟨n - (i+1),by omega,rfl,hlt,⟨_,rfl⟩,p4⟩,
   fun v H5 ⟨ys,e1,e2,p5⟩=>⟨ys,e1,e2,n - (i+1),by omega,rfl,hlt,⟨_,rfl⟩,p5⟩,hs l i _ hlt p⟩
 ·have e:i=n:=by omega
  subst e
  exact .inl ⟨yi _,hd l H p⟩
end
section
variable {X : Cx}
theorem wo:CallR X (.builtin "isinstance") (fun xs H Q=>∃ x t T b,xs=[x,.ty T]/\jj X.K H x t/\PySem.W.kitOne X.K t (.type T)=some b/\Q (.bl b) H):=by
 intro pins s σ H xs us Q I r h
 obtain⟨x,t,T,b,rfl,ty,e,q⟩:=h
 obtain⟨u,w',rfl,r1,r2⟩:=jR r
 cases r2
 exact uz I r1 ty e fun tk=>⟨.bl b,H,I.tok tk,rfl,q⟩
theorem b4:bootBuiltins "isinstance"=some (.builtin "isinstance"):=by decide +kernel
theorem wt:bootBuiltins "sum"=some (.builtin "sum"):=by decide +kernel
theorem my:bootBuiltins "min"=some (.builtin "min"):=by decide +kernel
theorem uN (hc:X.calm=true):CallR X (.builtin "sum") (fun xs H Q=>∃ (p:Addr)(ns:List Int),xs=[.ref p]/\SqL X.K H p (ns.map V.int)/\Q (.int ns.sum) H):=by
 intro pins s σ H xs us Q I r h
 obtain⟨p,ns,rfl,hq,q⟩:=h
 obtain⟨u,rfl,r1⟩:=fP r
 cases r1
 obtain⟨its,rv,pl,hz⟩:=I.list hq
 have hi:IntsAre its ns:=iJ rv
 obtain⟨xs,hx⟩:=hi.allInts.items
 have hl':s.heap.IsList p (intItems xs):=hx▸pl.isList
 refine sum_intListG (I.ok.hd hc) hl' fun h' tk t' hk=>?_
 have e1:ns=xs.toList.map (·.1):=by
  rw[<- nums_intItems,<- hx]
  exact (show numsOf its.toArray.toList=ns from hi.numsOf).symm
 have e2:preSum (numAt xs) xs.size=ns.sum:=by
  rw[preSum_eq,zK (by simp),e1]
 rw[e2]
 exact⟨.int ns.sum,H,I.kept hk,⟨_,rfl⟩,q⟩
structure EqK (K : PySem.W.Frag) {α : Type} [DecidableEq α] (R : Hp -> V -> α -> Prop) (k : Nat) : Prop where
  eq : ∀ (X : Cx) (A : Around) (pins : List (Addr × Obj)) (s : Shared) (σ : St) (H : Hp) (x y : V) (v u : Value) (a b : α), X.K = K -> Inv X pins σ H s -> RelV x v -> RelV y u -> R H x a -> R H y b -> A.units + k < cLine -> SeqAt.EqAt A s v u (decide (a = b))
  fn : ∀ (X : Cx) (pins : List (Addr × Obj)) (s : Shared) (σ : St) (H : Hp) (x : V) (a b : α), X.K = K -> Inv X pins σ H s -> R H x a -> R H x b -> a = b
def isI:Hp->V->Int->Prop:=fun _ x n=>x=.int n
theorem pi {K:PySem.W.Frag}:EqK K isI 0 where
 eq:=by
  intro X A pins s σ H x y v u a b _ I rx ry ha hb _
  cases ha
  cases hb
  obtain⟨t,rfl⟩:=rx
  obtain⟨t',rfl⟩:=ry
  obtain⟨e,h1,h2⟩:=HT.eqAt_int A s a t b t'
  have:e=decide (a=b):=by
   rw[ze,h2,zH]
  rw[<- this];exact h1
 fn:=by
  intro X pins s σ H x a b _ I ha hb
  cases ha
  cases hb
  rfl
def jK (K:PySem.W.Frag){α:Type}(R:Hp->V->α->Prop):Hp->V->List α->Prop:=fun H x as=>∃ p vs,x=.ref p/\SqL K H p vs/\Paired (R H) vs as
theorem Paired.at {α β:Type}{F:α->β->Prop}:∀ {l₁:List α}{l₂:List β}{i:Nat}{a:α},Paired F l₁ l₂->l₁[i]?=some a->∃ b,l₂[i]?=some b/\F a b
 | _,_,_,_,.nil,e=>by simp at e
 | _,_,0,_,.cons r _,e=>by simp at e;subst e;exact⟨_,rfl,r⟩
 | _,_,i+1,a,.cons _ t,e=>by
  obtain⟨u,h1,h2⟩:=Paired.at (i:=i) (a:=a) t (by simpa using e)
  exact⟨u,by simpa using h1,h2⟩
theorem Vals.at' {xs:List V}{us:List Value}{i:Nat}{u:Value} (r:Vals xs us) (h:us[i]?=some u):∃ x,xs[i]?=some x/\RelV x u:=by
 have hl:=r.length
 have hi:i<us.length:=(yd.mp h).1
 have e:xs[i]?=some xs[i]:=by simp
 obtain⟨u',h1,h2⟩:=r.get e
 rw[h]at h1;cases h1
 exact⟨_,e,h2⟩
theorem gp {α β:Type}{F:α->β->Prop} (f:∀ a b c,F a b->F a c->b=c):∀ {l:List α}{m n:List β},Paired F l m->Paired F l n->m=n
 | _,_,_,.nil,.nil=>rfl
 | _,_,_,.cons r t,.cons r' t'=>by rw[f _ _ _ r r',gp f t t']
section
variable {K : PySem.W.Frag}{α : Type} [DecidableEq α] {R : Hp -> V -> α -> Prop}{k : Nat}
theorem t8 (h:EqK K R k){X:Cx}{pins:List (Addr×Obj)}{s:Shared}{σ:St}{H:Hp}{x:V}{as bs:List α} (hK:X.K=K) (I:Inv X pins σ H s) (ha:jK K R H x as) (hb:jK K R H x bs):as=bs:=by
 obtain⟨p,vs,rfl,h1,h2⟩:=ha
 obtain⟨q,ws,e,h3,h4⟩:=hb
 cases e
 subst hK
 have:=I.list_inj h1 h3
 subst this
 exact gp (fun a b c=>h.fn X pins s σ H a b c rfl I) h2 h4
theorem iH (h:EqK K R k){X:Cx}{A:Around}{pins:List (Addr×Obj)}{s:Shared}{σ:St}{H:Hp}{vs ws:List V}{its its2:List Value}{as bs:List α} (hK:X.K=K) (I:Inv X pins σ H s) (r1:Vals vs its) (r2:Vals ws its2) (p1:Paired (R H) vs as) (p2:Paired (R H) ws bs)
  (hl:its.length=its2.length) (hu:A.units+k<cLine):
  (∀ j (h1:j<its.toArray.size) (h2:j<its2.toArray.size),SeqAt.EqAt A s its.toArray[j] its2.toArray[j] (decide (as[j]?=bs[j]?)))/\(List.range its.toArray.size).all (fun j=>decide (as[j]?=bs[j]?))=decide (as=bs):=by
 have l1:=r1.length
 have l2:=r2.length
 have l3:=Paired.length p1
 have l4:=Paired.length p2
 refine⟨fun j h1 h2=>?_,?_⟩
 ·rw[yx]at h1 h2
  obtain⟨x,ex,rx⟩:=r1.at' (i:=j) (u:=its[j]) (by simp)
  obtain⟨y,ey,ry⟩:=r2.at' (i:=j) (u:=its2[j]) (by simp)
  obtain⟨a,ea,ra⟩:=Paired.at p1 ex
  obtain⟨b,eb,rb⟩:=Paired.at p2 ey
  have:=h.eq X A pins s σ H x y _ _ a b hK I rx ry ra rb hu
  rw[ea,eb]
  have e:decide (some a=some b)=decide (a=b):=by
   rw[ze,zH,zH]
   exact⟨Option.some.inj,congrArg some⟩
  rw[e]
  simpa using this
 ·rw[yx,ze,zJ,zH]
  constructor
  ·intro hh
   apply zz
   intro i
   by_cases hi:i<its.length
   ·exact yr (hh i (Aj.mpr hi))
   ·rw[yo (by omega),yo (by omega)]
  ·rintro rfl i _
   exact ye rfl
theorem w6 (h:EqK K R k):EqK K (jK K R) (k+1) where
 eq:=by
  intro X A pins s σ H x y v u as bs hK I rx ry ha hb hu
  by_cases hxy:x=y
  ·subst hxy
   have e:=t8 h hK I ha hb
   subst e
   obtain⟨p,vs,rfl,h1,h2⟩:=ha
   cases rx
   cases ry
   rw[ye rfl]
   exact SeqAt.EqAt.same _
  ·obtain⟨p,vs,rfl,h1,h2⟩:=ha
   obtain⟨q,ws,rfl,h3,h4⟩:=hb
   cases rx
   cases ry
   have hne:p≠q:=fun e=>hxy (by rw[e])
   subst hK
   obtain⟨its,r1,pl,hz⟩:=I.list h1
   obtain⟨its2,r2,pl2,hz2⟩:=I.list h3
   refine SeqAt.EqAt.of_refs hne ?_
   have l1:=r1.length
   have l2:=r2.length
   have l3:=Paired.length h2
   have l4:=Paired.length h4
   by_cases hl:its.length=its2.length
   ·obtain⟨e1,e2⟩:=iH (A:=A.in1) h rfl I r1 r2 h2 h4 hl (by rw[Around.in1_units];omega)
    rw[<- e2]
    exact SeqAt.RcAt.lists pl.isList pl2.isList (by simpa using hl) (by omega) e1
   ·have:decide (as=bs)=false:=by
     rw[decide_eq_false_iff_not]
     rintro rfl
     omega
    rw[this]
    exact SeqAt.RcAt.lists_lengths pl.isList pl2.isList (by simpa using hl) (by omega)
 fn:=fun X pins s σ H x as bs hK I ha hb=>t8 h hK I ha hb
end
theorem op_eqL {α:Type}[DecidableEq α]{R:Hp->V->α->Prop}{k:Nat} (h:EqK X.K R k) (hu:X.A.units+(k+1)<cLine):OpR X (compareOp .Eq) (fun x y H Q=>∃ as bs,jK X.K R H x as/\jK X.K R H y bs/\Q (.bl (decide (as=bs))) H):=by
 intro pins s σ H x y v u Q I rx ry hw
 obtain⟨as,bs,ha,hb,q⟩:=hw
 obtain⟨p,vs,rfl,h1,h2⟩:=ha
 obtain⟨p',ws,rfl,h3,h4⟩:=hb
 cases rx
 cases ry
 obtain⟨its,r1,pl,hz⟩:=I.list h1
 obtain⟨its2,r2,pl2,hz2⟩:=I.list h3
 have l1:=r1.length
 have l2:=r2.length
 have l3:=Paired.length h2
 have l4:=Paired.length h4
 by_cases hl:its.length=its2.length
 ·obtain⟨e1,e2⟩:=iH (A:=X.A.in1) h rfl I r1 r2 h2 h4 hl (by rw[Around.in1_units];omega)
  refine SeqAt.eq_listAt pl.isList pl2.isList (by simpa using hl) (by omega) e1 ?_
  rw[e2]
  exact⟨.bl _,H,I,rfl,q⟩
 ·have:decide (as=bs)=false:=by
   rw[decide_eq_false_iff_not]
   rintro rfl
   omega
  rw[this]at q
  exact SeqAt.eq_list_lengthsAt pl.isList pl2.isList (by simpa using hl) (by omega) ⟨.bl _,H,I,rfl,q⟩
theorem op_neL {α:Type}[DecidableEq α]{R:Hp->V->α->Prop}{k:Nat} (h:EqK X.K R k) (hu:X.A.units+(k+1)<cLine):OpR X (compareOp .NotEq) (fun x y H Q=>∃ as bs,jK X.K R H x as/\jK X.K R H y bs/\Q (.bl (!decide (as=bs))) H):=by
 intro pins s σ H x y v u Q I rx ry hw
 obtain⟨as,bs,ha,hb,q⟩:=hw
 obtain⟨p,vs,rfl,h1,h2⟩:=ha
 obtain⟨p',ws,rfl,h3,h4⟩:=hb
 cases rx
 cases ry
 obtain⟨its,r1,pl,hz⟩:=I.list h1
 obtain⟨its2,r2,pl2,hz2⟩:=I.list h3
 have l1:=r1.length
 have l2:=r2.length
 have l3:=Paired.length h2
 have l4:=Paired.length h4
 by_cases hl:its.length=its2.length
 ·obtain⟨e1,e2⟩:=iH (A:=X.A.in1) h rfl I r1 r2 h2 h4 hl (by rw[Around.in1_units];omega)
  refine SeqAt.RcNeAt.lists pl.isList pl2.isList (by simpa using hl) (by omega) e1 X.prog X.w X.xe _ ?_
  rw[e2]
  exact⟨.bl _,H,I,rfl,q⟩
 ·have:decide (as=bs)=false:=by
   rw[decide_eq_false_iff_not]
   rintro rfl
   omega
  rw[this]at q
  exact SeqAt.RcNeAt.lists_lengths pl.isList pl2.isList (by simpa using hl) (by omega) X.prog X.w X.xe _ ⟨.bl _,H,I,rfl,q⟩
section
variable {prog : Program}{w : World}{A : Around}{E : Value -> Shared -> Prop}{s : Shared}
end
end
def Df (P:Program)(w:World)(K:PySem.W.Frag)(mg:Str->Option Value)(base:Heap)(k:Nat)(x:Str)(ps:List Str)(sp:Sp):Prop:=
 ∃ f fd,mg x=some (.ref f)/\PySem.W.keepIn K (.ref f)=true/\Binds K fd ps []/\FnOk P w K mg base CX0 k f fd ps sp
def Dm (P:Program)(w:World)(K:PySem.W.Frag)(mg:Str->Option Value)(base:Heap)(k:Nat)(C:Addr)(m:Str)(ps:List Str)(sp:Sp):Prop:=
 ∃ f fd,Cls K C/\rh K C m f/\Binds K fd ps []/\FnOk P w K mg base CX0 k f fd ps sp
def Dk (P:Program)(w:World)(K:PySem.W.Frag)(mg:Str->Option Value)(base:Heap)(k:Nat)(x:Str)(C:Addr)(ps:List Str)(sp:Sp):Prop:=
 ∃ f fd,mg x=some (.ref C)/\Mk K C f/\Binds K fd ps []/\FnOk P w K mg base CX0 k f fd ps sp
section
variable {X : Cx}{k : Nat}{C : Addr}{ps : List Str}{sp : Sp}{x m : Str}{p pos apos : Pos}{e o : Expr}{es : List Expr}{ta : TE}{t : TA}
theorem aq (D:Df X.prog X.w X.K X.mg X.base k x ps sp)(hr:Room k X.A)(hg:Gl X x)
  (ha:PA X (e::es) t) (hdb:(x==("__debug__":Str))=false:=by decide) (he:starEach (e::es) X.env=(false,eval e X.env)::starEach es X.env:=by rfl) (hpl:(backTo pos (starEach es X.env)).any (·.1)=false:=by rfl):
  PE X (.Call (.Name x p) (e::es) [] pos) (sS sp [] E0 t):=by
 obtain⟨f,fd,hm,kp,b,F⟩:=D
 exact x9 F hr hg hm kp b .nil mY ha hdb he hpl
theorem aZ {pl:Sem Bool}(he:PE X o ta)(D:Dm X.prog X.w X.K X.mg X.base k C m ps sp)(hr:Room k X.A)(ha:PA X (e::es) t)
  (hst:starEach (e::es) X.env=(false,eval e X.env)::starEach es X.env:=by rfl) (hpl:(backTo pos (starEach es X.env)).any (·.1)=false:=by rfl)
  (ht:eval (.Call (.Attribute o m apos) (e::es) [] pos) X.env=(do
   let ov <- eval o X.env
   standAt apos.atName
   let (f,first) <- holding [ov] (getMethod ov m pl)
   callWith pos f first (backTo pos (starEach (e::es) X.env)) (backToKw pos (keywordEach [] X.env))):=by rfl):
  PE X (.Call (.Attribute o m apos) (e::es) [] pos) (pJ C m sp [] E0 ta t):=by
 obtain⟨f,fd,cl,hm,b,F⟩:=D
 exact x0 he cl hm F hr b .nil mY ha hst hpl ht
theorem lE (D:Dk X.prog X.w X.K X.mg X.base k x C ps sp)(hr:Room (k+1) X.A)(hg:Gl X x)
  (ha:PA X (e::es) t) (hdb:(x==("__debug__":Str))=false:=by decide) (he:starEach (e::es) X.env=(false,eval e X.env)::starEach es X.env:=by rfl) (hpl:(backTo pos (starEach es X.env)).any (·.1)=false:=by rfl):
  PE X (.Call (.Name x p) (e::es) [] pos) (sQ C sp [] E0 t):=by
 obtain⟨f,fd,hm,M,b,F⟩:=D
 exact x5 M F hr hg hm b .nil mY ha hdb he hpl
end
def Fn0 (K:PySem.W.Frag)(x qual:Str)(st:Stmt):Prop:=∃ f fd,PySem.W.nsIn K mainGlobals x=some (some (.ref f))/\Fun K x qual st f fd
theorem aK {K:PySem.W.Frag}{x qual:Str}{st:Stmt}{f:Addr}{oc:Value}{od an:Option Addr}{osl:Array (Option Value)}{kV doc pm cdv ct:Value} (a:PySem.W.nsIn K mainGlobals x=some (some (.ref f)))
  (l:K.lookup f=some ⟨oc,od,.func (PySem.W.fnOf x qual (aY st) (aJ st) (ag st) .none kV doc pm an cdv ct),osl⟩)
  (c:PySem.W.codeIn K cdv qual=true) (k:PySem.W.keepIn K (.ref f)=true):Fn0 K x qual st:=⟨f,_,a,pd l c k⟩
def Me0 (K:PySem.W.Frag)(C:Addr)(m qual:Str)(st:Stmt):Prop:=∃ f fd,rh K C m f/\Fun K m qual st f fd
theorem bh {K:PySem.W.Frag}{C:Addr}{m qual:Str}{st:Stmt}{f:Addr}{oc:Value}{od an:Option Addr}{osl:Array (Option Value)}{kV doc pm cdv ct:Value} (a:PySem.W.findIn K (.ref C) m=some (some (.ref f))) (i:PySem.W.isFn K (.ref f)=true)
  (l:K.lookup f=some ⟨oc,od,.func (PySem.W.fnOf m qual (aY st) (aJ st) (ag st) .none kV doc pm an cdv ct),osl⟩)
  (c:PySem.W.codeIn K cdv qual=true) (k:PySem.W.keepIn K (.ref f)=true):Me0 K C m qual st:=⟨f,_,⟨a,i,k⟩,pd l c k⟩
theorem az {H H2:Hp}{T:Addr}{o:HO} (e:Same H H2) (h:H2 T=Option.none):Same H (upd H2 T o):=fun b u hb=>by
 rw[af (ah (e b u hb) h)]
 exact e b u hb
theorem au {H H2:Hp}{T:Addr}{o:HO} (e:Same H H2) (h:H T=Option.none):Same H (upd H2 T o):=fun b u hb=>by
 rw[af (ah hb h)]
 exact e b u hb
def Rw (H:Hp)(x:V)(r:List Int):Prop:=∃ a,x=.ref a/\H a=some (.lst (r.map V.int))
def Tb (H:Hp)(x:V)(t:List (List Int)):Prop:=∃ a xs,x=.ref a/\H a=some (.lst xs)/\Paired (Rw H) xs t
theorem Rw.mono {H H':Hp}{x:V}{r:List Int} (e:Same H H') (h:Rw H x r):Rw H' x r:=let ⟨a,q1,q2⟩:=h;⟨a,q1,e _ _ q2⟩
theorem Tb.mono {H H':Hp}{x:V}{t:List (List Int)} (e:Same H H') (h:Tb H x t):Tb H' x t:=let ⟨a,xs,q1,q2,q3⟩:=h;⟨a,xs,q1,e _ _ q2,Paired.mapP q3 fun _ _ z=>z.mono e⟩
def RwN (H H':Hp)(x:V)(r:List Int):Prop:=∃ a,x=.ref a/\H a=none/\H' a=some (.lst (r.map V.int))
def TbN (H H':Hp)(l:Addr)(t:List (List Int)):Prop:=H l=none/\∃ xs,H' l=some (.lst xs)/\Paired (RwN H H') xs t
theorem RwN.rw {H H':Hp}{x:V}{r:List Int} (h:RwN H H' x r):Rw H' x r:=let ⟨a,q1,_,q2⟩:=h;⟨a,q1,q2⟩
theorem TbN.tb {H H':Hp}{l:Addr}{t:List (List Int)} (h:TbN H H' l t):Tb H' (.ref l) t:=let ⟨_,xs,q1,q2⟩:=h;⟨l,xs,rfl,q1,Paired.mapP q2 fun _ _ z=>z.rw⟩
theorem Paired.snoc' {α β:Type}{F:α->β->Prop}{a:α}{b:β}{l₁:List α}{l₂:List β} (r:Paired F l₁ l₂) (h:F a b):Paired F (l₁++[a]) (l₂++[b]):=Paired.snoc r h
theorem jV:∀ (r:List Int),Paired (fun (x:V) n=>x=V.int n) (r.map V.int) r
 | []=>.nil
 | _::r=>.cons rfl (jV r)
theorem gv {xs:List Int}{i:Nat}{x:V} (h:(xs.map V.int)[i]?=some x):∃ a,xs[i]?=some a/\x=.int a:=by
 rw[yf]at h
 cases e:xs[i]? with
 | none=>rw[e]at h;cases h
 | some z=>rw[e]at h;exact⟨z,rfl,(Option.some.inj h).symm⟩
theorem bx {α:Type}(f:Nat->α)(i:Nat):(List.range (i+1)).map f=(List.range i).map f++[f i]:=by
 rw[At,yI];rfl
section
variable {js : List Nat}{te : TE}{σ : St}{F : Addr -> Hp -> Prop}{H : Hp}
abbrev bz (σ:St)(js:List Nat):St:=js.map fun j=>(σ[j]?).join
theorem cM {K:PySem.W.Frag}{a:Addr}{xs:List V} (g:Nat->Int) (ha:H a=some (.lst xs)) (hz:xs.length<=1000)
  (hs:∀ i x H2,xs[i]?=some x->Same H H2->te (some x::bz σ js) H2 fun v H5=>v=.int (g i)/\Same H2 H5)
  (hd:∀ l H',H l=none->Same H H'->H' l=some (.lst (((List.range xs.length).map g).map V.int))->F l H'):bi 1 js (bd 0) fU te σ F (Itl K a) H:=by
 intro l hl0
 refine⟨fun i m σ' H2=>m=xs.length - i/\i<=xs.length/\(∃ o,σ'=o::bz σ js)/\Same H H2/\H2 l=some (.lst (((List.range i).map g).map V.int)),⟨xs.length,by simp,yP _,⟨none,rfl⟩,az (Same.refl _) hl0,a9⟩,?_⟩
 rintro i m σ' H2 ⟨rfl,hi,⟨o,rfl⟩,e,hl⟩
 have q:SqL K H2 a xs:=SqL.of (e _ _ ha)
 by_cases hlt:i<xs.length
 ·refine .inr ⟨⟨xs,xs[i],q,by simp[hlt]⟩,fun x H3 y=>?_⟩
  obtain⟨eH,y⟩:=y
  subst eH
  have ex:=y xs q
  refine⟨fun _=>False,fun v H5=>v=.int (g i)/\Same _ H5,fun H4 p4=>p4.elim,fun v H5 ⟨ev,e5⟩=>?_,hs i x _ ex e⟩
  subst ev
  refine⟨_,e5 _ _ hl,by simp only[y9,zq];exact yH hi (yH hz (by decide)),_,?_,rfl,hlt,⟨some x,rfl⟩,au (e.trans e5) hl0,?_⟩
  ·omega
  ·rw[a9,bx];simp
 ·have ei:i=xs.length:=by omega
  subst ei
  exact .inl ⟨⟨xs,q,yi _⟩,hd l H2 hl0 e hl⟩
theorem k9 {lo:Int}{n:Nat} (g:Nat->Int) (hz:n<=1000)
  (hs:∀ i H2,i<n->Same H H2->te (some (.int (lo+i))::bz σ js) H2 fun v H5=>v=.int (g i)/\Same H2 H5)
  (hd:∀ l H',H l=none->Same H H'->H' l=some (.lst (((List.range n).map g).map V.int))->F l H'):bi 1 js (bd 0) fU te σ F (Itr lo n) H:=by
 intro l hl0
 refine⟨fun i m σ' H2=>m=n - i/\i<=n/\(∃ o,σ'=o::bz σ js)/\Same H H2/\H2 l=some (.lst (((List.range i).map g).map V.int)),⟨n,by simp,yP _,⟨none,rfl⟩,az (Same.refl _) hl0,a9⟩,?_⟩
 rintro i m σ' H2 ⟨rfl,hi,⟨o,rfl⟩,e,hl⟩
 by_cases hlt:i<n
 ·refine .inr ⟨hlt,fun x H3 y=>?_⟩
  obtain⟨eH,y⟩:=y
  subst eH
  subst y
  refine⟨fun _=>False,fun v H5=>v=.int (g i)/\Same _ H5,fun H4 p4=>p4.elim,fun v H5 ⟨ev,e5⟩=>?_,hs i _ hlt e⟩
  subst ev
  refine⟨_,e5 _ _ hl,by simp only[y9,zq];exact yH hi (yH hz (by decide)),_,?_,rfl,hlt,⟨_,rfl⟩,au (e.trans e5) hl0,?_⟩
  ·omega
  ·rw[a9,bx];simp
 ·have ei:i=n:=by omega
  subst ei
  exact .inl ⟨yi _,hd l H2 hl0 e hl⟩
theorem nQ {K:PySem.W.Frag}{a b:Addr}{xs ys:List V} (g:Nat->Int) (ha:H a=some (.lst xs)) (hb:H b=some (.lst ys)) (hz:xs.length<=1000)
  (hs:∀ i x y T H2,xs[i]?=some x->ys[i]?=some y->Same H H2->H2 T=none->te (some x::some y::bz σ js) (upd H2 T (.tup [x,y])) fun v H5=>v=.int (g i)/\Same H2 H5)
  (hd:∀ l H',H l=none->Same H H'->H' l=some (.lst (((List.range (min xs.length ys.length)).map g).map V.int))->F l H'):bi 2 js (qM K 2 (dM (bd 0) (dM (bd 1) sA))) fU te σ F (Itz K a b) H:=by
 intro l hl0
 refine⟨fun i m σ' H2=>m=min xs.length ys.length - i/\i<=min xs.length ys.length/\(∃ o1 o2,σ'=o1::o2::bz σ js)/\Same H H2/\H2 l=some (.lst (((List.range i).map g).map V.int)),⟨_,rfl,yP _,⟨none,none,rfl⟩,az (Same.refl _) hl0,a9⟩,?_⟩
 rintro i m σ' H2 ⟨rfl,hi,⟨o1,o2,rfl⟩,e,hl⟩
 have q1:SqL K H2 a xs:=SqL.of (e _ _ ha)
 have q2:SqL K H2 b ys:=SqL.of (e _ _ hb)
 by_cases hlt:i<min xs.length ys.length
 ·have l1:i<xs.length:=by omega
  have l2:i<ys.length:=by omega
  refine .inr ⟨⟨xs,ys,xs[i],ys[i],q1,q2,by simp[l1],by simp[l2]⟩,fun v H3 yl=>?_⟩
  obtain⟨T,hT,rfl,x,y,ex,ey,rfl⟩:=yl
  refine⟨T,[x,y],rfl,SqT.of a9,rfl,x,[y],rfl,y,[],rfl,rfl,?_⟩
  refine⟨fun _=>False,fun v H5=>v=.int (g i)/\Same H2 H5,fun H4 p4=>p4.elim,fun v H5 ⟨ev,e5⟩=>?_,hs i x y T H2 (ex xs q1) (ey ys q2) e hT⟩
  subst ev
  refine⟨_,e5 _ _ hl,by simp only[y9,zq];exact yA l1 (yM hz (by decide)),_,?_,rfl,hlt,⟨_,_,rfl⟩,au (e.trans e5) hl0,?_⟩
  ·omega
  ·rw[a9,bx];simp
 ·have ei:i=min xs.length ys.length:=by omega
  subst ei
  exact .inl ⟨⟨xs,ys,q1,q2,by omega⟩,hd l H2 hl0 e hl⟩
theorem mt {K:PySem.W.Frag}{a:Addr}{xs:List V} (g:Nat->List Int) (ha:H a=some (.lst xs)) (hz:xs.length<=1000)
  (hs:∀ i x H2,xs[i]?=some x->Same H H2->te (some x::bz σ js) H2 fun v H5=>RwN H2 H5 v (g i)/\Same H2 H5)
  (hd:∀ l H',TbN H H' l ((List.range xs.length).map g)->Same H H'->F l H'):bi 1 js (bd 0) fU te σ F (Itl K a) H:=by
 intro l hl0
 refine⟨fun i m σ' H2=>m=xs.length - i/\i<=xs.length/\(∃ o,σ'=o::bz σ js)/\Same H H2/\∃ vs,H2 l=some (.lst vs)/\Paired (fun x r=>RwN H H2 x r/\x≠.ref l) vs ((List.range i).map g),⟨xs.length,by simp,yP _,⟨none,rfl⟩,az (Same.refl _) hl0,[],a9,.nil⟩,?_⟩
 rintro i m σ' H2 ⟨rfl,hi,⟨o,rfl⟩,e,vs,hl,hp⟩
 have q:SqL K H2 a xs:=SqL.of (e _ _ ha)
 by_cases hlt:i<xs.length
 ·refine .inr ⟨⟨xs,xs[i],q,by simp[hlt]⟩,fun x H3 y=>?_⟩
  obtain⟨eH,y⟩:=y
  subst eH
  have ex:=y xs q
  refine⟨fun _=>False,fun v H5=>RwN _ H5 v (g i)/\Same _ H5,fun H4 p4=>p4.elim,fun v H5 ⟨⟨c,ec,hc0,hc⟩,e5⟩=>?_,hs i x _ ex e⟩
  subst ec
  have hlen:vs.length=i:=by have:=Paired.length hp;simpa using this
  have hcl:c≠l:=(ah hl hc0).symm
  refine⟨_,e5 _ _ hl,by rw[hlen];exact yH hi (yH hz (by decide)),_,?_,rfl,hlt,⟨some x,rfl⟩,au (e.trans e5) hl0,_,a9,?_⟩
  ·omega
  ·rw[bx]
   refine Paired.snoc' (Paired.mapP hp fun z r ⟨⟨d,h1,h2,h3⟩,h4⟩=>⟨⟨d,h1,h2,?_⟩,h4⟩) ⟨⟨c,rfl,e.free hc0,?_⟩,fun z=>hcl (by cases z;rfl)⟩
   ·subst h1
    rw[af (fun z=>h4 (by rw[z]))]
    exact e5 _ _ h3
   ·rw[af hcl];exact hc
 ·have ei:i=xs.length:=by omega
  subst ei
  exact .inl ⟨⟨xs,q,yi _⟩,hd l H2 ⟨hl0,vs,hl,Paired.mapP hp fun _ _ z=>z.1⟩ e⟩
theorem qX {lo:Int}{n:Nat} (g:Nat->List Int) (hz:n<=1000)
  (hs:∀ i H2,i<n->Same H H2->te (some (.int (lo+i))::bz σ js) H2 fun v H5=>RwN H2 H5 v (g i)/\Same H2 H5)
  (hd:∀ l H',TbN H H' l ((List.range n).map g)->Same H H'->F l H'):bi 1 js (bd 0) fU te σ F (Itr lo n) H:=by
 intro l hl0
 refine⟨fun i m σ' H2=>m=n - i/\i<=n/\(∃ o,σ'=o::bz σ js)/\Same H H2/\∃ vs,H2 l=some (.lst vs)/\Paired (fun x r=>RwN H H2 x r/\x≠.ref l) vs ((List.range i).map g),⟨n,by simp,yP _,⟨none,rfl⟩,az (Same.refl _) hl0,[],a9,.nil⟩,?_⟩
 rintro i m σ' H2 ⟨rfl,hi,⟨o,rfl⟩,e,vs,hl,hp⟩
 by_cases hlt:i<n
 ·refine .inr ⟨hlt,fun x H3 y=>?_⟩
  obtain⟨eH,y⟩:=y
  subst eH
  subst y
  refine⟨fun _=>False,fun v H5=>RwN _ H5 v (g i)/\Same _ H5,fun H4 p4=>p4.elim,fun v H5 ⟨⟨c,ec,hc0,hc⟩,e5⟩=>?_,hs i _ hlt e⟩
  subst ec
  have hlen:vs.length=i:=by have:=Paired.length hp;simpa using this
  have hcl:c≠l:=(ah hl hc0).symm
  refine⟨_,e5 _ _ hl,by rw[hlen];exact yH hi (yH hz (by decide)),_,?_,rfl,hlt,⟨_,rfl⟩,au (e.trans e5) hl0,_,a9,?_⟩
  ·omega
  ·rw[bx]
   refine Paired.snoc' (Paired.mapP hp fun z r ⟨⟨d,h1,h2,h3⟩,h4⟩=>⟨⟨d,h1,h2,?_⟩,h4⟩) ⟨⟨c,rfl,e.free hc0,?_⟩,fun z=>hcl (by cases z;rfl)⟩
   ·subst h1
    rw[af (fun z=>h4 (by rw[z]))]
    exact e5 _ _ h3
   ·rw[af hcl];exact hc
 ·have ei:i=n:=by omega
  subst ei
  exact .inl ⟨yi _,hd l H2 ⟨hl0,vs,hl,Paired.mapP hp fun _ _ z=>z.1⟩ e⟩
end
section
variable (K : PySem.W.Frag){X : Cx}{pos : Pos}
theorem eZ (h:X.K=K:=by rfl):IxR X (rIxL K):=h▸xD
theorem xC (h:X.K=K:=by rfl):IxR X (rIxT K):=h▸ix_tup
theorem c6 {tg l:Expr}{tl:TE} (hl:PE X l tl) (h:X.K=K:=by rfl):PI X tg l (vR K tl):=h▸wY hl
theorem wX {elts:List Expr}{x1:Nat}{tpos:Pos}{e1 e2:Expr}{ta:TA}{p:Pos} (hg:Gl X "zip") (hm:X.mg "zip"=none) (ha:PA X [e1,e2] ta) (h:X.K=K:=by rfl)
  (hs:starEach [e1,e2] X.env=[(false,eval e1 X.env),(false,eval e2 X.env)]:=by rfl) (hs2:starEach [e2] X.env=[(false,eval e2 X.env)]:=by rfl):
  PI X (.Tuple elts x1 tpos) (.Call (.Name "zip" p) [e1,e2] [] pos) (iZip K ta):=h▸pi_zip hg hm ha hs hs2
theorem gT {es:List Expr}{k:Nat}{t:TGs}{n:Nat} (hc:X.calm=true) (hh:PGs X es t) (h:X.K=K:=by rfl)
  (hn:(assignEach es X.env).length=n:=by rfl) (hst:(assignEach es X.env).findIdx? (·.1)=none:=by rfl):PG X (.Tuple es k pos) (qM K n t):=h▸pg_tup hc hh hn hst
theorem gU (h:X.K=K:=by rfl):CallR X (.builtin "len") (fun xs H Q=>∃ p ys,xs=[.ref p]/\(SqL K H p ys\/SqT K H p ys)/\Q (.int ys.length) H):=h▸pA
theorem isiK (h:X.K=K:=by rfl):CallR X (.builtin "isinstance") (fun xs H Q=>∃ x t T b,xs=[x,.ty T]/\jj K H x t/\PySem.W.kitOne K t (.type T)=some b/\Q (.bl b) H):=h▸wo
theorem eK {e:Expr}{f:Str}{ta:TE} (he:PE X e ta) (hb:attributeBase e f X.env (eval e X.env)=eval e X.env) (h:X.K=K:=by rfl):PE X (.Attribute e f pos) (tFld K ta f):=h▸pe_fld he hb
theorem listK (h:X.K=K:=by rfl):CallR X (.type "list") (fun xs H Q=>∃ p ys,xs=[.ref p]/\(SqL K H p ys\/SqT K H p ys)/\∀ l,H l=none->Q (.ref l) (upd H l (.lst ys))):=h▸px
theorem sumK (hc:X.calm=true)(h:X.K=K:=by rfl):CallR X (.builtin "sum") (fun xs H Q=>∃ (p:Addr)(ns:List Int),xs=[.ref p]/\SqL K H p (ns.map V.int)/\Q (.int ns.sum) H):=h▸uN hc
theorem inK (h:X.K=K:=by rfl):OpR X (compareOp .In) (rIn K false):=h▸ue
theorem rX (h:X.K=K:=by rfl):OpR X (compareOp .NotIn) (rIn K true):=h▸oM
theorem bm0K {o:Expr}{to:TE}{name:Str}{apos cpos:Pos}{T id:String}{r:V->List V->Hp->VK->Prop} (pa:PlainAttrs T) (slot:Slot T name id) (hty:typeOf (.builtin id)=pure (.type "method_descriptor")) (hm:MtR X id r) (ho:PE X o to) (h:X.K=K:=by rfl)
  (hbase:attributeBase o name X.env (eval o X.env)=eval o X.env:=by rfl) (hline:(apos.endLine==cpos.line)=true:=by rfl):PE X (.Call (.Attribute o name apos) [] [] cpos) (tBM0 K T r to):=h▸pe_bm0 pa slot hty hm ho hbase hline
theorem bmK {o e:Expr}{es:List Expr}{to:TE}{t:TA}{name:Str}{apos cpos:Pos}{T id:String}{r:V->List V->Hp->VK->Prop} (pa:PlainAttrs T) (slot:Slot T name id) (hty:typeOf (.builtin id)=pure (.type "method_descriptor")) (hm:MtR X id r) (ho:PE X o to) (ha:PA X (e::es) t) (h:X.K=K:=by rfl)
  (hbase:attributeBase o name X.env (eval o X.env)=eval o X.env:=by rfl)
  (hfew:((backTo cpos (starEach (e::es) X.env)).all (fun x=>!x.1)&&(backToKw cpos (keywordEach [] X.env)).all (fun x=>x.1.isSome)
   && decide ((e::es).length+([]:List Keyword).length+(if ([]:List Keyword).isEmpty then 0 else 1)<30))=true:=by rfl)
  (hline:(apos.endLine==cpos.line)=true:=by rfl) (hs:starEach (e::es) X.env=(false,eval e X.env)::starEach es X.env:=by rfl) (hplain:(backTo cpos (starEach es X.env)).any (·.1)=false:=by rfl):
  PE X (.Call (.Attribute o name apos) (e::es) [] cpos) (tBM K T r to t):=h▸pe_bm pa slot hty hm ho ha hbase hfew hline hs hplain
theorem eqLK {α:Type}[DecidableEq α]{R:Hp->V->α->Prop}{k:Nat} (hK:EqK K R k) (hu:X.A.units+(k+1)<cLine) (h:X.K=K:=by rfl):OpR X (compareOp .Eq) (fun x y H Q=>∃ as bs,jK K R H x as/\jK K R H y bs/\Q (.bl (decide (as=bs))) H):=by
 subst h;exact op_eqL hK hu
theorem neLK {α:Type}[DecidableEq α]{R:Hp->V->α->Prop}{k:Nat} (hK:EqK K R k) (hu:X.A.units+(k+1)<cLine) (h:X.K=K:=by rfl):OpR X (compareOp .NotEq) (fun x y H Q=>∃ as bs,jK K R H x as/\jK K R H y bs/\Q (.bl (!decide (as=bs))) H):=by
 subst h;exact op_neL hK hu
end
def tIfJ (c:TT)(t u:TS):TS:=fun D σ H=>∃ J:St->Hp->Prop,(∀ σ' H',J σ' H'->D.nx σ' H')/\c σ H fun b H1=>if b=true then t { D with nx:=J } σ H1 else u { D with nx:=J } σ H1
theorem eE {X:Cx}{pos:Pos}{t u:TS}{c:Expr}{a b:List Stmt}{tc:TT} (hc:PT X c tc) (ha:PSs X a t) (hb:PSs X b u):PS X (.If c a b pos) (tIfJ tc t u):=by
 intro pins s σ H D I h
 obtain⟨J,hJ,h⟩:=h
 refine thn (ba (pos:=pos) hc ha hb pins s σ H { D with nx:=J } I h) fun f s1 q=>?_
 cases f with
 | next=>obtain⟨σ',H',I',q⟩:=q;exact⟨σ',H',I',hJ _ _ q⟩
 | brk=>exact q
 | cont=>exact q
 | ret v=>exact q
section
variable {js : List Nat}{te : TE}{σ : St}{F : Addr -> Hp -> Prop}{H : Hp}
end
section
variable {X : Cx}{es : List Expr}{pos : Pos}{t : TA}
def NewQ (H:Hp)(o:HO)(Q:VK):Prop:=∀ p H2,Same H H2->H p=none->H2 p=some o->Q (.ref p) H2
theorem NewQ.at {H:Hp}{o:HO}{Q:VK} (h:NewQ H o Q) {p:Addr} (hp:H p=none):Q (.ref p) (upd H p o):=h p _ (az (Same.refl _) hp) hp a9
def tTupS (t:TA):TE:=fun σ H Q=>t σ H fun xs H1=>xs.length<=sizeLine/\NewQ H1 (.tup xs) Q
def tLstS (t:TA):TE:=fun σ H Q=>t σ H fun xs H1=>xs.length<=sizeLine/\NewQ H1 (.lst xs) Q
theorem bC {x1}(h:PA X es t):PE X (.Tuple es x1 pos) (tTupS t):=by
 intro pins s σ H Q I hq
 refine wpAny_Tuple_spliced (thn (h pos pins s σ H _ I hq) fun us s1 ⟨xs,H1,I1,r,z,q⟩=>⟨by rw[<- r.length];exact z,?_⟩)
 have hf:H1 s1.heap.objs.size=none:=I1.hok.fresh (yi _)
 refine⟨.ref s1.heap.objs.size,upd H1 s1.heap.objs.size (.tup xs),I1.laid (t':=s1.toks) (fun b u e=>yg _ e) (yi _) ?_,rfl,q.at hf⟩
 exact⟨z,us,r,⟨_,yC _ rfl,rfl,_,rfl⟩⟩
theorem bg (h:PA X es t):PE X (.List es pos) (tLstS t):=by
 intro pins s σ H Q I hq
 refine wpAny_List_spliced (thn (h pos pins s σ H _ I hq) fun us s1 ⟨xs,H1,I1,r,z,q⟩=>⟨by rw[<- r.length];exact z,?_⟩)
 have hf:H1 s1.heap.objs.size=none:=I1.hok.fresh (yi _)
 refine⟨.ref s1.heap.objs.size,upd H1 s1.heap.objs.size (.lst xs),I1.laid (t':=s1.toks) (fun b u e=>yg _ e) (yi _) ?_,rfl,q.at hf⟩
 exact⟨z,us,0,r,yC _ rfl⟩
theorem OpR.imp {f:Value->Value->Sem Value}{r r':R2} (h:OpR X f r) (k:∀ x y H Q,r' x y H Q->r x y H Q):OpR X f r':=fun pins s σ H x y v u Q I rx ry q=>h pins s σ H x y v u Q I rx ry (k _ _ _ _ q)
theorem SlR.imp {r r':V->Option Int->Option Int->Hp->VK->Prop}(h:SlR X r)(k:∀ x l u H Q,r' x l u H Q->r x l u H Q):SlR X r':=fun pins s σ H x v vl vu lo hi sl Q I rx hs pl pu q=>h pins s σ H x v vl vu lo hi sl Q I rx hs pl pu (k _ _ _ _ _ q)
theorem CallR.imp {f:Value}{r r':List V->Hp->VK->Prop} (h:CallR X f r) (k:∀ xs H Q,r' xs H Q->r xs H Q):CallR X f r':=fun pins s σ H xs us Q I rx q=>h pins s σ H xs us Q I rx (k _ _ _ q)
def rCatS:R2:=fun x y H Q=>∃ l b xs zs,x=.ref l/\y=.ref b/\H l=some (.lst xs)/\H b=some (.lst zs)/\xs.length+zs.length<=sizeLine/\NewQ H (.lst (xs++zs)) Q
theorem iZ:OpR X (binaryOp .Add) rCatS:=op_cat.imp fun _ _ _ _ ⟨l,b,xs,zs,h1,h2,h3,h4,h5,q⟩=>⟨l,b,xs,zs,h1,h2,h3,h4,h5,fun _ hp=>q.at hp⟩
def rSlLS (K:PySem.W.Frag):V->Option Int->Option Int->Hp->VK->Prop:=fun x lo hi H Q=>∃ a xs,x=.ref a/\SqL K H a xs/\NewQ H (.lst (jO xs lo hi)) Q
theorem pK (K:PySem.W.Frag)(h:X.K=K:=by rfl):SlR X (rSlLS K):=by
 subst h
 exact sl_list.imp fun _ _ _ _ _ ⟨a,xs,h1,h2,q⟩=>⟨a,xs,h1,h2,fun _ hp=>q.at hp⟩
theorem vI (K:PySem.W.Frag)(h:X.K=K:=by rfl):CallR X (.type "list") (fun xs H Q=>∃ p ys,xs=[.ref p]/\(SqL K H p ys\/SqT K H p ys)/\NewQ H (.lst ys) Q):=
 (listK K h).imp fun _ _ _ ⟨p,ys,h1,h2,q⟩=>⟨p,ys,h1,h2,fun _ hp=>q.at hp⟩
end
theorem iteDN {c A B:Prop}[Decidable c](hc:¬ c)(h:B):if decide c=true then A else B:=by
 rw[if_neg (fun z=>hc (yr z))]
 exact h
theorem je {K:PySem.W.Frag}{H:Hp}{a:Addr}{r:List Int} (h:H a=some (.lst (r.map V.int))):jK K isI H (.ref a) r:=⟨a,_,rfl,SqL.of h,jV r⟩
def hide (l:Addr)(H:Hp):Hp:=fun b=>if b=l then none else H b
theorem cD {l b:Addr}{H:Hp} (h:b≠l):hide l H b=H b:=if_neg h
theorem dq {l:Addr}{H:Hp}:Same (hide l H) H:=fun b o h=>by
 by_cases e:b=l
 ·rw[hide,if_pos e]at h;cases h
 ·rwa [cD e]at h
theorem jL {l:Addr}{H H':Hp} (e:Same H H'):Same (hide l H) (hide l H'):=fun b o h=>by
 by_cases q:b=l
 ·rw[hide,if_pos q]at h;cases h
 ·rw[cD q]at h ⊢;exact e _ _ h
theorem m9 {l:Addr}{H:Hp}{o:HO}:hide l (upd H l o)=hide l H:=by
 funext b
 by_cases q:b=l
 ·rw[hide,hide,if_pos q,if_pos q]
 ·rw[cD q,cD q,af q]
theorem tY {l:Addr}{H H':Hp} (e:Same H H') (h:H l=none):Same H (hide l H'):=fun b o hb=>by
 rw[cD (ah hb h)];exact e _ _ hb
theorem fb {l b:Addr}{H H2:Hp}{o:HO} (hl:H l≠none) (hb:H b=none) (h:H2 b=some o):hide l H2 b=some o:=by
 rw[cD (fun z=>hl (by rw[<- z];exact hb))];exact h
theorem RwN.hide {l:Addr}{H H':Hp}{x:V}{r:List Int} (hl:H l≠none) (h:RwN H H' x r):Rw (L2.hide l H') x r:=let ⟨a,q1,q2,q3⟩:=h;⟨a,q1,fb hl q2 q3⟩
section
variable {js : List Nat}{te : TE}{σ : St}{F : Addr -> Hp -> Prop}{H : Hp}
theorem iK {K:PySem.W.Frag}{a:Addr}{xs:List V} (R:Nat->Hp->V->Prop) (mono:∀ i H H' v,Same H H'->R i H v->R i H' v) (ha:SqL K H a xs) (hz:xs.length<=1000)
  (hs:∀ i x H2,xs[i]?=some x->Same H H2->te (some x::bz σ js) H2 fun v H5=>(∀ l,H l=none->H2 l≠none->R i (hide l H5) v)/\Same H2 H5)
  (hd:∀ l H' vs,H l=none->Same H H'->H' l=some (.lst vs)->vs.length=xs.length->(∀ i v,vs[i]?=some v->R i (hide l H') v)->F l H'):bi 1 js (bd 0) fU te σ F (Itl K a) H:=by
 intro l hl0
 refine⟨fun i m σ' H2=>m=xs.length - i/\i<=xs.length/\(∃ o,σ'=o::bz σ js)/\Same H H2/\∃ vs:List V,vs.length=i/\H2 l=some (.lst vs)/\∀ i v,vs[i]?=some v->R i (hide l H2) v,⟨xs.length,by simp,yP _,⟨none,rfl⟩,az (Same.refl _) hl0,[],rfl,a9,fun i v h=>by simp at h⟩,?_⟩
 rintro i m σ' H2 ⟨rfl,hi,⟨o,rfl⟩,e,vs,hlen,hl,hp⟩
 have q:SqL K H2 a xs:=e.seq ha
 by_cases hlt:i<xs.length
 ·refine .inr ⟨⟨xs,xs[i],q,by simp[hlt]⟩,fun x H3 y=>?_⟩
  obtain⟨eH,y⟩:=y
  subst eH
  have ex:=y xs q
  refine⟨fun _=>False,fun v H5=>(∀ l,H l=none->H3 l≠none->R i (hide l H5) v)/\Same H3 H5,fun H4 p4=>p4.elim,fun v H5 ⟨pv,e5⟩=>?_,hs i x _ ex e⟩
  refine⟨_,e5 _ _ hl,by rw[hlen];exact yH hi (yH hz (by decide)),_,?_,rfl,hlt,⟨_,rfl⟩,au (e.trans e5) hl0,vs++[v],by rw[yu,hlen];rfl,a9,fun j w hj=>?_⟩
  ·omega
  ·rw[m9]
   by_cases c:j<vs.length
   ·rw[yK c]at hj
    exact mono _ _ _ _ (jL e5) (hp j w hj)
   ·rw[yF (by omega)]at hj
    by_cases c2:j - vs.length=0
    ·rw[c2]at hj
     have:v=w:=by simpa using hj
     have ej:j=i:=by omega
     rw[ej,<- this]
     exact pv l hl0 (by rw[hl];exact fun z=>nomatch z)
    ·rw[yo (by simp;omega)]at hj;cases hj
 ·have ei:i=xs.length:=by omega
  subst ei
  exact .inl ⟨⟨xs,q,yi _⟩,hd l H2 vs hl0 e hl hlen hp⟩
end
theorem Paired.take' {α β:Type}{F:α->β->Prop}:∀ {l₁:List α}{l₂:List β} (n:Nat),Paired F l₁ l₂->Paired F (l₁.take n) (l₂.take n)
 | _,_,0,_=>by simpa using Paired.nil
 | _,_,n+1,.nil=>by simpa using Paired.nil
 | _,_,n+1,.cons h t=>by simpa using Paired.cons h (Paired.take' n t)
theorem Paired.drop' {α β:Type}{F:α->β->Prop}:∀ {l₁:List α}{l₂:List β} (n:Nat),Paired F l₁ l₂->Paired F (l₁.drop n) (l₂.drop n)
 | _,_,0,h=>by simpa using h
 | _,_,n+1,.nil=>by simpa using Paired.nil
 | _,_,n+1,.cons h t=>by simpa using Paired.drop' n t
theorem Paired.append' {α β:Type}{F:α->β->Prop}:∀ {l₁ m₁:List α}{l₂ m₂:List β},Paired F l₁ l₂->Paired F m₁ m₂->Paired F (l₁++m₁) (l₂++m₂)
 | _,_,_,_,.nil,q=>q
 | _,_,_,_,.cons h t,q=>.cons h (Paired.append' t q)
theorem Paired.of_at {α β:Type}{F:α->β->Prop}{d:β}:∀ {l₁:List α}{l₂:List β},l₁.length=l₂.length->(∀ (i:Nat)(a:α),l₁[i]?=some a->F a (l₂.getD i d))->Paired F l₁ l₂
 | [],[],_,_=>.nil
 | [],_::_,h,_=>by simp at h
 | _::_,[],h,_=>by simp at h
 | a::l₁,b::l₂,h,k=>.cons (by simpa using k 0 a rfl) (Paired.of_at (by simpa using h) fun i a' e=>by simpa using k (i+1) a' (by simpa using e))
theorem mq (xs:List V)(k:Nat):jO xs none (some (k:Int))=xs.take k:=by
 unfold jO
 rw[HT.sIx_none,HT.sIx_nat,List.drop_zero,Nat.sub_zero]
 rw[List.take_eq_take_iff]
 omega
theorem mr (xs:List V)(k:Nat):jO xs (some (k:Int)) none=xs.drop k:=by
 unfold jO
 rw[HT.sIx_none,HT.sIx_nat]
 rw[zK (by rw[B9];omega)]
 by_cases h:k<=xs.length
 ·rw[Nat.min_eq_left h]
 ·rw[Nat.min_eq_right (by omega),List.drop_eq_nil_of_le (yi _),List.drop_eq_nil_of_le (by omega)]
theorem vN {c A B:Prop}[Decidable c](hc:¬ c)(h:A):if (!decide c)=true then A else B:=by
 rw[yj hc]
 exact bA h
theorem rP {H H2 H5:Hp}{v:V}{r:List Int} (e:Same H H5) (h:Rw H v r\/RwN H2 H5 v r):∀ l,H l=none->H2 l≠none->Rw (hide l H5) v r:=fun l h0 h1=>by
 rcases h with h|h
 ·exact h.mono (tY e h0)
 ·exact h.hide h1
theorem wO {H':Hp}{l:Addr}{vs:List V}{L:List (List Int)} (hl:vs.length=L.length) (h:∀ i v,vs[i]?=some v->Rw (hide l H') v (L.getD i [])):Paired (Rw H') vs L:=Paired.of_at (d:=[]) hl fun i v hi=>(h i v hi).mono dq
section
variable {js : List Nat}{te : TE}{σ : St}{F : Addr -> Hp -> Prop}{H : Hp}
theorem uJ {K:PySem.W.Frag}{a b:Addr}{xs ys:List V} (g:Nat->List Int) (ha:H a=some (.lst xs)) (hb:H b=some (.lst ys)) (hz:xs.length<=1000)
  (hs:∀ i x y T H2,xs[i]?=some x->ys[i]?=some y->Same H H2->H2 T=none->te (some x::some y::bz σ js) (upd H2 T (.tup [x,y])) fun v H5=>RwN H2 H5 v (g i)/\Same H2 H5)
  (hd:∀ l H',TbN H H' l ((List.range (min xs.length ys.length)).map g)->Same H H'->F l H'):bi 2 js (qM K 2 (dM (bd 0) (dM (bd 1) sA))) fU te σ F (Itz K a b) H:=by
 intro l hl0
 refine⟨fun i m σ' H2=>m=min xs.length ys.length - i/\i<=min xs.length ys.length/\(∃ o1 o2,σ'=o1::o2::bz σ js)/\Same H H2/\∃ vs,H2 l=some (.lst vs)/\Paired (fun x r=>RwN H H2 x r/\x≠.ref l) vs ((List.range i).map g),⟨_,rfl,yP _,⟨none,none,rfl⟩,az (Same.refl _) hl0,[],a9,.nil⟩,?_⟩
 rintro i m σ' H2 ⟨rfl,hi,⟨o1,o2,rfl⟩,e,vs,hl,hp⟩
 have q1:SqL K H2 a xs:=SqL.of (e _ _ ha)
 have q2:SqL K H2 b ys:=SqL.of (e _ _ hb)
 by_cases hlt:i<min xs.length ys.length
 ·have l1:i<xs.length:=by omega
  have l2:i<ys.length:=by omega
  refine .inr ⟨⟨xs,ys,xs[i],ys[i],q1,q2,by simp[l1],by simp[l2]⟩,fun v H3 yl=>?_⟩
  obtain⟨T,hT,rfl,x,y,ex,ey,rfl⟩:=yl
  refine⟨T,[x,y],rfl,SqT.of a9,rfl,x,[y],rfl,y,[],rfl,rfl,?_⟩
  refine⟨fun _=>False,fun v H5=>RwN H2 H5 v (g i)/\Same H2 H5,fun H4 p4=>p4.elim,fun v H5 ⟨⟨c,ec,hc0,hc⟩,e5⟩=>?_,hs i x y T H2 (ex xs q1) (ey ys q2) e hT⟩
  subst ec
  have hlen:vs.length=i:=by have:=Paired.length hp;simpa using this
  have hcl:c≠l:=(ah hl hc0).symm
  refine⟨_,e5 _ _ hl,by rw[hlen];exact yA l1 (yM hz (by decide)),_,?_,rfl,hlt,⟨_,_,rfl⟩,au (e.trans e5) hl0,_,a9,?_⟩
  ·omega
  ·rw[bx]
   refine Paired.snoc' (Paired.mapP hp fun z r ⟨⟨d,h1,h2,h3⟩,h4⟩=>⟨⟨d,h1,h2,?_⟩,h4⟩) ⟨⟨c,rfl,e.free hc0,?_⟩,fun z=>hcl (by cases z;rfl)⟩
   ·subst h1
    rw[af (fun z=>h4 (by rw[z]))]
    exact e5 _ _ h3
   ·rw[af hcl];exact hc
 ·have ei:i=min xs.length ys.length:=by omega
  subst ei
  exact .inl ⟨⟨xs,ys,q1,q2,by omega⟩,hd l H2 ⟨hl0,vs,hl,Paired.mapP hp fun _ _ z=>z.1⟩ e⟩
end
end L2
namespace L2
open PySem
def toldC (M:Model)(Γ:Ctx)(p:Pos)(k:Result->Sem Fin)(h:Option Value)(g:Bool)(l:List Value)(e:End)(s':Shared)(s1:Shared):End->Prop
 | .ret r=>Runs M Γ p (k r) [] s1 e s'
 | .susp v g0 l0 k0 c0 p0 fs=>e=.susp v g0 l0 k0 c0 p0 (fs++[.ret k h g l Γ.code p []])/\s'=s1
def toldR (M:Model)(Γ:Ctx)(r:Result)(fs:List Frame)(e:End)(s':Shared)(s1:Shared):Frame->Prop
 | .ret k _ _ _ c1 p1 _=>Runs M (Γ.goto c1) p1 (k r) fs s1 e s'
 | .gen g k _ c1 p1=>Runs M (Γ.goto c1) p1 (k (End.ret r).result) fs (s1.setGen g .finished) e s'
def toldF (M:Model)(Γ:Ctx)(F:Frame)(fs:List Frame)(e:End)(s':Shared)(s1:Shared):End->Prop
 | .ret r=>toldR M Γ r fs e s' s1 F
 | .susp v g0 l0 k0 c0 p0 fs0=>∀ o,splitAtGen (F::fs)=o->match o with
  | none=>e=.susp v g0 l0 k0 c0 p0 (fs0++F::fs)/\s'=s1
  | some (pre,(g,k,c1,p1),rest)=>Runs M (Γ.goto c1) p1 (k (.yielded v)) rest (s1.setGen g (End.susp v g0 l0 k0 c0 p0 (fs0++pre)).genState) e s'
def toldT (M:Model)(Γ:Ctx)(p:Pos)(s:Shared)(e:End)(s':Shared):Sem Fin->Prop
 | .pure (.done f)=>e=.ret (.ok f)/\s'=s
 | .pure (.again c)=>Runs M (Γ.goto c) p (M.den c) [] s e s'
 | .raise x=>e=.ret (.error x)/\s'=s
 | .rule _ k=>Runs M Γ p (k ()) [] s e s'
 | .at p' k=>Runs M Γ p' (k ()) [] s e s'
 | .load a _ k=>∀ o,s.heap.get? a=some o->Runs M Γ p (k o) [] s e s'
 | .update a _ f k=>Runs M Γ p (k ()) [] { s with heap:=s.heap.update a f } e s'
 | .loadIfAlive a k=>Runs M Γ p (k (s.heap.get? a)) [] s e s'
 | .point _ k=>Runs M Γ p (k ()) [] s e s'
 | .alloc o k=>Runs M Γ p (k s.heap.objs.size) [] { s with heap:=s.heap.push o } e s'
 | .fresh k=>Runs M Γ p (k s.toks) [] { s with toks:=s.toks+1 } e s'
 | .ask k=>Runs M Γ p (k ⟨M.prog,M.w.params⟩) [] s e s'
 | .choose src n k=>Runs M Γ p (k (M.w.draws src (s.drawn.get src) % n)) [] { s with drawn:=s.drawn.bump src } e s'
 | .os q _ k=>Runs M Γ p (k (Os.step s.os q).2) [] { s with os:=(Os.step s.os q).1 } e s'
 | .handled own k=>Runs M Γ p (k (if own then Γ.own else Γ.handled)) [] s e s'
 | .genState g k=>∀ st,s.gens[g]?=some st->Runs M Γ p (k st.seen) [] s e s'
 | .stack k=>Runs M Γ p (k ((Γ.code,p)::Γ.below)) [] s e s'
 | .thread k=>Runs M Γ p (k 0) [] s e s'
 | .newGen c k=>Runs M Γ p (k s.gens.size) [] { s with gens:=s.gens.push (.fresh c) } e s'
 | .call c h g l k=>∃ E s1,Runs M (Γ.enter c h p) p (M.den c) [] s E s1/\toldC M Γ p k h g l e s' s1 E
 | .yield v g l k=>e=.susp v g l k Γ.code p []/\s'=s
 | .resume g r _ k=>∃ res s1,Wakes M Γ p g r s res s1/\Runs M Γ p (k res) [] s1 e s'
 | _=>True
def told (M:Model)(Γ:Ctx)(p:Pos)(t:Sem Fin)(s:Shared)(e:End)(s':Shared):List Frame->Prop
 | []=>toldT M Γ p s e s' t
 | F::fs=>∃ E s1,Runs M (Γ.over (F::fs)) p t [] s E s1/\toldF M Γ F fs e s' s1 E
def v1 (M:Model)(Γ:Ctx)(p:Pos)(g:Nat)(s:Shared)(res:GenResult)(s':Shared)(c:Code):Resume->Prop
 | .send .none=>∃ e₁ s₁,Runs M (Γ.wake c p) p (M.den c) [] (s.setGen g .running) e₁ s₁/\e₁.quiet=true/\res=e₁.result/\s'=s₁.setGen g e₁.genState
 | .send _=>res=.justStarted/\s'=s
 | .throw x=>res=.raised x/\s'=s.setGen g .finished
def v2 (M:Model)(Γ:Ctx)(p:Pos)(g:Nat)(r:Resume)(s:Shared)(res:GenResult)(s':Shared):GenState->Prop
 | .fresh c=>v1 M Γ p g s res s' c r
 | .suspended k₀ _ c₀ p₀ fs _=>∃ e₁ s₁,Runs M (Γ.wake c₀ p) p₀ (k₀ r) fs (s.setGen g .running) e₁ s₁/\e₁.quiet=true/\res=e₁.result/\s'=s₁.setGen g e₁.genState
 | .running=>res=.running/\s'=s
 | .finished=>res=.finished/\s'=s
theorem mR {M:Model}{Γ:Ctx}{p:Pos}{g:Nat}{r:Resume}{s:Shared}{res:GenResult}{s':Shared}{st:GenState} (h:s.gens[g]?=some st):Wakes M Γ p g r s res s' ↔ v2 M Γ p g r s res s' st:=by
 unfold Wakes
 rw[h]
 cases st <;> exact Iff.rfl
theorem eP {M:Model}{Γ:Ctx}{p:Pos}{g:Nat}{r:Resume}{s:Shared}{res:GenResult}{s':Shared}{st:GenState} (h:s.gens[g]?=some st) (x:Wakes M Γ p g r s res s'):v2 M Γ p g r s res s' st:=(mR h).1 x
theorem fg {M:Model}{Γ:Ctx}{p:Pos}{g:Nat}{r:Resume}{s:Shared}{res:GenResult}{s':Shared}{st:GenState} (h:s.gens[g]?=some st) (x:v2 M Γ p g r s res s' st):Wakes M Γ p g r s res s':=(mR h).2 x
theorem kO {M:Model}{Γ:Ctx}{p:Pos}{g:Nat}{s:Shared}{res:GenResult}{s':Shared}{c:Code}{v:Value} (hv:v≠.none):v1 M Γ p g s res s' c (.send v) ↔ (res=.justStarted/\s'=s):=by
 unfold v1
 split
 ·next h=>cases h;exact absurd rfl hv
 ·exact Iff.rfl
 ·next h=>cases h
theorem ay {M:Model}{Γ:Ctx}{p:Pos}{t:Sem Fin}{fs:List Frame}{s:Shared}{e:End}{s':Shared} (h:Runs M Γ p t fs s e s'):told M Γ p t s e s' fs:=by
 cases h with
 | done=>exact⟨rfl,rfl⟩
 | raise=>exact⟨rfl,rfl⟩
 | again _ b=>exact b
 | rule b=>exact b
 | «at» b=>exact b
 | load g b=>exact fun o h=>Option.some.inj (g.symm.trans h)▸b
 | update _ b=>exact b
 | loadIfAlive b=>exact b
 | point b=>exact b
 | alloc b=>exact b
 | fresh b=>exact b
 | ask b=>exact b
 | choose _ b=>exact b
 | os b=>exact b
 | handled b=>exact b
 | genState g b=>exact fun o h=>Option.some.inj (g.symm.trans h)▸b
 | stack b=>exact b
 | thread b=>exact b
 | newGen b=>exact b
 | call a b=>exact⟨_,_,a,b⟩
 | callSusp a=>exact⟨_,_,a,rfl,rfl⟩
 | yield=>exact⟨rfl,rfl⟩
 | resumeFresh g a q b=>exact⟨_,_,fg g ⟨_,_,a,q,rfl,rfl⟩,b⟩
 | resumeSuspended g a q b=>exact⟨_,_,fg g ⟨_,_,a,q,rfl,rfl⟩,b⟩
 | resumeJustStarted g nv b=>exact⟨_,_,fg g ((kO nv).2 ⟨rfl,rfl⟩),b⟩
 | resumeThrowFresh g b=>exact⟨_,_,fg g ⟨rfl,rfl⟩,b⟩
 | resumeRunning g b=>exact⟨_,_,fg g ⟨rfl,rfl⟩,b⟩
 | resumeFinished g b=>exact⟨_,_,fg g ⟨rfl,rfl⟩,b⟩
 | segRet a b=>exact⟨_,_,a,b⟩
 | segGen a b=>exact⟨_,_,a,b⟩
 | segSuspOut n a=>exact⟨_,_,a,fun o h=>by rw[n]at h;subst h;exact⟨rfl,rfl⟩⟩
 | segSuspGen n a _ b=>exact⟨_,_,a,fun o h=>by rw[n]at h;subst h;exact b⟩
theorem lh {M:Model}{Γ:Ctx}{p:Pos}{t:Sem Fin}{fs:List Frame}{s:Shared}{e:End}{s':Shared} (h1:Runs M Γ p t fs s e s'):∀ {e2:End}{s2:Shared},Runs M Γ p t fs s e2 s2->e=e2/\s'=s2:=by
 induction h1 with
 | done=>exact fun h2=>⟨(ay h2).1.symm,(ay h2).2.symm⟩
 | raise=>exact fun h2=>⟨(ay h2).1.symm,(ay h2).2.symm⟩
 | again _ _ ih=>exact fun h2=>ih (ay h2)
 | rule _ ih=>exact fun h2=>ih (ay h2)
 | «at» _ ih=>exact fun h2=>ih (ay h2)
 | load g _ ih=>exact fun h2=>ih (ay h2 _ g)
 | update _ _ ih=>exact fun h2=>ih (ay h2)
 | loadIfAlive _ ih=>exact fun h2=>ih (ay h2)
 | point _ ih=>exact fun h2=>ih (ay h2)
 | alloc _ ih=>exact fun h2=>ih (ay h2)
 | fresh _ ih=>exact fun h2=>ih (ay h2)
 | ask _ ih=>exact fun h2=>ih (ay h2)
 | choose _ _ ih=>exact fun h2=>ih (ay h2)
 | os _ ih=>exact fun h2=>ih (ay h2)
 | handled _ ih=>exact fun h2=>ih (ay h2)
 | genState g _ ih=>exact fun h2=>ih (ay h2 _ g)
 | stack _ ih=>exact fun h2=>ih (ay h2)
 | thread _ ih=>exact fun h2=>ih (ay h2)
 | newGen _ ih=>exact fun h2=>ih (ay h2)
 | call _ _ ih1 ih2=>
  intro e2 s2 h2
  obtain⟨E,s1,a,b⟩:=ay h2
  obtain⟨rfl,rfl⟩:=ih1 a
  exact ih2 b
 | callSusp _ ih1=>
  intro e2 s2 h2
  obtain⟨E,s1,a,b⟩:=ay h2
  obtain⟨rfl,rfl⟩:=ih1 a
  exact⟨b.1.symm,b.2.symm⟩
 | yield=>exact fun h2=>⟨(ay h2).1.symm,(ay h2).2.symm⟩
 | resumeFresh g _ _ _ ih1 ih2=>
  intro e2 s2 h2
  obtain⟨res,s1,w,b⟩:=ay h2
  obtain⟨E,t1,a,_,rfl,rfl⟩:=eP g w
  obtain⟨rfl,rfl⟩:=ih1 a
  exact ih2 b
 | resumeSuspended g _ _ _ ih1 ih2=>
  intro e2 s2 h2
  obtain⟨res,s1,w,b⟩:=ay h2
  obtain⟨E,t1,a,_,rfl,rfl⟩:=eP g w
  obtain⟨rfl,rfl⟩:=ih1 a
  exact ih2 b
 | resumeJustStarted g nv _ ih=>
  intro e2 s2 h2
  obtain⟨res,s1,w,b⟩:=ay h2
  obtain⟨rfl,rfl⟩:=(kO nv).1 (eP g w)
  exact ih b
 | resumeThrowFresh g _ ih=>
  intro e2 s2 h2
  obtain⟨res,s1,w,b⟩:=ay h2
  obtain⟨rfl,rfl⟩:=eP g w
  exact ih b
 | resumeRunning g _ ih=>
  intro e2 s2 h2
  obtain⟨res,s1,w,b⟩:=ay h2
  obtain⟨rfl,rfl⟩:=eP g w
  exact ih b
 | resumeFinished g _ ih=>
  intro e2 s2 h2
  obtain⟨res,s1,w,b⟩:=ay h2
  obtain⟨rfl,rfl⟩:=eP g w
  exact ih b
 | segRet _ _ ih1 ih2=>
  intro e2 s2 h2
  obtain⟨E,s1,a,b⟩:=ay h2
  obtain⟨rfl,rfl⟩:=ih1 a
  exact ih2 b
 | segGen _ _ ih1 ih2=>
  intro e2 s2 h2
  obtain⟨E,s1,a,b⟩:=ay h2
  obtain⟨rfl,rfl⟩:=ih1 a
  exact ih2 b
 | segSuspOut n _ ih1=>
  intro e2 s2 h2
  obtain⟨E,s1,a,b⟩:=ay h2
  obtain⟨rfl,rfl⟩:=ih1 a
  exact⟨(b _ n).1.symm,(b _ n).2.symm⟩
 | segSuspGen n _ _ _ ih1 ih2=>
  intro e2 s2 h2
  obtain⟨E,s1,a,b⟩:=ay h2
  obtain⟨rfl,rfl⟩:=ih1 a
  exact ih2 (b _ n)
theorem tQ {M:Model}{Γ:Ctx}{p:Pos}{g:Nat}{r:Resume}{s:Shared}{a b:GenResult}{s1 s2:Shared} (h1:Wakes M Γ p g r s a s1) (h2:Wakes M Γ p g r s b s2):a=b/\s1=s2:=by
 unfold Wakes at h1 h2
 split at h1
 ·exact h1.elim
 ·next c hc=>
  rw[hc]at h2
  cases r with
  | send v=>
   by_cases hv:v=.none
   ·subst hv
    obtain⟨e1,t1,r1,_,rfl,rfl⟩:=h1
    obtain⟨e2,t2,r2,_,rfl,rfl⟩:=h2
    obtain⟨x,y⟩:=lh r1 r2
    subst x y
    exact⟨rfl,rfl⟩
   ·cases v <;> first|exact absurd rfl hv|(obtain⟨rfl,rfl⟩:=h1;obtain⟨rfl,rfl⟩:=h2;exact⟨rfl,rfl⟩)
  | throw x=>
   obtain⟨rfl,rfl⟩:=h1
   obtain⟨rfl,rfl⟩:=h2
   exact⟨rfl,rfl⟩
 ·next k0 l0 c0 p0 fs cl hc=>
  rw[hc]at h2
  obtain⟨e1,t1,r1,_,rfl,rfl⟩:=h1
  obtain⟨e2,t2,r2,_,rfl,rfl⟩:=h2
  obtain⟨x,y⟩:=lh r1 r2
  subst x y
  exact⟨rfl,rfl⟩
 ·next hc=>
  rw[hc]at h2
  obtain⟨rfl,rfl⟩:=h1
  obtain⟨rfl,rfl⟩:=h2
  exact⟨rfl,rfl⟩
 ·next hc=>
  rw[hc]at h2
  obtain⟨rfl,rfl⟩:=h1
  obtain⟨rfl,rfl⟩:=h2
  exact⟨rfl,rfl⟩
theorem wB {α:Type}{M:Model}{Γ:Ctx}{Q Q':α->Pos->Shared->Prop}{E E':Value->Pos->Shared->Prop} (t:Sem α):∀ {p:Pos}{s:Shared},Sem.wp M Γ t Q E p s->Sem.wp M Γ t Q' E' p s->Sem.wp M Γ t (fun a p s=>Q a p s/\Q' a p s) (fun e p s=>E e p s/\E' e p s) p s:=by
 induction t with
 | pure a=>intro p s h1 h2;rw[Sem.wp]at *;exact⟨h1,h2⟩
 | raise e=>intro p s h1 h2;rw[Sem.wp]at *;exact⟨h1,h2⟩
 | load a part k ih=>
  intro p s h1 h2
  rw[Sem.wp]at *
  obtain⟨o,g,h1⟩:=h1
  obtain⟨o2,g2,h2⟩:=h2
  rw[g]at g2
  cases g2
  exact⟨o,g,ih o h1 h2⟩
 | update a part f k ih=>intro p s h1 h2;rw[Sem.wp]at *;exact⟨h1.1,ih () h1.2 h2.2⟩
 | choose src n k ih=>intro p s h1 h2;rw[Sem.wp]at *;exact⟨h1.1,ih _ h1.2 h2.2⟩
 | call c h g l k ih=>
  intro p s h1 h2
  rw[Sem.wp]at *
  obtain⟨r,s1,r1,h1⟩:=h1
  obtain⟨r',s1',r2,h2⟩:=h2
  obtain⟨x,y⟩:=lh r1 r2
  cases x
  cases y
  exact⟨r,s1,r1,ih r h1 h2⟩
 | genState g k ih=>
  intro p s h1 h2
  rw[Sem.wp]at *
  obtain⟨o,g,h1⟩:=h1
  obtain⟨o2,g2,h2⟩:=h2
  rw[g]at g2
  cases g2
  exact⟨o,g,ih _ h1 h2⟩
 | resume g r l k ih=>
  intro p s h1 h2
  rw[Sem.wp]at *
  obtain⟨r,s1,r1,h1⟩:=h1
  obtain⟨r',s1',r2,h2⟩:=h2
  obtain⟨x,y⟩:=tQ r1 r2
  cases x
  cases y
  exact⟨r,s1,r1,ih r h1 h2⟩
 | _=>
  intro p s h1 h2
  rw[Sem.wp]at *
  first
   | exact h1.elim
   | (rename_i ih;exact ih _ h1 h2)
theorem fh {α:Type}{M:Model}{A:Around}{t:Sem α}{Q Q':α->Shared->Prop}{E E':Value->Shared->Prop}{s:Shared} (h1:wpAny M A t Q E s) (h2:wpAny M A t Q' E' s):wpAny M A t (fun a s=>Q a s/\Q' a s) (fun e s=>E e s/\E' e s) s:=
 fun Γ p hΓ=>wB t (h1 Γ p hΓ) (h2 Γ p hΓ)
theorem k8 (f:Array Value->Array Value)(o:Obj):(Obj.mapFields f o).dict=o.dict:=by
 unfold Obj.mapFields
 split <;> rfl
def eO (h:Heap)(e:Addr)(od:Option Addr):Prop:=∃ oe vs,h.get? e=some oe/\oe.data=.fields vs/\oe.dict=od/\vs[2]?=some .none
section
variable {M : Model}{A : Around}{E : Value -> Shared -> Prop}{s : Shared}{base : Heap}{env : Env}{outer : List Env}{L e : Addr}{oe : Obj}{vs : Array Value}
theorem jY {od:Option Addr}{T:Addr}{oT:Obj}{ts:Array Value} (he:s.heap.get? e=some oe) (hd:oe.data=.fields vs) (h1:vs[1]?=some (.ref T)) (ne:T≠e) (hT:s.heap.get? T=some oT) (hdT:oT.data=.fields ts) (h3:3<ts.size) (ho:oe.dict=od) (h2:vs[2]?=some .none):
  wpAny M A (setFlight (.ref e) none) (fun _ s'=>eO s'.heap e od) E s:=by
 unfold setFlight
 refine yc (Bo he hd h1 ?_)
 rw[if_pos (by simp)]
 refine AA hT hdT h3 ⟨oe,vs,?_,hd,ho,h2⟩
 rw[zg _ _ ne]
 exact he
theorem mi {head:Value}{hadNext:Bool} (hfr:A.frames=some (env::outer)) (hl:s.heap.FunFrames base (env::outer)) (hf:env.frame=some L) (he:s.heap.get? e=some oe) (hd:oe.data=.fields vs) (hz:1<vs.size) (h2:vs[2]?=some .none):
  wpAny M A (do let a <- frameOf env;let pl <- entryPlaceOf L hadNext;let b <- EntryCells.newEntry head a .none (rawInt L) .none pl;setField (.ref e) 1 b) (fun _ s'=>wpAny M A (setFlight (.ref e) none) (fun _ s2=>eO s2.heap e oe.dict) E s') E s:=by
 have out:e∉(env::outer).filterMap (·.frame):=fun hm=>by
  obtain⟨_,o,ho,nf⟩:=hl.mem hm
  rw[he]at ho
  cases ho
  exact nf vs hd
 refine yc (wpAny_frameOf_fun hfr hl hf fun h1 k1=>yc (wpAny_entryPlaceOf fun pl hpl=>?_))
 have he1:h1.get? e=some oe:=(k1.2.1 e out).trans he
 unfold EntryCells.newEntry newFields
 refine yc (zZ ?_ (hpl.sizeOk5 _ _ _ _ _))
 have ne:h1.objs.size≠e:=Bj (yt he1)
 refine AA (yg _ he1) hd hz ?_
 have hd2:=Bl hd (·.setIfInBounds 1 (Value.ref h1.objs.size))
 refine jY (zP _ (yg _ he1) (Obj.isFreed_of_fields hd2)) hd2 (T:=h1.objs.size) (by simp[hz]) ne ((zg _ _ (Ne.symm ne)).trans (yC h1 rfl)) rfl ?_ (k8 _ _) (by simpa [Array.getElem?_setIfInBounds] using h2)
 simp only[yx,yu,yY,Au]
 omega
theorem mf (hfr:A.frames=some (env::outer))(hl:s.heap.FunFrames base (env::outer))(hf:env.frame=some L)(he:s.heap.get? e=some oe)(hd:oe.data=.fields vs)(h1:vs[1]?=some .none)(h2:vs[2]?=some .none):
  wpAny M A (leaving env (.ref e)) (fun _ s'=>eO s'.heap e oe.dict) E s:=by
 unfold leaving noteFrame
 simp only[hf]
 refine yc (yc (Bo he hd h1 ?_))
 rw[if_neg (by decide)]
 exact mi hfr hl hf he hd (zN.mp h1).1 h2
theorem uo {cls a0:Value}{od:Option Addr} (hfr:A.frames=some (env::outer)) (hl:s.heap.FunFrames base (env::outer)) (hf:env.frame=some L) (ht:s.heap.TracedW base e cls a0) (ho:eO s.heap e od) (hen:base.get? e=none):
  wpAny M A (leaving env (.ref e)) (fun _ s'=>eO s'.heap e od) E s:=by
 obtain⟨oe,vs,T,oT,ts,he,_,hd,h1,hnT,ne,hT,hdT,h3⟩:=ht
 obtain⟨oe2,vs2,he2,hd2',ho,h2⟩:=ho
 rw[he]at he2
 cases he2
 rw[hd]at hd2'
 cases hd2'
 unfold leaving noteFrame
 simp only[hf]
 refine yc (yc (Bo he hd h1 ?_))
 rw[if_pos (by simp)]
 refine yc (Bo hT hdT h3 ?_)
 rw[if_neg (by simp[rawInt])]
 refine yc (AA hT hdT (zN.mp h3).1 ?_)
 have oth:∀ b,b≠T->(s.heap.update T (Obj.mapFields (·.setIfInBounds 3 Value.none))).get? b=s.heap.get? b:=fun b hb=>zg _ _ (Ne.symm hb)
 have:=mi (M:=M) (A:=A) (E:=E) (s:={ s with heap:=s.heap.update T (Obj.mapFields (·.setIfInBounds 3 Value.none)) }) (base:=base) (head:=.ref T) (hadNext:=true) hfr (hl.of_keeps fun b o hb nf=>⟨o,(oth b (fun z=>by rw[z,hT]at hb;cases hb;exact nf ts hdT)).trans hb,rfl⟩) hf ((oth e (Ne.symm ne)).trans he) hd (zN.mp h1).1 h2
 rw[ho]at this
 exact this
theorem um {cls a0:Value}{od:Option Addr} (hfr:A.frames=some (env::outer)) (hl:s.heap.FunFrames base (env::outer)) (hf:env.frame=some L) (ht:s.heap.TracedW base e cls a0) (ho:eO s.heap e od):
  wpAny M A (noteFrame (.ref e) env) (fun _ s'=>eO s'.heap e od) E s:=by
 obtain⟨oe,vs,T,oT,ts,he,_,hd,h1,hnT,ne,hT,hdT,h3⟩:=ht
 obtain⟨oe2,vs2,he2,hd2',ho,h2⟩:=ho
 rw[he]at he2
 cases he2
 rw[hd]at hd2'
 cases hd2'
 unfold noteFrame
 simp only[hf]
 refine yc (Bo he hd h1 ?_)
 rw[if_pos (by simp)]
 refine yc (Bo hT hdT h3 ?_)
 rw[if_neg (by simp[rawInt])]
 refine yc (AA hT hdT (zN.mp h3).1 ?_)
 have oth:∀ b,b≠T->(s.heap.update T (Obj.mapFields (·.setIfInBounds 3 Value.none))).get? b=s.heap.get? b:=fun b hb=>zg _ _ (Ne.symm hb)
 have hl2:=hl.of_keeps (h':=s.heap.update T (Obj.mapFields (·.setIfInBounds 3 Value.none))) fun b o hb nf=>⟨o,(oth b (fun z=>by rw[z,hT]at hb;cases hb;exact nf ts hdT)).trans hb,rfl⟩
 have he2:=(oth e (Ne.symm ne)).trans he
 have out:e∉(env::outer).filterMap (·.frame):=fun hm=>by
  obtain⟨_,o,ho,nf⟩:=hl2.mem hm
  rw[he2]at ho
  cases ho
  exact nf vs hd
 refine yc (wpAny_frameOf_fun hfr hl2 hf fun h1' k1=>yc (wpAny_entryPlaceOf fun pl hpl=>?_))
 have he1:h1'.get? e=some oe:=(k1.2.1 e out).trans he2
 unfold EntryCells.newEntry newFields
 refine yc (zZ ?_ (hpl.sizeOk5 _ _ _ _ _))
 refine AA (yg _ he1) hd (zN.mp h1).1 ?_
 have hd2:=Bl hd (·.setIfInBounds 1 (Value.ref h1'.objs.size))
 exact⟨_,_,zP _ (yg _ he1) (Obj.isFreed_of_fields hd2),hd2,(k8 _ _).trans ho,by simpa [Array.getElem?_setIfInBounds] using h2⟩
theorem nw {cls a0 fl:Value}{od:Option Addr} (ht:s.heap.TracedAtW base e cls a0 fl) (ho:eO s.heap e od):wpAny M A (setFlight (.ref e) none) (fun _ s'=>eO s'.heap e od) E s:=by
 obtain⟨oe,vs,T,oT,ts,he,_,hd,h1,hnT,ne,hT,hdT,h3⟩:=ht
 obtain⟨oe2,vs2,he2,hd2',ho,h2⟩:=ho
 rw[he]at he2
 cases he2
 rw[hd]at hd2'
 cases hd2'
 exact jY he hd h1 ne hT hdT (zN.mp h3).1 ho h2
end
end L2
namespace L2
open PySem PySem.Spec PyProof.Rows
def CXE (P:Program)(w:World):CXT:=fun outer H s E e s'=>∃ (ea:Addr)(cls a0:Value)(B:Heap)(H':Hp)(od:Option Addr),eO s'.heap ea od/\e=.ref ea/\s'.os=s.os/\AllBare s'.gens/\Un (frs outer) [] H H' s.heap s'.heap/\HOk P w H' s'.heap/\H' ea=none/\s.heap.get? ea=none/\
 Heap.FlyingW B outer ea cls a0 s'.heap/\(∀ b o,s'.heap.get? b=some o->b∉frs outer->B.get? b=none->s.heap.get? b=none/\H' b=none)/\E cls od H'
theorem cW {P:Program}{w:World}{H:Hp}{h:Heap}{a:Addr}{o:HO} (x:ObjOk P w H h a o):∃ ob,h.get? a=some ob:=by
 cases o with
 | lst xs=>obtain⟨_,_,_,_,e⟩:=x;exact⟨_,e⟩
 | tup xs=>obtain⟨_,_,_,ob,e,_⟩:=x;exact⟨_,e⟩
 | dK kvs=>obtain⟨_,_,_,_,o,_,_,e,_⟩:=x;exact⟨_,e⟩
 | dT kvs=>obtain⟨_,_,_,_,o,_,_,e,_⟩:=x;exact⟨_,e⟩
 | set S n=>obtain⟨o,_,_,_,e,_⟩:=x;exact⟨_,e⟩
 | ins C dx fs=>obtain⟨_,_,_,e,_⟩:=x;exact⟨_,e⟩
 | own y=>obtain⟨_,e⟩:=x;exact⟨_,e⟩
 | xd fs=>obtain⟨_,⟨_,_,_,e,_⟩,_⟩:=x;exact⟨_,e⟩
 | rng lo hi=>obtain⟨_,_,_,e⟩:=x;exact⟨_,e⟩
 | frz ob u=>obtain⟨e,_⟩:=x;exact⟨_,e⟩
 | tbl ps=>exact⟨_,(show h.get? a=some _ from x)⟩
 | met f y=>exact⟨_,(show h.get? a=some _ from x)⟩
 | ext φ=>obtain⟨_,⟨_,e⟩,_⟩:=x;exact⟨_,e⟩
theorem un_fly {P:Program}{w:World}{fs:List Addr}{H H':Hp}{h h1 h2 B:Heap} (u:Un fs [] H H' h h1) (hok:HOk P w H' h1) (hB1:B.StaysIn h1) (hB2:B.StaysIn h2) (up:h1.UpToSlots h2)
  (hfr:∀ b∈fs,∃ o,h1.get? b=some o/\∀ vs,o.data≠.fields vs) (frf:∀ b∈fs,H' b=none)
  (old:∀ b o,h1.get? b=some o->b∉fs->B.get? b=none->h.get? b=none/\H' b=none):
  Un fs [] H H' h h2/\HOk P w H' h2/\∀ b o,h2.get? b=some o->b∉fs->B.get? b=none->h.get? b=none/\H' b=none:=by
 have in1:∀ b o,h1.get? b=some o->b∉fs->(h.get? b≠none\/H' b≠none)->h2.get? b=some o:=fun b o e hb hn=>by
  cases q:B.get? b with
  | none=>
   have z:=old b o e hb q
   rcases hn with hn|hn
   ·exact absurd z.1 hn
   ·exact absurd z.2 hn
  | some o2=>
   have:=hB1 b o2 q
   rw[e]at this
   cases this
   exact hB2 b _ q
 have slots:∀ b o,h1.get? b=some o->b∈fs->∃ sl,h2.get? b=some { o with slots:=sl }:=fun b o e hb=>by
  obtain⟨o',e',hd⟩:=hfr b hb
  rw[e]at e'
  cases e'
  exact up b o e hd
 refine⟨⟨fun b o e n hb hx=>?_,fun b o e n hb hx=>?_,u.free,fun b o e hx=>?_,u.tups,u.frzs,u.tbls⟩,fun a v e=>?_,fun b o e hb hB=>⟨?_,?_⟩⟩
 ·exact in1 b o (u.keep b o e n hb hx) hb (.inl (by rw[e];exact fun z=>nomatch z))
 ·obtain⟨sl,e1⟩:=u.slot b o e n hb hx
  obtain⟨sl',e2⟩:=slots b _ e1 hb
  exact⟨sl',e2⟩
 ·obtain⟨o',e1⟩:=u.there b o e hx
  by_cases hb:b∈fs
  ·obtain⟨sl,e2⟩:=slots b o' e1 hb
   exact⟨_,e2⟩
  ·exact⟨o',in1 b o' e1 hb (.inl (by rw[e];exact fun z=>nomatch z))⟩
 ·refine (hok a v e).stay (fun c v' hc q=>in1 c v' q (fun z=>?_) (.inr ?_)) (fun _ q=>q) fun _ _ q=>q
  ·have:=frf c z
   rcases hc with rfl|hc
   ·rw[e]at this;cases this
   ·rw[hc]at this;cases this
  ·rcases hc with rfl|hc
   ·rw[e];exact fun z=>nomatch z
   ·rw[hc];exact fun z=>nomatch z
 ·cases q:h.get? b with
  | none=>rfl
  | some o'=>
   obtain⟨o2,e2⟩:=u.there b o' q (by simp)
   have:=(old b o2 e2 hb hB).1
   rw[q]at this;cases this
 ·cases q:H' b with
  | none=>rfl
  | some v=>
   obtain⟨o2,e2⟩:=cW (hok b v q)
   have:=(old b o2 e2 hb hB).2
   rw[q]at this;cases this
structure Own (X : Cx) : Prop where
  stk : X.stack = X.env :: X.outer
  frm : X.env.frame = some X.env.locals
  exs : X.ex = []
theorem Own.frs {X:Cx}(O:Own X):L2.frs X.stack=X.env.locals::X.fs:=by
 rw[O.stk]
 unfold L2.frs
 rw[Bg,O.frm]
 rfl
theorem kM {X:Cx}{pins:List (Addr×Obj)}{σ:St}{H:Hp}{s:Shared}{h2 B:Heap} (O:Own X) (I:Inv X pins σ H s) (hB1:B.StaysIn s.heap) (hB2:B.StaysIn h2) (up:s.heap.UpToSlots h2)
  (old:∀ b o,s.heap.get? b=some o->b∉frs X.stack->B.get? b=none->X.s₀.heap.get? b=none/\H b=none):
  Un X.fs [] X.H₀ H X.s₀.heap h2/\HOk X.prog X.w H h2/\∀ b o,h2.get? b=some o->b∉X.fs->B.get? b=none->X.s₀.heap.get? b=none/\H b=none:=by
 have neL:∀ b o,X.s₀.heap.get? b=some o->b≠X.env.locals:=fun b o e=>yS (yA (yt e) I.ok.above)
 have nofr:∀ b,b≠X.env.locals->b∉X.fs->b∉frs X.stack:=fun b h1 h2 z=>by
  rw[O.frs]at z
  rcases yB.mp z with z|z
  ·exact h1 z
  ·exact h2 z
 have in1:∀ b o,s.heap.get? b=some o->b∉frs X.stack->(X.s₀.heap.get? b≠none\/H b≠none)->h2.get? b=some o:=fun b o e hb hn=>by
  cases q:B.get? b with
  | none=>
   have z:=old b o e hb q
   rcases hn with hn|hn
   ·exact absurd z.1 hn
   ·exact absurd z.2 hn
  | some o2=>
   have:=hB1 b o2 q
   rw[e]at this
   cases this
   exact hB2 b _ q
 have slots:∀ b o,s.heap.get? b=some o->b∈X.fs->∃ sl,h2.get? b=some { o with slots:=sl }:=fun b o e hb=>by
  obtain⟨_,o',e',hd⟩:=I.funs.mem hb
  rw[e]at e'
  cases e'
  exact up b o e hd
 have nx:∀ b,b∉X.ex:=fun b=>by rw[O.exs];simp
 refine⟨⟨fun b o e n hb hx=>?_,fun b o e n hb hx=>?_,fun b o e n hx=>I.base.free b o e n (nx b),fun b o e hx=>?_,I.base.tups,I.base.frzs,I.base.tbls⟩,fun a v e=>?_,fun b o e hb hB=>⟨?_,?_⟩⟩
 ·exact in1 b o (I.base.keep b o e n hb (nx b)) (nofr b (neL b o e) hb) (.inl (by rw[e];exact fun z=>nomatch z))
 ·obtain⟨sl,e1⟩:=I.base.slot b o e n hb (nx b)
  obtain⟨sl',e2⟩:=slots b _ e1 hb
  exact⟨sl',e2⟩
 ·obtain⟨o',e1⟩:=I.base.there b o e (nx b)
  by_cases hb:b∈X.fs
  ·obtain⟨sl,e2⟩:=slots b o' e1 hb
   exact⟨_,e2⟩
  ·exact⟨o',in1 b o' e1 (nofr b (neL b o e) hb) (.inl (by rw[e];exact fun z=>nomatch z))⟩
 ·refine (I.hok a v e).stay (fun c v' hc q=>in1 c v' q (fun z=>?_) (.inr ?_)) (fun _ q=>q) fun _ _ q=>q
  ·have:=I.stkFree c z
   rcases hc with rfl|hc
   ·rw[e]at this;cases this
   ·rw[hc]at this;cases this
  ·rcases hc with rfl|hc
   ·rw[e];exact fun z=>nomatch z
   ·rw[hc];exact fun z=>nomatch z
 ·cases q:X.s₀.heap.get? b with
  | none=>rfl
  | some o'=>
   obtain⟨o2,e2⟩:=I.base.there b o' q (nx b)
   have:=(old b o2 e2 (nofr b (neL b o' q) hb) hB).1
   rw[q]at this;cases this
 ·cases q:H b with
  | none=>rfl
  | some v=>
   obtain⟨o2,e2⟩:=cW (I.hok b v q)
   have nf:b∉frs X.stack:=fun z=>by rw[I.stkFree b z]at q;cases q
   have:=(old b o2 e2 nf hB).2
   rw[q]at this;cases this
section
variable {X : Cx}{pins : List (Addr×Obj)}{σ : St}{H : Hp}{s s' : Shared}{ea : Addr}{cls : Value}{h' : Heap}{E : XK}{E2 : Value -> Shared -> Prop}
theorem so {vs:List Value}(O:Own X)(I:Inv X pins σ H s)(mk:Heap.MadeExcOf s.heap h' ea cls vs)(h:E cls none H):
  wpAny (model X.prog X.w) X.A (leaving X.env (.ref ea)) (fun _ s''=>CXE X.prog X.w X.outer X.H₀ X.s₀ E (.ref ea) s'') E2 { s with heap:=h' }:=by
 have hin:∀ env∈X.stack,∀ b,env.frame=some b->b∈frs X.stack:=fun env he b hb=>Bm.mpr ⟨env,he,hb⟩
 have hl:s.heap.FunFrames (PySem.W.hideAll s.heap (frs X.stack)) X.stack:=PySem.W.funFrames_hide I.stack hin
 rw[O.stk]at hl
 have hB1:(PySem.W.hideAll s.heap (frs X.stack)).StaysIn s.heap:=fun b o q=>PySem.W.of_hideAll _ q
 have hH:H ea=none:=by
  cases q:H ea with
  | none=>rfl
  | some v=>
   obtain⟨o,e⟩:=cW (I.hok ea v q)
   rw[mk.new]at e;cases e
 obtain⟨t,he,htn,ht⟩:=mk.there
 have hl':h'.FunFrames (PySem.W.hideAll s.heap (frs X.stack)) (X.env::X.outer):=by
  rw[O.stk]at *
  exact hl.of_keeps fun b o hb _=>⟨o,mk.keeps b o hb,rfl⟩
 refine zj (fh (E':=E2) (wpAny_leaves_madeW (E:=E2) (Q:=fun _ s''=>∃ (a0:Value)(B:Heap)(H':Hp),H'=H/\s''.os=X.s₀.os/\AllBare s''.gens/\Un (frs X.outer) [] X.H₀ H' X.s₀.heap s''.heap/\HOk X.prog X.w H' s''.heap/\H' ea=none/\X.s₀.heap.get? ea=none/\
   Heap.FlyingW B X.outer ea cls a0 s''.heap/\(∀ b o,s''.heap.get? b=some o->b∉frs X.outer->B.get? b=none->X.s₀.heap.get? b=none/\H' b=none))
  (s:={ s with heap:=h' }) (base:=PySem.W.hideAll s.heap (frs X.stack)) (by rw[I.ok.frames,O.stk]) O.frm hB1 (by rw[O.stk]at *;exact hl) mk fun h'' t fl tu tn up=>?_)
  (mf (E:=E2) (s:={ s with heap:=h' }) (by rw[I.ok.frames,O.stk]) hl' O.frm he rfl rfl rfl)) (fun _ s'' z=>?_) (fun _ _ z=>z.1)
 ·have up2:s.heap.UpToSlots h'':=(Heap.UpToSlots.of_keeps mk.keeps).trans up
  obtain⟨u,hok,old⟩:=kM O I hB1 fl.1 up2 (fun b o e hb hB=>by
   rw[PySem.W.hideAll_get _ e hb]at hB;cases hB)
  have hs0:X.s₀.heap.get? ea=none:=by
   cases q:X.s₀.heap.get? ea with
   | none=>rfl
   | some o=>
    obtain⟨o',e⟩:=I.base.there ea o q (by rw[O.exs];simp)
    rw[mk.new]at e;cases e
  exact⟨_,_,H,rfl,I.os,I.bare,u,hok,hH,hs0,fl,old⟩
 ·obtain⟨⟨a0,B,H',rfl,z⟩,hd⟩:=z
  exact⟨ea,cls,a0,B,H',none,hd,rfl,z.1,z.2.1,z.2.2.1,z.2.2.2.1,z.2.2.2.2.1,z.2.2.2.2.2.1,z.2.2.2.2.2.2.1,z.2.2.2.2.2.2.2,h⟩
theorem sq {oe:Obj}{vs:Array Value}{a0:Value} (O:Own X) (I:Inv X pins σ H s) (he:s.heap.get? ea=some oe) (hd:oe.data=.fields vs) (h0:vs[0]?=some a0) (h1:vs[1]?=some .none) (h2:vs[2]?=some .none) (hH:H ea=none) (hs0:X.s₀.heap.get? ea=none) (h:E oe.cls oe.dict H):
  wpAny (model X.prog X.w) X.A (leaving X.env (.ref ea)) (fun _ s''=>CXE X.prog X.w X.outer X.H₀ X.s₀ E (.ref ea) s'') E2 s:=by
 have hin:∀ env∈X.stack,∀ b,env.frame=some b->b∈ea::frs X.stack:=fun env he b hb=>yX _ (Bm.mpr ⟨env,he,hb⟩)
 have hl:s.heap.FunFrames (PySem.W.hideAll s.heap (ea::frs X.stack)) X.stack:=PySem.W.funFrames_hide I.stack hin
 have hB1:(PySem.W.hideAll s.heap (ea::frs X.stack)).StaysIn s.heap:=fun b o q=>PySem.W.of_hideAll _ q
 have hB:(PySem.W.hideAll s.heap (ea::frs X.stack)).get? ea=none:=PySem.W.hideAll_none _ (zr ..)
 have hfr:X.A.frames=some (X.env::X.outer):=by rw[I.ok.frames,O.stk]
 have hl2:s.heap.FunFrames (PySem.W.hideAll s.heap (ea::frs X.stack)) (X.env::X.outer):=by rw[O.stk]at hl ⊢;exact hl
 refine zj (fh (E':=E2) (wpAny_leaving_firstW (E:=E2) (Q:=fun _ s''=>∃ (B:Heap),s''.os=X.s₀.os/\AllBare s''.gens/\Un (frs X.outer) [] X.H₀ H X.s₀.heap s''.heap/\HOk X.prog X.w H s''.heap/\
   Heap.FlyingW B X.outer ea oe.cls a0 s''.heap/\(∀ b o,s''.heap.get? b=some o->b∉frs X.outer->B.get? b=none->X.s₀.heap.get? b=none/\H b=none))
  hfr hl2 O.frm he hB1 hB hd h1 h0 fun h'' hL=>?_) (mf (E:=E2) hfr hl2 O.frm he hd h1 h2)) (fun _ s'' z=>?_) (fun _ _ z=>z.1)
 ·obtain⟨k1,⟨_,_,k2⟩,k3,k4⟩:=hL
  obtain⟨u,hok,old⟩:=kM O I hB1 k1 k4 (fun b o e hb hBb=>by
   by_cases hbe:b=ea
   ·rw[hbe];exact⟨hs0,hH⟩
   ·rw[PySem.W.hideAll_get _ e (fun z=>by rcases yB.mp z with z|z;exact hbe z;exact hb z)]at hBb;cases hBb)
  exact⟨_,I.os,I.bare,u,hok,⟨k1,hB,k2,k3⟩,old⟩
 ·obtain⟨⟨B,z⟩,hdi⟩:=z
  exact⟨ea,oe.cls,a0,B,H,oe.dict,hdi,rfl,z.1,z.2.1,z.2.2.1,z.2.2.2.1,hH,hs0,z.2.2.2.2.1,z.2.2.2.2.2,h⟩
theorem vJ {Hc:Hp}{e:Value} (O:Own X) (I:Inv X pins σ Hc s) (h:CXE X.prog X.w X.stack Hc s E e s'):
  wpAny (model X.prog X.w) X.A (leaving X.env e) (fun _ s''=>CXE X.prog X.w X.outer X.H₀ X.s₀ E e s'') E2 s':=by
 obtain⟨ea,cls,a0,B,H',od,di,rfl,os,bare,u,hok,hea,hsc,fl,old,hE⟩:=h
 have I1:Inv X pins σ H' s':=I.call' os u hok bare fun b z=>absurd z (by simp)
 have fl':=fl
 rw[O.stk]at fl'
 have hfr:X.A.frames=some (X.env::X.outer):=by rw[I.ok.frames,O.stk]
 refine zj (fh (E':=E2) (wpAny_leaves_onW (E:=E2) (Q:=fun _ s''=>s''.os=X.s₀.os/\AllBare s''.gens/\Un (frs X.outer) [] X.H₀ H' X.s₀.heap s''.heap/\HOk X.prog X.w H' s''.heap/\
   Heap.FlyingW B X.outer ea cls a0 s''.heap/\(∀ b o,s''.heap.get? b=some o->b∉frs X.outer->B.get? b=none->X.s₀.heap.get? b=none/\H' b=none))
  hfr O.frm fl' fun h'' fl2 up=>?_) (uo (E:=E2) hfr fl'.2.2.1 O.frm fl'.2.2.2 di fl'.2.1)) (fun _ s'' z=>?_) (fun _ _ z=>z.1)
 ·obtain⟨u2,hok2,old2⟩:=kM O I1 fl.1 fl2.1 up (fun b o e hb hB=>by
   obtain⟨z1,z2⟩:=old b o e hb hB
   refine⟨?_,z2⟩
   cases q:X.s₀.heap.get? b with
   | none=>rfl
   | some o'=>
    obtain⟨o2,e2⟩:=I.base.there b o' q (by rw[O.exs];simp)
    rw[z1]at e2;cases e2)
  exact⟨I1.os,I1.bare,u2,hok2,fl2,old2⟩
 ·obtain⟨z,hdi⟩:=z
  have hs0:X.s₀.heap.get? ea=none:=by
   cases q:X.s₀.heap.get? ea with
   | none=>rfl
   | some o=>
    obtain⟨o',e⟩:=I.base.there ea o q (by rw[O.exs];simp)
    rw[hsc]at e;cases e
  exact⟨ea,cls,a0,B,H',od,hdi,rfl,z.1,z.2.1,z.2.2.1,z.2.2.2.1,hea,hs0,z.2.2.2.2.1,z.2.2.2.2.2,hE⟩
end
def gC (X:Cx)(W:St->XK):Prop:=∀ (pins:List (Addr×Obj))(σ:St)(H:Hp)(s:Shared)(e:Value)(s':Shared),Inv X pins σ H s->CXE X.prog X.w X.stack H s (W σ) e s'->X.xe e s'
def tM (X:Cx)(W:St->XK):Prop:=∀ (pins:List (Addr×Obj))(σ:St)(H:Hp)(s:Shared)(h':Heap)(ea:Addr)(cls:Value)(vs:List Value),Inv X pins σ H s->Heap.MadeExcOf s.heap h' ea cls vs->W σ cls none H->X.xe (.ref ea) { s with heap:=h' }
def tN (X:Cx)(W:St->XK):Prop:=∀ (pins:List (Addr×Obj))(σ:St)(H:Hp)(s:Shared)(ea:Addr)(oe:Obj)(vs:Array Value)(a0:Value),Inv X pins σ H s->s.heap.get? ea=some oe->oe.data=.fields vs->vs[0]?=some a0->vs[1]?=some .none->vs[2]?=some .none->H ea=none->X.s₀.heap.get? ea=none->W σ oe.cls oe.dict H->X.xe (.ref ea) s
section
variable {P : Program}{w : World}{K : PySem.W.Frag}{mg : Str -> Option Value}{base : Heap}{N : List Str}{qual : Str}{scope : Scope}{f : Addr}{cd : Value}{A : Around}{outer : List Env}{s : Shared}{H : Hp}{E : XK}
theorem iX {CX:CXT}:Own (kx CX P w K mg base N qual scope f cd A outer s H E):=⟨rfl,rfl,rfl⟩
theorem dI:gC (kx (CXE P w) P w K mg base N qual scope f cd A outer s H E) (fun _=>E):=fun pins σ Hc sc e s' I h=>vJ iX I h
theorem c7:tM (kx (CXE P w) P w K mg base N qual scope f cd A outer s H E) (fun _=>E):=fun pins σ Hc sc h' ea cls vs I mk h=>so iX I mk h
theorem qT:tN (kx (CXE P w) P w K mg base N qual scope f cd A outer s H E) (fun _=>E):=fun pins σ Hc sc ea oe vs a0 I he hd h0 h1 h2 hH hs h=>sq iX I he hd h0 h1 h2 hH hs h
theorem Fun.okX {x:Str}{st:Stmt}{fd:FuncData}{ps:List Str}{k:Nat}{sp:Sp} (F:Fun K x qual st f fd) (S:am N ps (ag st)) (len:∀ vs H Q E,sp vs H Q E->vs.length=ps.length)
  (hbody:∀ (cdv:Value)(A:Around)(outer:List Env)(s:Shared)(H:Hp)(vs:List V)(Q:VK)(E:XK),Room k (A.deeper (envOfC qual (ag st) s.heap.objs.size f cdv))->sp vs H Q E->
   ∃ t,PSs (kx (CXE P w) P w K mg base N qual (ag st) f cdv A outer s H E) (aJ st) t/\t { nx:=fun _ H'=>Q .non H',rt:=Q } (start N vs) H):FnOk P w K mg base (CXE P w) (k+1) f fd ps sp:=by
 obtain⟨oc,od,kV,doc,pm,an,cdv,ct,osl,rfl,lk,hcd⟩:=F.ex
 exact vW lk hcd S len fun A outer s H vs Q E hr hsp=>hbody cdv A outer s H vs Q E hr hsp
end
def DfX (P:Program)(w:World)(K:PySem.W.Frag)(mg:Str->Option Value)(base:Heap)(k:Nat)(x:Str)(ps:List Str)(sp:Sp):Prop:=
 ∃ f fd,mg x=some (.ref f)/\PySem.W.keepIn K (.ref f)=true/\Binds K fd ps []/\FnOk P w K mg base (CXE P w) k f fd ps sp
def DmX (P:Program)(w:World)(K:PySem.W.Frag)(mg:Str->Option Value)(base:Heap)(k:Nat)(C:Addr)(m:Str)(ps:List Str)(sp:Sp):Prop:=
 ∃ f fd,Cls K C/\rh K C m f/\Binds K fd ps []/\FnOk P w K mg base (CXE P w) k f fd ps sp
def DkX (P:Program)(w:World)(K:PySem.W.Frag)(mg:Str->Option Value)(base:Heap)(k:Nat)(x:Str)(C:Addr)(ps:List Str)(sp:Sp):Prop:=
 ∃ f fd,mg x=some (.ref C)/\Mk K C f/\Binds K fd ps []/\FnOk P w K mg base (CXE P w) k f fd ps sp
section
variable {X : Cx}{k : Nat}{C : Addr}{ps : List Str}{sp : Sp}{x m : Str}{p pos apos : Pos}{e o : Expr}{es : List Expr}{ta : TE}{t : TA}{W : St -> XK}{f : Addr}{fd : FuncData}
def tCallX (sp:Sp)(W:St->XK)(t:TA):TE:=fun σ H Q=>t σ H fun vs H1=>sp vs H1 Q (W σ)
def tMethX (C:Addr)(m:Str)(sp:Sp)(W:St->XK)(ta:TE)(t:TA):TE:=fun σ H Q=>ta σ H fun x H1=>∃ a dx fs,x=.ref a/\H1 a=some (.ins C dx fs)/\fs.lookup m=none/\t σ H1 fun vs H2=>sp (x::vs) H2 Q (W σ)
def tMakeX (C:Addr)(sp:Sp)(W:St->XK)(t:TA):TE:=fun σ H Q=>t σ H fun vs H1=>∀ x dx,H1 x=none->H1 dx=none->dx≠x->
 sp (.ref x::vs) (upd (upd H1 dx (.own x)) x (.ins C dx [])) (fun v H2=>v=.non/\Q (.ref x) H2) (W σ)
theorem sU {pins:List (Addr×Obj)}{σ:St}{H:Hp}{s:Shared}{Q:VK}{us:List Value}{vs:List V} (F:FnOk X.prog X.w X.K X.mg X.base (CXE X.prog X.w) k f fd ps sp) (hr:Room k X.A) (hb:Binds X.K fd ps []) (hx:gC X W)
  (I:Inv X pins σ H s) (r:Vals vs us) (h:sp vs H Q (W σ)):wpAny (model X.prog X.w) X.A (call (.ref f) us) (EP X pins σ Q) X.xe s:=by
 have hl:(us++[]).length=ps.length:=by rw[zp,<- r.length];exact F.len _ _ _ _ h
 have hb':=hb s us I.kIn hl
 rw[zp]at hb'
 refine AB (AE (F.run X.A X.stack s H ⟨us,[]⟩ us vs Q (W σ) hr I.env0 hb' r h) fun r s' hq=>?_)
 cases r with
 | error e=>exact hx pins σ H s e s' I hq
 | ok fl=>
  cases fl with
  | ret u=>exact I.after hq
  | next=>exact False.elim hq
  | brk=>exact False.elim hq
  | cont=>exact False.elim hq
theorem qe (hx:gC X W)(D:DfX X.prog X.w X.K X.mg X.base k x ps sp)(hr:Room k X.A)(hg:Gl X x)
  (ha:PA X (e::es) t) (hdb:(x==("__debug__":Str))=false:=by decide) (he:starEach (e::es) X.env=(false,eval e X.env)::starEach es X.env:=by rfl) (hpl:(backTo pos (starEach es X.env)).any (·.1)=false:=by rfl):
  PE X (.Call (.Name x p) (e::es) [] pos) (tCallX sp W t):=by
 obtain⟨f,fd,hm,hk,hb,F⟩:=D
 intro pins s σ H Q I h
 refine zB (cQ I hg hm ?_ hdb)
 refine zR (h₀:=X.base) I.ok.mod.kin hk (thn (ha pos pins s σ H _ I h) fun us s1 ⟨vs,H1,I1,r,q⟩=>⟨I1.kIn,?_⟩) he hpl
 exact sU F hr hb hx I1 r q
theorem bO {pl:Sem Bool}(hx:gC X W)(he:PE X o ta)(D:DmX X.prog X.w X.K X.mg X.base k C m ps sp)(hr:Room k X.A)(ha:PA X (e::es) t)
  (hst:starEach (e::es) X.env=(false,eval e X.env)::starEach es X.env:=by rfl) (hpl:(backTo pos (starEach es X.env)).any (·.1)=false:=by rfl)
  (ht:eval (.Call (.Attribute o m apos) (e::es) [] pos) X.env=(do
   let ov <- eval o X.env
   standAt apos.atName
   let (f,first) <- holding [ov] (getMethod ov m pl)
   callWith pos f first (backTo pos (starEach (e::es) X.env)) (backToKw pos (keywordEach [] X.env))):=by rfl):
  PE X (.Call (.Attribute o m apos) (e::es) [] pos) (tMethX C m sp W ta t):=by
 obtain⟨f,fd,cl,hm,hb,F⟩:=D
 intro pins s σ H Q I h
 refine Aw (pl:=pl) (thn (he pins s σ H _ I h) fun u s1 ⟨x,H1,I1,rx,a,dx,fs,ex,ea,l,q⟩=>?_) ht
 subst ex
 obtain rfl:u=Value.ref a:=rx
 refine dL I1 ea cl hm l ?_
 refine zR (first:=[.ref a]) (h₀:=X.base) I.ok.mod.kin hm.kp (thn (ha pos pins s1 σ H1 _ I1 q) fun us s2 ⟨vs,H2,I2,r,q2⟩=>⟨I2.kIn,?_⟩) hst hpl
 exact sU (us:=.ref a::us) (vs:=.ref a::vs) F hr hb hx I2 (.cons rfl r) q2
theorem u0 {pins:List (Addr×Obj)}{σ:St}{H:Hp}{s:Shared}{Q:VK}{us:List Value}{vs:List V} (M:Mk X.K C f) (F:FnOk X.prog X.w X.K X.mg X.base (CXE X.prog X.w) k f fd ps sp) (hr:Room (k+1) X.A) (hb:Binds X.K fd ps [])
  (hx:gC X W) (I:Inv X pins σ H s) (r:Vals vs us)
  (h:∀ x dx,H x=none->H dx=none->dx≠x->sp (.ref x::vs) (upd (upd H dx (.own x)) x (.ins C dx [])) (fun v H2=>v=.non/\Q (.ref x) H2) (W σ)):
  wpAny (model X.prog X.w) X.A (call (.ref C) us) (EP X pins σ Q) X.xe s:=by
 have hq:=h (s.heap.objs.size+1) s.heap.objs.size (I.hok.fresh (Ao _)) (I.hok.fresh (yi _)) (yS (Nat.lt_succ_self _))
 have I2:=Inv.made (C:=C) I
 have r2:Vals (V.ref (s.heap.objs.size+1)::vs) (Value.ref (s.heap.objs.size+1)::us):=.cons rfl r
 have hl:((Value.ref (s.heap.objs.size+1)::us)++[]).length=ps.length:=by
  rw[zp]
  have e:=r2.length
  rw[F.len _ _ _ _ hq]at e
  exact e.symm
 have hb':=hb _ (Value.ref (s.heap.objs.size+1)::us) I2.kIn hl
 rw[zp]at hb'
 refine AB (qD (f:=f) I.kIn M.makes M.init (zy.mp M.fn) (AE (F.run _ X.stack _ _ ⟨Value.ref (s.heap.objs.size+1)::us,[]⟩ (Value.ref (s.heap.objs.size+1)::us) _ _ (W σ) (hr.make C us [])
  (I2.env0.make C us []) hb' r2 hq) fun r s' hq'=>?_))
 cases r with
 | error e=>exact hx pins σ _ _ e s' I2 hq'
 | ok fl=>
  cases fl with
  | ret u=>
   obtain⟨v,H',I3,rv,ev,q3⟩:=I2.after hq'
   subst ev
   exact⟨rv,⟨V.ref (s.heap.objs.size+1),H',I3,rfl,q3⟩⟩
  | next=>exact False.elim hq'
  | brk=>exact False.elim hq'
  | cont=>exact False.elim hq'
theorem lD (hx:gC X W)(D:DkX X.prog X.w X.K X.mg X.base k x C ps sp)(hr:Room (k+1) X.A)(hg:Gl X x)
  (ha:PA X (e::es) t) (hdb:(x==("__debug__":Str))=false:=by decide) (he:starEach (e::es) X.env=(false,eval e X.env)::starEach es X.env:=by rfl) (hpl:(backTo pos (starEach es X.env)).any (·.1)=false:=by rfl):
  PE X (.Call (.Name x p) (e::es) [] pos) (tMakeX C sp W t):=by
 obtain⟨f,fd,hm,M,hb,F⟩:=D
 intro pins s σ H Q I h
 refine zB (cQ I hg hm ?_ hdb)
 refine zR (h₀:=X.base) I.ok.mod.kin M.kp (thn (ha pos pins s σ H _ I h) fun us s1 ⟨vs,H1,I1,r,q⟩=>⟨I1.kIn,?_⟩) he hpl
 exact u0 M F hr hb hx I1 r q
end
abbrev bQ:List Value:=[.type "ValueError",.type "Exception",.type "BaseException",.type "object"]
theorem xM {K:PySem.W.Frag}{h:Heap}{C:Addr}{bmB:List Value}{newId:String} (X:K.In h) (q:PySem.W.excIn K C bmB newId=true):
  ∃ bm N nm q bs hdct sn sub ab col dd k0 k1 k2 k3 k5 mN,h.get? C=some (excClassObj nm q C N bs bm hdct sn sub ab col dd k0 k1 k2 k3 k5 newId)/\h.Ns N mN/\mN "__init__"=none/\OwnTail h bmB bm:=by
 unfold PySem.W.excIn at q
 split at q
 ·rename_i dd cd sl ho
  split at q
  ·rename_i C' bm k0 k1 k2 k3 n k5 hm hs
   simp only[z7,zy,Bool.not_eq_true']at q
   obtain⟨⟨⟨⟨⟨rfl,rfl⟩,hdel⟩,ht⟩,hok⟩,hni⟩:=q
   obtain⟨nm,bs,mro,ns,qn,hd,sn,sub,ab,col,del⟩:=cd
   dsimp only at hm hdel hok hni
   subst hm hdel
   have hsl:sl=#[k0,k1,k2,k3,some (.builtin n),k5]:=by
    obtain⟨l⟩:=sl
    simp only at hs
    rw[hs]
   subst hsl
   exact⟨bm,ns,nm,qn,bs,hd,sn,sub,ab,col,dd,k0,k1,k2,k3,k5,_,X _ _ ho,.of_isNs (PySem.W.isNs_of_in X hok),PySem.W.nsMap_none_of_in X hok hni,PySem.W.tail_of_in X ht⟩
  ·cases q
 ·cases q
def tRaise (W:St->XK)(C:Addr):TS:=fun _ σ H=>W σ (.ref C) none H
theorem bI {X:Cx}{W:St->XK}{x:Str}{C:Addr}{np cpos pos:Pos} (hc:X.calm=true) (hw:tM X W) (hg:Gl X x) (hm:X.mg x=some (.ref C)) (q:PySem.W.excIn X.K C bQ "ValueError.__new__"=true)
  (hdb:(x==("__debug__":Str))=false:=by decide):PS X (.Raise (some (.Call (.Name x np) [] [] cpos)) none pos) (tRaise W C):=by
 intro pins s σ H D I h
 obtain⟨tl,N,nm,qn,bs,hdct,sn,sub,ab,col,dd,k0,k1,k2,k3,k5,mN,hC,hN,hni,T⟩:=xM I.kIn q
 refine wpAny_Raise_call_subT (C:=C) (nm:=nm) (q:=qn) (N:=N) (bs:=bs) (bm:=tl) (hdct:=hdct) (sn:=sn) (sub:=sub) (ab:=ab) (col:=col) (dd:=dd) (k0:=k0) (k1:=k1) (k2:=k2) (k3:=k3) (k5:=k5)
  PySem.F.excBase_ValueError (mN:=mN) (T.hasType PySem.F.excBase_ValueError.hasBase) (I.ok.hd hc) rfl hni (cQ I hg hm ⟨rfl,?_⟩ hdb)
 exact evalArgs_empty ⟨rfl,yP _,hC,hN,T,fun h' e mk=>hw pins σ H s h' e _ _ I mk h⟩
end L2
namespace L2
open PySem PyProof.Rows
def tupO (us:List Value):Obj:={ cls:=.type "tuple",data:=.seq us.toArray }
def xT (C t:Addr):Obj:={ cls:=.ref C,data:=.fields #[.ref t,.none,.none,.none,.bool false,.none] }
def nA (h:Heap)(C:Addr)(us:List Value):Heap:=(h.push (tupO us)).push (xT C h.objs.size)
theorem eX {h:Heap}{C:Addr}{us:List Value}:∀ b o,h.get? b=some o->(nA h C us).get? b=some o:=fun _ _ e=>yg _ (yg _ e)
theorem nz {h:Heap}{C:Addr}{us:List Value}:(nA h C us).get? (h.objs.size+1)=some (xT C h.objs.size):=by
 unfold nA xT tupO
 heap_get
theorem sr {h:Heap}{C:Addr}{us:List Value}:Heap.MadeExcOf h (nA h C us) (h.objs.size+1) (.ref C) us:=
 ⟨eX,Heap.get?_none_of_le (Ao _),h.objs.size,nz,Heap.get?_none_of_le (yi _),yg _ (Heap.get?_push_at rfl rfl)⟩
section
variable {P : Program}{w : World}{A : Around}{E : Value -> Shared -> Prop}{s : Shared}
variable {nm q : Str}{C N fI : Addr}{bs bm tl : List Value}{hd ab : Bool}{sn : List Str}{sub us : List Value}{col : Option Bool}{dd : Option Addr}{k0 k1 k2 k3 k5 : Option Value}{B newId initId : String}{mN : Str -> Option Value}{oI : Obj}
theorem mC {Q:Fin->Shared->Prop}(F:ExcBaseFacts B newId initId bm)(T:OwnTail s.heap bm tl)(hC:s.heap.get? C=some (excClassObj nm q C N bs tl hd sn sub ab col dd k0 k1 k2 k3 k5 newId))(hN:s.heap.Ns N mN)(hI:mN "__init__"=some (.ref fI))(hf:s.heap.get? fI=some oI)(hfc:oI.cls=.type "function")(hz:us.length<=sizeLine)
  (k:∀ h' e,Heap.MadeExcOf s.heap h' e (.ref C) us->wpAny (model P w) A (call (.ref fI) (.ref e::us)) (fun r s'=>r=.none/\Q (.done (.ret (.ref e))) s') E { s with heap:=h' }):
  wpAny (model P w) A (Builtin.«type.__call__» ⟨.ref C::us,[]⟩) Q E s:=by
 obtain⟨h,g,d,t,os⟩:=s
 repeat (first|with_reducible refine wpAny_madeBy_exc hC ?_|with_reducible refine zT hC ?_|wp_step)
 refine codeAny_call_builtin_code (AQ _ F.quiet) (wpAny_check_new_subT F T hC (codeAny_exc_new_subT F T hC ?_ hz))
 show wpAny _ _ _ _ _ ⟨nA h C us,g,d,t,os⟩
 have hC':=eX (C:=C) (us:=us) C _ hC
 have hme:(Value.ref C::tl).contains (.ref C)=true:=by simp
 have hN':(nA h C us).Ns N mN:=by
  obtain⟨o,es,ep,e,r⟩:=hN
  exact⟨o,es,ep,eX _ _ e,r⟩
 have hx:=nz (h:=h) (C:=C) (us:=us)
 unfold xT at hx
 unfold isInstance
 repeat (first|(with_reducible refine wpAny_isSubtype_exc hC' ?_;rw[hme])|with_reducible refine zT hx ?_|wp_step)
 show wpAny _ _ (typeLookup (.ref C) _) _ _ _
 refine wpAny_typeLookup_tail hC' hN' (T.keeps eX) F.mroIs F.init.lookup ?_
 rw[hI]
 refine zu (yc ?_)
 unfold bindSpecial
 refine yc (wpAny_typeOf (T:="function") ⟨_,eX _ _ hf,hfc⟩ ?_)
 rw[if_pos (by decide)]
 refine yp (yc (zj (k _ _ sr) (fun r s' hr=>?_) fun _ _ x=>x))
 obtain⟨rfl,hQ⟩:=hr
 wp_walk
 exact hQ
theorem wn {Q:Value->Shared->Prop}(F:ExcBaseFacts B newId initId bm)(T:OwnTail s.heap bm tl)(hC:s.heap.get? C=some (excClassObj nm q C N bs tl hd sn sub ab col dd k0 k1 k2 k3 k5 newId))(hN:s.heap.Ns N mN)(hI:mN "__init__"=some (.ref fI))(hf:s.heap.get? fI=some oI)(hfc:oI.cls=.type "function")(hz:us.length<=sizeLine)
  (k:∀ h' e,Heap.MadeExcOf s.heap h' e (.ref C) us->wpAny (model P w) (A.under (.builtin "type.__call__" ⟨.ref C::us,[]⟩)) (call (.ref fI) (.ref e::us)) (fun r s'=>r=.none/\Q (.ref e) s') E { s with heap:=h' }):
  wpAny (model P w) A (call (.ref C) us) Q E s:=by
 have f1:=tc_lookup
 have f2:=tc_bind (.ref C)
 have hT:s.TypeIs (.ref C) "type":=⟨_,hC,rfl⟩
 obtain⟨h,g,d,t,os⟩:=s
 refine AB (codeAny_of_tree ?_)
 show wpAny _ _ (callAny (.ref C) _) _ _ _
 repeat (any_goals (first|with_reducible refine zT hC ?_|assumption|wp_step))
 exact⟨rfl,codeAny_call_builtin_at (AQ _ (by decide +kernel)) entry_typeCall (wpAny_check_type_call_sub hC (mC F T hC hN hI hf hfc hz fun h' e mk=>k h' e mk))⟩
end
end L2
namespace L2
open PySem PySem.Spec PySem.Calls PySem.W PyProof.Rows
open PySem.Builtin PySem.Builtin.ObjectAttr
def oO:List Value->Bool
 | []=>false
 | .ref _::r=>oO r
 | v::r=>(v::r)==bQ
theorem uV {l:List Value}(h:(l==bQ)=true):l=bQ:=zy.mp h
theorem mW (self:Value):∀ (l:List Value),oO l=true->refuseLoop self "__setattr__" l=pure ()
 | [],e=>by cases e
 | v::r,e=>by
  cases v
  case ref c=>rw[refuseLoop_ref];exact mW self r e
  all_goals
   have e':=uV e
   rw[e']
   exact F.store_ValueError.passes self
theorem uW:∀ (l:List Value),oO l=true->l.contains (.type "object")=true
 | [],e=>by cases e
 | v::r,e=>by
  cases v
  case ref c=>rw[List.contains_cons,uW r e,Bool.or_true]
  all_goals
   have e':=uV e
   rw[e']
   decide
def pf (K:Frag)(C:Addr):Bool:=(clsIn K C).any fun cd=>oO cd.mro
section
variable {prog : Program}{w : World}{A : Around}{s : Shared}{K : Frag}{x C : Addr}{R : Result -> Shared -> Prop}
theorem xg {ox:Obj}{vs:Array Value}{name:Str}{tk:Tok}{v:Value} (X:K.In s.heap) (hx:s.heap.get? x=some ox) (hcl:ox.cls=.ref C) (hdat:ox.data=.fields vs) (hdn:ox.dict=none)
  (hp:pf K C=true) (ht:takerIn K C name=some none) (hh:hasDictIn K C=true)
  (h:∀ h' tk',h'.get? x=some { ox with dict:=some s.heap.objs.size }->h'.Ns1 s.heap.objs.size (fun y=>if y=name then some v else none)->(∀ b o,b≠x->s.heap.get? b=some o->h'.get? b=some o)->R (.ok (.ret .none)) { s with heap:=h',toks:=tk' }):
  codeAny (model prog w) A (.call (.builtin "object.__setattr__") ⟨[.ref x,.str name tk,v],[]⟩) R s:=by
 have SF:=PySem.F.store_object
 have I:InstAt s.heap x ox C none:=⟨hx,hcl,by unfold notCls;rw[hdat],by rw[hdn];trivial⟩
 obtain⟨cd,hc,ho⟩:=any_some hp
 have ne:cd.mro.isEmpty=false:=by cases q:cd.mro with|nil=>rw[q]at ho;cases ho|cons _ _=>rfl
 have sub:Looks (model prog w) s.heap (isInstance (.ref x) (.type "object")) true:=I.type.andThen (looks_mroIn X (by unfold mroIn;rw[hc,Option.bind_some,if_neg (by rw[ne];decide),uW _ ho]))
 refine AC SF.slot.plain SF.entry (@check_slot (model prog w) _ _ s "object.__setattr__" "object" "__setattr__" (.ref x) [.str name tk,v] [] _ SF.kind SF.split sub (SF.args (.ref x) (.str name tk) v) ?_)
 obtain⟨attr,ha,hr⟩:=Option.bind_eq_some_iff.mp ht
 have hm:Looks (model prog w) s.heap (mroOf (.ref C)) cd.mro:=(looks_clsIn X hc).andThen .now
 have L3:Looks (model prog w) s.heap (storeTaker? attr) none:=by
  cases attr with
  | none=>exact .now
  | some a=>
   obtain⟨b,hb,e⟩:=yG.mp hr
   refine (looks_takesIn X hb).andThen ?_
   cases b with
   | true=>cases e
   | false=>exact .now
 rw[osa_eq,refuse_eq]
 refine yc (yc (I.type.here (yc (hm.here ?_))))
 rw[mW _ _ ho]
 refine yp (yc (I.type.here (yc ((Bi X ha).here (yc (L3.here ?_))))))
 obtain⟨cd2,hc2,hd'⟩:=any_some hh
 obtain⟨hp0,g,d,t,os⟩:=s
 obtain⟨oc,odi,oda,osl⟩:=ox
 dsimp only at hcl hdat hdn
 subst hcl hdat hdn
 refine yc (yp (yc (yc (wpAny_loadPart hx (yc ((looks_clsIn X hc2).here ?_))))))
 rw[hd']
 have hx₁:(hp0.push { cls:=.type "dict",data:=.dict #[] }).get? x=some { cls:=.ref C,data:=.fields vs,slots:=osl }:=yg _ hx
 have hxs:x≠hp0.objs.size:=yS (yt hx)
 refine yc (wpAny_alloc' ?_)
 refine yc (wpAny_update' hx₁ ?_)
 refine yp ?_
 have hgd:((hp0.push { cls:=.type "dict",data:=.dict #[] }).update x fun o=>{ cls:=o.cls,dict:=some hp0.objs.size,data:=o.data,slots:=o.slots }).get? hp0.objs.size
   = some { cls:=.type "dict",data:=.dict #[] }:=
  (Heap.get?_update_ne _ _ _ _ hxs.symm).trans (Heap.get?_push_at rfl rfl)
 have hnd:((hp0.push { cls:=.type "dict",data:=.dict #[] }).update x fun o=>{ cls:=o.cls,dict:=some hp0.objs.size,data:=o.data,slots:=o.slots }).Ns hp0.objs.size (fun _=>none):=
  ⟨_,#[],_,hgd,rfl,fun e he=>absurd he (by simp),fun _=>rfl⟩
 show wpAny _ _ (storeInDict hp0.objs.size (.str name tk) name v) _ _ _
 unfold storeInDict newKeyGuard
 refine yc (yp (yc (wpAny_nsSet1 (Heap.Ns1.of_empty hnd) fun h' hn' hs=>?_)))
 obtain⟨oD,esD,epD,hoD,hdD,hcD⟩:=hn'.count (Within.cons name v Within.nil)
 refine yc (wpAny_lookBehind hoD (by rw[hdD];exact pastItsLine_dict (yM hcD (by rw[yY,Au,sizeLine_eq];omega))) ?_)
 refine yp (h h' _ ?_ hn' fun b ob hbx hb=>?_)
 ·exact (hs.2 x hxs).trans (zP _ hx₁ rfl)
 ·exact (hs.2 b (yS (yt hb))).trans ((Heap.get?_update_ne _ _ _ _ hbx).trans (yg _ hb))
end
end L2
namespace L2
open PySem PySem.Spec PySem.Calls PySem.W PyProof.Rows
def nK (ea C:Addr)(od:Option Addr)(h:Heap):Prop:=∃ o vs a0,h.get? ea=some o/\o.cls=.ref C/\o.data=.fields vs/\vs[0]?=some a0/\vs[1]?=some .none/\o.dict=od/\vs[2]?=some .none/\4<vs.size
def sB (ea C:Addr):HO:=.ext (nK ea C none)
def uD (ea C dx:Addr):HO:=.ext (nK ea C (some dx))
theorem vX {P:Program}{w:World}{H:Hp}{h:Heap}{ea C:Addr}{od:Option Addr} (x:nK ea C od h):ObjOk P w H h ea (.ext (nK ea C od)):=by
 obtain⟨o,vs,a0,ho,r⟩:=id x
 exact⟨x,⟨o,ho⟩,fun h1 h2 ⟨o1,vs1,a1,q1,q2⟩ k=>⟨o1,vs1,a1,k o1 q1,q2⟩⟩
theorem gR {l:Addr}{H:Hp}:hide l H l=none:=if_pos rfl
structure y6 (K : Frag) (C : Addr) (f : Str) : Prop where
  sa : findIn K (.ref C) "__setattr__" = some (some (.builtin "object.__setattr__"))
  ov : pf K C = true
  tk : takerIn K C f = some none
  hd : hasDictIn K C = true
section
variable {X : Cx}{pins : List (Addr×Obj)}{σ : St}{H : Hp}{s : Shared}
theorem wL {A:Around}{E:Value->Shared->Prop}{ea C:Addr}{f:Str}{y:V}{u:Value}{Q:Unit->Shared->Prop} (I:Inv X pins σ H s) (e:H ea=some (sB ea C)) (T:y6 X.K C f) (ry:RelV y u)
  (h:∀ dx s',H dx=none->dx≠ea->Inv X pins σ (upd (upd H dx (.xd [(f,y)])) ea (uD ea C dx)) s'->Q () s'):wpAny (model X.prog X.w) A (setAttr (.ref ea) f u) Q E s:=by
 obtain⟨ox,vs,a0,hx,hc,hd,h0,h1,hdn,h22,h5z⟩:=id (show nK ea C none s.heap from (I.hok ea _ e).1)
 have IA:InstAt s.heap ea ox C none:=⟨hx,hc,by unfold notCls;rw[hd],by rw[hdn];trivial⟩
 refine set_plain I.kIn IA T.sa (xg (s:={ s with toks:=s.toks+1 }) I.kIn hx hc hd hdn T.ov T.tk T.hd fun h' tk' hx' hn' hk=>?_)
 have dn:H s.heap.objs.size=none:=I.hok.fresh (yi _)
 have ne:s.heap.objs.size≠ea:=Bj (yt hx)
 refine h s.heap.objs.size _ dn ne (I.call' (ch:=[]) rfl ?_ ?_ I.bare fun b z=>absurd z (by simp))
 ·have old:∀ b,H b≠none->b≠ea->upd (upd H s.heap.objs.size (.xd [(f,y)])) ea (uD ea C s.heap.objs.size) b=H b:=fun b hb hbe=>by
   rw[af hbe,af (fun z=>hb (by rw[z];exact dn))]
  refine⟨fun b o q n hb hx=>?_,fun b o q n hb hx=>?_,fun b o q n hx=>?_,fun b o q hx=>?_,fun b xs q=>?_,fun b o u q=>?_,fun b ps q=>?_⟩
  ·exact hk b o (fun z=>by rw[z,e]at n;cases n) q
  ·exact⟨o.slots,hk b o (fun z=>by rw[z,e]at n;cases n) q⟩
  ·rw[af (fun z=>by rw[z,e]at n;cases n),af (yS (yt q))]
   exact n
  ·by_cases hb:b=ea
   ·rw[hb];exact⟨_,hx'⟩
   ·exact⟨o,hk b o hb q⟩
  ·rw[old b (by rw[q];exact fun z=>nomatch z) (fun z=>by rw[z,e]at q;cases q)];exact q
  ·rw[old b (by rw[q];exact fun z=>nomatch z) (fun z=>by rw[z,e]at q;cases q)];exact q
  ·exact⟨#[],by rw[old b (by rw[q];exact fun z=>nomatch z) (fun z=>by rw[z,e]at q;cases q)];simpa using q⟩
 ·intro a v q
  by_cases ha:a=ea
  ·rw[ha,a9]at q
   cases q
   rw[ha]
   exact vX ⟨_,vs,a0,hx',hc,hd,h0,h1,rfl,h22,h5z⟩
  ·rw[af ha]at q
   by_cases hb:a=s.heap.objs.size
   ·rw[hb,a9]at q
    cases q
    rw[hb]
    refine⟨_,hn',fun g=>?_⟩
    by_cases hg:g=f
    ·rw[if_pos hg,hg]
     simp only[List.lookup,beq_self_eq_true]
     exact ry
    ·rw[if_neg hg]
     have:(g==f)=false:=by simpa using hg
     simp only[List.lookup,this]
     exact zQ
   ·rw[af hb]at q
    refine (I.hok a v q).stay (fun c w' hc' z=>hk c w' (fun z2=>?_) z) (fun c hc'=>?_) fun c xs hc'=>?_
    ·rcases hc' with hc'|hc'
     ·exact ha (hc'▸z2)
     ·rw[z2,e]at hc';cases hc'
    ·rw[af (fun z=>by rw[z,e]at hc';cases hc'),af (fun z=>by rw[z,dn]at hc';cases hc')];exact hc'
    ·rw[af (fun z=>by rw[z,e]at hc';cases hc'),af (fun z=>by rw[z,dn]at hc';cases hc')];exact hc'
def sFldE (C:Addr)(ta tv:TE)(f:Str):TS:=fun D σ H=>tv σ H fun y H1=>ta σ H1 fun x H2=>∃ ea,x=.ref ea/\H2 ea=some (sB ea C)/\∀ dx,H2 dx=none->dx≠ea->D.nx σ (upd (upd H2 dx (.xd [(f,y)])) ea (uD ea C dx))
theorem wU {o value:Expr}{f:Str}{pos pos':Pos}{ta tv:TE}{C:Addr} (T:y6 X.K C f) (ha:PE X o ta) (hv:PE X value tv) (hs:swapsWith value (some (.Attribute o f pos')) pos.line X.env=pure false):PS X (.Assign [.Attribute o f pos'] value pos) (sFldE C ta tv f):=by
 intro pins s σ H D I h
 refine plainObj_wpAny_Assign_Attribute (thn (hv pins s σ H _ I h) fun u s1 ⟨y,H1,I1,ry,q⟩=>thn (ha pins s1 σ H1 _ I1 q) fun ov s2 ⟨x,H2,I2,rx,ea,ex,he,q2⟩=>?_) hs
 subst ex
 obtain rfl:ov=Value.ref ea:=rx
 exact wL I2 he T ry fun dx s3 h1 h2 I3=>⟨σ,_,I3,q2 dx h1 h2⟩
theorem Inv.untrack {ea:Addr}{φ:Heap->Prop} (I:Inv X pins σ H s) (e:H ea=some (.ext φ)):Inv X pins σ (hide ea H) s:=by
 have hd:∀ b,b≠ea->hide ea H b=H b:=fun b hb=>cD hb
 refine⟨I.ok,I.os,I.bare,⟨I.base.keep,I.base.slot,fun b o q n hx=>?_,I.base.there,fun b xs q=>?_,fun b o u q=>?_,fun b ps q=>?_⟩,I.loc,I.cell,?_,fun x c q=>?_,fun p hp=>?_,fun a v q=>?_,I.len⟩
 ·by_cases hb:b=ea
  ·rw[hb];exact gR
  ·rw[hd b hb];exact I.base.free b o q n hx
 ·have:=I.base.tups b xs q
  rw[hd b (fun z=>by rw[z,e]at this;cases this)];exact this
 ·have:=I.base.frzs b o u q
  rw[hd b (fun z=>by rw[z,e]at this;cases this)];exact this
 ·obtain⟨more,this⟩:=I.base.tbls b ps q
  exact⟨more,by rw[hd b (fun z=>by rw[z,e]at this;cases this)];exact this⟩
 ·by_cases hb:X.env.locals=ea
  ·rw[hb];exact gR
  ·rw[hd _ hb];exact I.free
 ·by_cases hb:c=ea
  ·rw[hb];exact gR
  ·rw[hd _ hb];exact I.freeC x c q
 ·obtain⟨q1,q2,q3⟩:=I.pin p hp
  refine⟨q1,?_,q3⟩
  by_cases hb:p.1=ea
  ·rw[hb];exact gR
  ·rw[hd _ hb];exact q2
 ·have ha:a≠ea:=fun z=>by rw[z,gR]at q;cases q
  rw[hd a ha]at q
  refine (I.hok a v q).stay (fun c v' _ z=>z) (fun c hc=>?_) fun c xs hc=>?_
  ·rw[hd c (fun z=>by rw[z,e]at hc;cases hc)];exact hc
  ·rw[hd c (fun z=>by rw[z,e]at hc;cases hc)];exact hc
end
def sX (K:Frag)(C f:Addr):Bool:=match K.lookup C with
 | some ⟨.type "type",_,.cls cd,sl⟩=>(match cd.mro,sl.toList with
  | .ref C'::bm,[_,_,_,_,some (.builtin n),_]=>C'==C&&n=="ValueError.__new__"&&!cd.hasDel&&tailIn K bQ bm&&nsOkIn K cd.ns&&nsIn K cd.ns "__init__"==some (some (.ref f))
  | _,_=>false)
 | _=>false
theorem rW {K:Frag}{h:Heap}{N:Addr}{mg:Str->Option Value}{n:Str}{v:Value} (X:K.In h) (G:h.Ns N mg) (e:nsIn K N n=some (some v)):mg n=some v:=by
 obtain⟨o,es,ep,ho,hd,_,hf⟩:=G
 unfold nsIn at e
 split at e
 ·rename_i q
  have:=X _ _ q
  rw[this]at ho
  cases ho
  cases hd
  split at e
  ·rename_i he
   cases e
   rw[<- hf]
   unfold nsFind findBy
   rw[<- Array.find?_toList,he]
   rfl
  ·split at e <;> cases e
 ·cases e
theorem sW {K:Frag}{h:Heap}{C f:Addr} (X:K.In h) (q:sX K C f=true):
  ∃ bm N nm q bs hdct sn sub ab col dd k0 k1 k2 k3 k5 mN,K.lookup C=some (excClassObj nm q C N bs bm hdct sn sub ab col dd k0 k1 k2 k3 k5 "ValueError.__new__")/\h.Ns N mN/\mN "__init__"=some (.ref f)/\OwnTail h bQ bm:=by
 unfold sX at q
 split at q
 ·rename_i dd cd sl ho
  split at q
  ·rename_i C' bm k0 k1 k2 k3 n k5 hm hs
   simp only[z7,zy,Bool.not_eq_true']at q
   obtain⟨⟨⟨⟨⟨rfl,rfl⟩,hdel⟩,ht⟩,hok⟩,hni⟩:=q
   obtain⟨nm,bs,mro,ns,qn,hd,sn,sub,ab,col,del⟩:=cd
   dsimp only at hm hdel hok hni
   subst hm hdel
   have hsl:sl=#[k0,k1,k2,k3,some (.builtin "ValueError.__new__"),k5]:=by
    obtain⟨l⟩:=sl
    simp only at hs
    rw[hs]
   subst hsl
   exact⟨bm,ns,nm,qn,bs,hd,sn,sub,ab,col,dd,k0,k1,k2,k3,k5,_,ho,.of_isNs (isNs_of_in X hok),rW X (.of_isNs (isNs_of_in X hok)) hni,tail_of_in X ht⟩
  ·cases q
 ·cases q
structure ExcMk (K : Frag) (C f : Addr) : Prop where
  own : sX K C f = true
  fn : isFn K (.ref f) = true
  kp : keepIn K (.ref C) = true
def DiX (P:Program)(w:World)(K:Frag)(mg:Str->Option Value)(base:Heap)(k:Nat)(x:Str)(C:Addr)(ps:List Str)(sp:Sp):Prop:=
 ∃ f fd,mg x=some (.ref C)/\ExcMk K C f/\Binds K fd ps []/\FnOk P w K mg base CX0 k f fd ps sp
section
variable {M : Model}{A : Around}{E : Value -> Shared -> Prop}{s : Shared}{env : Env}
variable {nm q : Str}{C N : Addr}{bs bm : List Value}{hdct : Bool}{sn : List Str}{sub : List Value}{ab : Bool}{col : Option Bool}{dd : Option Addr}{k0 k1 k2 k3 k5 : Option Value}{newId : String}
theorem mK {x:Sem Value}{Q:Flow->Shared->Prop} (hbase:bm.contains (.type "BaseException")=true) (hh:A.handled=none)
  (h:wpAny M A x (fun v s₁=>∃ e oe vs,v=.ref e/\s₁.heap.get? C=some (excClassObj nm q C N bs bm hdct sn sub ab col dd k0 k1 k2 k3 k5 newId)/\s₁.heap.get? e=some oe/\oe.cls=.ref C/\oe.data=.fields vs/\vs[1]?=some .none/\E (.ref e) s₁) E s):
  wpAny M A (raiseStmt env (some x) none) Q E s:=by
 have hcB:(Value.ref C::bm).contains (.type "BaseException")=true:=by rw[List.contains_cons,hbase,Bool.or_true]
 unfold raiseStmt
 refine yc (zj h (fun v s₁ h₁=>?_) fun _ _ x=>x)
 obtain⟨e,oe,vs,rfl,hC,he,hc,hd,h1,hE⟩:=h₁
 obtain⟨hp,g,d,tk,os⟩:=s₁
 obtain⟨oc,odi,oda,osl⟩:=oe
 dsimp only at hc hd
 subst hc hd
 repeat (first|with_reducible refine zT he ?_|with_reducible refine zT hC ?_|(with_reducible refine wpAny_isSubtype_exc hC ?_;rw[hcB])|wp_step)
 rw[h1]
 refine yp ?_
 rw[if_neg (by decide)]
 exact yp (wpAny_raiseNew_none hh hE)
end
section
variable {X : Cx}{k : Nat}{C : Addr}{ps : List Str}{sp : Sp}{x : Str}{np cpos pos : Pos}{e : Expr}{es : List Expr}{t : TA}{W : St -> XK}
theorem Inv.madeE {pins:List (Addr×Obj)}{σ:St}{H:Hp}{s:Shared}{h':Heap}{ea:Addr}{us:List Value} (I:Inv X pins σ H s) (mk:Heap.MadeExcOf s.heap h' ea (.ref C) us):Inv X pins σ (upd H ea (sB ea C)) { s with heap:=h' }:=by
 have hH:H ea=none:=by
  cases q:H ea with
  | none=>rfl
  | some v=>
   obtain⟨o,e⟩:=cW (I.hok ea v q)
   rw[mk.new]at e;cases e
 obtain⟨t,he,htn,ht⟩:=mk.there
 have up:∀ b o,H b=some o->upd H ea (sB ea C) b=some o:=fun b o q=>by rw[af (ah q hH)];exact q
 refine I.call' (s':={ s with heap:=h' }) (ch:=[]) rfl ⟨fun b o q n hb hx=>mk.keeps b o q,fun b o q n hb hx=>⟨o.slots,mk.keeps b o q⟩,fun b o q n hx=>?_,fun b o q hx=>⟨o,mk.keeps b o q⟩,fun b xs q=>up b _ q,fun b o u q=>up b _ q,fun b ps q=>⟨#[],by rw[up b _ q];simp⟩⟩ (fun a v q=>?_) I.bare fun b z=>absurd z (by simp)
 ·rw[af (fun z=>by rw[z,mk.new]at q;cases q)]
  exact n
 ·by_cases ha:a=ea
  ·rw[ha,a9]at q
   cases q
   rw[ha]
   exact vX ⟨_,_,_,he,rfl,rfl,rfl,rfl,rfl,rfl,by show 4<6;decide⟩
  ·rw[af ha]at q
   exact (I.hok a v q).stay (fun c w' _ z=>mk.keeps c w' z) (fun c hc=>up c _ hc) fun c xs hc=>up c _ hc
def wE (W:St->XK)(C:Addr)(sp:Sp)(t:TA):TS:=fun _ σ H=>t σ H fun vs H1=>vs.length<=sizeLine/\∀ ea,H1 ea=none->
 sp (.ref ea::vs) (upd H1 ea (sB ea C)) (fun v H2=>v=.non/\∃ dx,H2 ea=some (uD ea C dx)/\W σ (.ref C) (some dx) (hide ea H2)) E0
theorem mX (O:Own X)(hc:X.calm=true)(hw:tN X W)(hg:Gl X x)(D:DiX X.prog X.w X.K X.mg X.base k x C ps sp)(hr:Room (k+1) X.A)(ha:PA X (e::es) t)
  (hdb:(x==("__debug__":Str))=false:=by decide) (hst:starEach (e::es) X.env=(false,eval e X.env)::starEach es X.env:=by rfl) (hpl:(backTo cpos (starEach es X.env)).any (·.1)=false:=by rfl):
  PS X (.Raise (some (.Call (.Name x np) (e::es) [] cpos)) none pos) (wE W C sp t):=by
 obtain⟨f,fd,hm,M,hb,F⟩:=D
 intro pins s σ H D' I h
 obtain⟨tl,N,nm,qn,bs,hdct,sn,sub,ab,col,dd,k0,k1,k2,k3,k5,mN,hC,hN,hni,T⟩:=sW I.kIn M.own
 have hbase:=T.hasType PySem.F.excBase_ValueError.hasBase
 have hcall:wpAny (model X.prog X.w) X.A (eval (.Call (.Name x np) (e::es) [] cpos) X.env) (fun v s₃=>∃ e oe vs,v=.ref e/\s₃.heap.get? C=some (excClassObj nm qn C N bs tl hdct sn sub ab col dd k0 k1 k2 k3 k5 "ValueError.__new__")/\s₃.heap.get? e=some oe/\oe.cls=.ref C/\oe.data=.fields vs/\vs[1]?=some .none/\X.xe (.ref e) s₃) X.xe s:=by
  refine zB (cQ I hg hm ?_ hdb)
  refine callWith_K (h₀:=X.base) I.ok.mod.kin M.kp (thn (ha cpos pins s σ H _ I h) fun us s1 ⟨vs,H1,I1,r,hz,q⟩=>⟨I1.kIn,?_⟩) hst hpl
  obtain⟨tl1,N1,nm1,qn1,bs1,hdct1,sn1,sub1,ab1,col1,dd1,l0,l1,l2,l3,l5,mN1,hC1,hN1,hni1,T1⟩:=sW I1.kIn M.own
  obtain⟨of,hof,hofc⟩:=yG.mp (show typeIn X.K (.ref f)=some (.type "function") from zy.mp M.fn)
  refine wn PySem.F.excBase_ValueError T1 (I1.kIn _ _ hC1) hN1 hni1 (I1.kIn _ _ hof) hofc (by show us.length<=sizeLine;rw[<- r.length];exact hz) fun h' ea mk=>?_
  have hea:H1 ea=none:=by
   cases q:H1 ea with
   | none=>rfl
   | some v=>
    obtain⟨o,e⟩:=cW (I1.hok ea v q)
    rw[mk.new]at e;cases e
  have hs0:X.s₀.heap.get? ea=none:=by
   cases q:X.s₀.heap.get? ea with
   | none=>rfl
   | some o=>
    obtain⟨o',e⟩:=I1.base.there ea o q (by rw[O.exs];simp)
    rw[mk.new]at e;cases e
  have I2:=I1.madeE mk
  have hq:=q ea hea
  have r2:Vals (V.ref ea::vs) (Value.ref ea::us):=.cons rfl r
  have hl:((Value.ref ea::us)++[]).length=ps.length:=by
   rw[zp]
   have e:=r2.length
   rw[F.len _ _ _ _ hq]at e
   exact e.symm
  have hb':=hb _ (Value.ref ea::us) I2.kIn hl
  rw[zp]at hb'
  refine AB (AE (F.run _ X.stack _ _ ⟨Value.ref ea::us,[]⟩ (Value.ref ea::us) _ _ E0 (hr.make C us []) (I2.env0.make C us []) hb' r2 hq) fun r s' hq'=>?_)
  cases r with
  | error e=>exact False.elim hq'
  | ok fl=>
   cases fl with
   | ret u=>
    obtain⟨v,H',I3,rv,ev,dx,hM,hW⟩:=I2.after hq'
    subst ev
    refine⟨rv,?_⟩
    obtain⟨oe,ws,a0,he,hcl,hda,h0,h1,hdi,h22,_⟩:=id (show nK ea C (some dx) s'.heap from (I3.hok ea _ hM).1)
    refine⟨ea,oe,ws,rfl,I3.kIn _ _ hC,he,hcl,hda,h1,hw pins σ _ s' ea oe ws a0 (I3.untrack hM) he hda h0 h1 h22 gR hs0 ?_⟩
    rw[hcl,hdi]
    exact hW
   | next=>exact False.elim hq'
   | brk=>exact False.elim hq'
   | cont=>exact False.elim hq'
 rw[arm_exec_Raise]
 exact yc (Bc (mK (C:=C) (nm:=nm) (q:=qn) (N:=N) (bs:=bs) (bm:=tl) (hdct:=hdct) (sn:=sn) (sub:=sub) (ab:=ab) (col:=col) (dd:=dd) (k0:=k0) (k1:=k1) (k2:=k2) (k3:=k3) (k5:=k5) hbase (I.ok.hd hc) (yc (zj hcall (fun v s₃ h₃=>yc (Bc (yp h₃))) fun _ _ x=>x))))
end
end L2
namespace L2
open PySem PySem.Spec PyProof.Rows
def xS (ea:Addr)(cls:Value)(h:Heap):Prop:=∃ o vs,h.get? ea=some o/\o.cls=cls/\o.data=.fields vs/\vs[2]?=some .none
def w4 (ea:Addr)(cls:Value):HO:=.ext (xS ea cls)
def vZ (ea:Addr)(cls:Value)(dx:Addr)(h:Heap):Prop:=∃ o vs,h.get? ea=some o/\o.cls=cls/\o.data=.fields vs/\o.dict=some dx/\vs[2]?=some .none
def sC (ea:Addr)(cls:Value)(dx:Addr):HO:=.ext (vZ ea cls dx)
def vY (ea:Addr)(cls:Value):Option Addr->HO
 | none=>w4 ea cls
 | some dx=>sC ea cls dx
abbrev Cx.more (X:Cx)(pn:List (Addr×Obj)):Cx:={ X with pn:=X.pn++pn }
def Cx.tryX (X:Cx)(pn:List (Addr×Obj))(W:St->XK):Cx:=(X.more pn).wish fun e s'=>∃ pins σ Hc sc,Inv (X.more pn) pins σ Hc sc/\CXE X.prog X.w X.stack Hc sc (W σ) e s'
def Cx.catchX (X:Cx)(ea:Addr)(pn:List (Addr×Obj)):Cx:={ X with A:=X.A.mark (some (.ref ea)),calm:=false,pn:=X.pn++pn,xe:=fun _ _=>False }
theorem on_try {X:Cx}{pn:List (Addr×Obj)}{W:St->XK}:gC (X.tryX pn W) W:=fun pins σ H s e s' I h=>⟨pins,σ,H,s,I.unwish,h⟩
section
variable {X : Cx}{pins pn : List (Addr×Obj)}{σ : St}{H : Hp}{s : Shared}
theorem Inv.toMore (I:Inv X pins σ H s):Inv (X.more pins) [] σ H s:=
 ⟨⟨I.ok.mod,I.ok.kind,I.ok.glob,I.ok.blt,I.ok.above,I.ok.inj,I.ok.has,I.ok.cab,I.ok.hd,I.ok.frames,I.ok.stk,I.ok.exf,I.ok.bs,I.ok.bsz,I.ok.noex,I.ok.exfs,I.ok.funs,I.ok.frf⟩,I.os,I.bare,I.base,I.loc,I.cell,I.free,I.freeC,fun p hp=>I.pin p (by simpa using hp),I.hok,I.len⟩
theorem Inv.ofMore {pins':List (Addr×Obj)}(ok:X.Ok)(I:Inv (X.more pins) pins' σ H s):Inv X pins σ H s:=
 ⟨ok,I.os,I.bare,I.base,I.loc,I.cell,I.free,I.freeC,fun p hp=>I.pin p (z8 _ hp),I.hok,I.len⟩
theorem Inv.toCatch {ea:Addr}{pins':List (Addr×Obj)} (I:Inv (X.more pins) pins' σ H s):Inv (X.catchX ea pins) [] σ H s:=
 ⟨⟨I.ok.mod,I.ok.kind,I.ok.glob,I.ok.blt,I.ok.above,I.ok.inj,I.ok.has,I.ok.cab,(fun z=>nomatch z),I.ok.frames,I.ok.stk,I.ok.exf,I.ok.bs,I.ok.bsz,I.ok.noex,I.ok.exfs,I.ok.funs,I.ok.frf⟩,I.os,I.bare,I.base,I.loc,I.cell,I.free,I.freeC,
  fun p hp=>I.pin p (z8 _ (by simpa using (show p∈(X.pn++pins)++[] from hp))),I.hok,I.len⟩
theorem Inv.ofCatch {ea:Addr}(ok:X.Ok)(I:Inv (X.catchX ea pins) [] σ H s):Inv X pins σ H s:=
 ⟨ok,I.os,I.bare,I.base,I.loc,I.cell,I.free,I.freeC,fun p hp=>I.pin p (z8 _ hp),I.hok,I.len⟩
theorem Inv.trackO {ea:Addr}{ho':HO}{o:Obj}{vs:Array Value} (I:Inv X pins σ H s) (hea:H ea=none) (h0:X.s₀.heap.get? ea=none) (ho:s.heap.get? ea=some o) (hd:o.data=.fields vs) (ok:∀ H2:Hp,ObjOk X.prog X.w H2 s.heap ea ho') (hp:∀ p∈X.pn++pins,p.1≠ea):Inv X pins σ (upd H ea ho') s:=by
 have neL:X.env.locals≠ea:=fun z=>by
  obtain⟨m,⟨o',_,_,ho',hd',_⟩,_⟩:=I.loc
  rw[z,ho]at ho';cases ho';rw[hd']at hd;cases hd
 have neC:∀ x c,X.env.cells.lookup x=some c->c≠ea:=fun x c e z=>by
  obtain⟨v,o',ho',hd'⟩:=I.cell x c e
  rw[z,ho]at ho';cases ho';rw[hd']at hd;cases hd
 have up:∀ {b:Addr}{u:HO},H b=some u->upd H ea ho' b=some u:=fun {b u} e=>by rw[af (ah e hea)];exact e
 refine⟨I.ok,I.os,I.bare,⟨I.base.keep,I.base.slot,fun b o' e n hx'=>?_,I.base.there,fun b xs e=>up (I.base.tups b xs e),fun b ob u e=>up (I.base.frzs b ob u e),fun b ps e=>?_⟩,I.loc,I.cell,?_,fun x c e=>?_,fun p hp'=>?_,fun a u e=>?_,I.len⟩
 ·have:b≠ea:=fun z=>by rw[z,h0]at e;cases e
  rw[af this]
  exact I.base.free b o' e n hx'
 ·obtain⟨more,q⟩:=I.base.tbls b ps e
  exact⟨more,up q⟩
 ·rw[af neL];exact I.free
 ·rw[af (neC x c e)];exact I.freeC x c e
 ·obtain⟨e,n,r⟩:=I.pin p hp'
  exact⟨e,by rw[af (hp p hp')];exact n,r⟩
 ·by_cases ha:a=ea
  ·rw[ha,a9]at e
   cases e
   rw[ha]
   exact ok _
  ·rw[af ha]at e
   exact (I.hok a u e).stay (fun c v _ q=>q) (fun b hb=>up hb) fun b xs hb=>up hb
theorem xQ {P:Program}{w:World}{H:Hp}{h:Heap}{ea:Addr}{cls:Value}{o:Obj}{vs:Array Value} (ho:h.get? ea=some o) (hc:o.cls=cls) (hd:o.data=.fields vs) (h2:vs[2]?=some .none):ObjOk P w H h ea (vY ea cls o.dict):=by
 cases hod:o.dict with
 | none=>exact⟨⟨o,vs,ho,hc,hd,h2⟩,⟨o,ho⟩,fun h1 h2 ⟨o1,vs1,q1,q2,q3⟩ k=>⟨o1,vs1,k o1 q1,q2,q3⟩⟩
 | some dx=>exact⟨⟨o,vs,ho,hc,hd,hod,h2⟩,⟨o,ho⟩,fun h1 h2 ⟨o1,vs1,q1,q2,q3⟩ k=>⟨o1,vs1,k o1 q1,q2,q3⟩⟩
theorem gO {M:Model}{A:Around}{E:Value->Shared->Prop}{i:Nat}{n:Str}{pos:Pos}{Q:Unit->Shared->Prop} (I:Inv X pins σ H s) (hN:X.N.Nodup) (hi:X.N[i]?=some n) (hk:X.env.scope.names.lookup n=some .local)
  (h:∀ s',Inv X pins (σ.set i none) H s'->Q () s'):wpAny M A (do bindName X.env n .none;unbindBehindTheSuite X.env n pos) Q E s:=by
 obtain⟨m,hn,hl⟩:=id I.loc
 have hcls:(X.env.scope.kind==.class || (X.env.scope.kind==.module&&X.env.locals != X.env.globals))=false:=by rw[I.ok.kind];rfl
 have hiσ:i<σ.length:=by rw[I.len];exact (yd.mp hi).1
 have cne:=I.cne
 refine wpAny_nameGoes_keeps hk hn hcls fun h' v hn' hs=>?_
 obtain⟨oL,_,_,hoL,_⟩:=id hn
 have tracked:HOk X.prog X.w H h':=fun b ob e=>by
  refine (I.hok b ob e).stay (fun c w' hc q=>(hs.2 c ?_).trans q) (fun _ q=>q) fun _ _ q=>q
  rintro rfl
  have hfree:=I.free
  rcases hc with rfl|hc
  ·rw[hfree]at e;cases e
  ·rw[hfree]at hc;cases hc
 refine h _ ⟨I.ok,I.os,I.bare,⟨fun b o e n hb hx=>?_,fun b o e n hb hx=>?_,I.base.free,fun b o e hx=>?_,I.base.tups,I.base.frzs,I.base.tbls⟩,⟨_,hn',fun j y v' e1 e2 e3=>?_⟩,fun y c e=>?_,I.free,I.freeC,fun p hp=>?_,tracked,by simpa using I.len⟩
 ·exact (hs.2 b (yS (yA (yt e) I.ok.above))).trans (I.base.keep b o e n hb hx)
 ·obtain⟨sl,e1⟩:=I.base.slot b o e n hb hx
  exact⟨sl,(hs.2 b (yS (yA (yt e) I.ok.above))).trans e1⟩
 ·obtain⟨o',e1⟩:=I.base.there b o e hx
  exact⟨o',(hs.2 b (yS (yA (yt e) I.ok.above))).trans e1⟩
 ·by_cases hj:j=i
  ·subst hj
   rw[List.getElem?_set_self hiσ]at e2
   cases e2
  ·rw[List.getElem?_set_ne (Ne.symm hj)]at e2
   obtain⟨u',r',q⟩:=hl j y v' e1 e2 e3
   refine⟨u',r',?_⟩
   rcases q with⟨k,e⟩|⟨k,c,e,z⟩
   ·refine .inl ⟨k,?_⟩
    have:y≠n:=fun e=>hj (lT hN e1 (e▸hi))
    simp[this,e]
   ·exact .inr ⟨k,c,e,z.sameBut hs (cne y c e)⟩
 ·obtain⟨w',z⟩:=I.cell y c e
  exact⟨w',z.sameBut hs (cne y c e)⟩
 ·obtain⟨e,n,ne,nf,d⟩:=I.pin p hp
  exact⟨(hs.2 p.1 ne).trans e,n,ne,nf,d⟩
end
def tTry (K:PySem.W.Frag)(C:Addr)(i:Nat)(tb:(St->XK)->TS)(th:TS):TS:=fun D σ H=>
 tb (fun σ' cls od H'=>PySem.W.exmOne K cls (.ref C)=some true/\∀ ea,H' ea=none->
  th { D with nx:=fun σ2 H2=>D.nx (σ2.set i none) H2,bk:=fun σ2 H2=>D.bk (σ2.set i none) H2,ct:=fun σ2 H2=>D.ct (σ2.set i none) H2 } (σ'.set i (some (.ref ea))) (upd H' ea (vY ea cls od))) D σ H
theorem ps_try {X:Cx}{body suite:List Stmt}{b₀:Stmt}{x n:Str}{np hpos pos:Pos}{i:Nat}{C:Addr}{tb:(St->XK)->TS}{th:TS} (O:Own X) (hN:X.N.Nodup) (hi:X.N[i]?=some n) (hk:X.env.scope.names.lookup n=some .local)
  (hg:Gl X x) (hm:X.mg x=some (.ref C)) (hb:∀ pn W,PSs (X.tryX pn W) body (tb W)) (hh:∀ ea pn,PSs (X.catchX ea pn) (b₀::suite) th) (hdb:(x==("__debug__":Str))=false:=by decide):
  PS X (.Try body [.ExceptHandler (some (.Name x np)) (some n) (b₀::suite) hpos] [] [] pos) (tTry X.K C i tb th):=by
 intro pins s σ H D I h
 refine wpAny_Try_except ?_
 refine zj (hb pins _ [] s σ H D (I.toMore.wish _) h) (fun f s1 q=>?_) (fun e s1 q=>?_)
 ·cases f with
  | next=>
   obtain⟨σ',H',I',q⟩:=q
   exact Bf ⟨σ',H',Inv.ofMore I.ok I'.unwish,q⟩
  | brk=>obtain⟨σ',H',I',q⟩:=q;exact⟨σ',H',Inv.ofMore I.ok I'.unwish,q⟩
  | cont=>obtain⟨σ',H',I',q⟩:=q;exact⟨σ',H',Inv.ofMore I.ok I'.unwish,q⟩
  | ret u=>obtain⟨v,σ',H',I',r,q⟩:=q;exact⟨v,σ',H',Inv.ofMore I.ok I'.unwish,r,q⟩
 ·obtain⟨pins',σ',Hc,sc,Ic,ea,cls,a0,B,H',od,di,rfl,os,bare,u,hok,hea,hsc,fl,old,hW,hth⟩:=q
  have I1:Inv (X.more pins) pins' σ' H' s1:=Ic.call' os u hok bare fun b z=>absurd z (by simp)
  have fl':=fl
  rw[O.stk]at fl'
  have hfr0:X.A.frames=some (X.env::X.outer):=by rw[I.ok.frames,O.stk]
  refine zj (fh (wpAny_looks_onW (Q:=fun _ s'=>∃ h4,s'={ s1 with heap:=h4 }/\Heap.HeldW B (X.env::X.outer) ea cls a0 X.env.locals h4/\s1.heap.UpToSlots h4) (E:=fun _ _=>False) hfr0 O.frm fl' fun h4 held up4=>⟨h4,rfl,held,up4⟩) (um (E:=fun _ _=>False) hfr0 fl'.2.2.1 O.frm fl'.2.2.2 di)) (fun _ s4 z4=>?_) (fun _ _ z=>z.1.elim)
  obtain⟨⟨h4,rfl,held,up4⟩,d4⟩:=z4
  refine zj (fh (wpAny_landsW (Q:=fun _ s'=>∃ h5,s'={ s1 with heap:=h5 }/\Heap.FlyingW B (X.env::X.outer) ea cls a0 h5/\h4.UpToSlots h5) (E:=fun _ _=>False) held fun h5 fl5 up5=>⟨h5,rfl,fl5,up5⟩) (nw (E:=fun _ _=>False) held.2.2.2 d4)) (fun _ s5 z5=>?_) (fun _ _ z=>z.1.elim)
  obtain⟨⟨h5,rfl,fl5,up5⟩,d5⟩:=z5
  have hfr:∀ b∈frs X.stack,∃ o,s1.heap.get? b=some o/\∀ vs,o.data≠.fields vs:=fun b hb=>by
   obtain⟨_,o,ho,hd⟩:=fl.2.2.1.mem hb
   exact⟨o,ho,hd⟩
  have at_:∀ {h6:Heap},B.StaysIn h6->s1.heap.UpToSlots h6->Inv (X.more pins) pins' σ' H' { s1 with heap:=h6 }:=fun {h6} hB up=>by
   obtain⟨u6,hok6,_⟩:=un_fly u hok fl.1 hB up hfr I1.stkFree old
   exact Ic.call' (s':={ s1 with heap:=h6 }) os u6 hok6 bare fun b z=>absurd z (by simp)
  have I5:=at_ fl5.1 (up4.trans up5)
  have J5:=I5.toCatch (ea:=ea)
  obtain⟨ob,hob,hobc⟩:=fl5.there
  refine wpAny_handleBy_cons (codeAny_handlers_test (cQ (X:=X.catchX ea pins) J5 hg hm ?_ hdb)) (by intro q;cases q)
  have LT:PySem.W.Looks (model X.prog X.w) h5 (typeOf (.ref ea)) cls:=by
   subst hobc
   exact (PySem.W.Looks.ld hob).andThen .now
  refine (PySem.W.exm_one (K:=X.K) (h:=h5) J5.kIn LT hW).here (s:={ s1 with heap:=h5 }) ?_
  show codeAny _ _ _ _ _
  refine codeAny_handlers_suite_as ?_
  have fl5':Heap.FlyingW B (X.env::X.outer) ea cls a0 h5:=fl5
  refine zj (fh (lands_againW (s:={ s1 with heap:=h5 }) (Q:=fun _ s'=>∃ h6,s'={ s1 with heap:=h6 }/\Heap.FlyingW B (X.env::X.outer) ea cls a0 h6/\h5.UpToSlots h6) (E:=fun _ _=>False) fl5' fun h6 fl6 up6=>⟨h6,rfl,fl6,up6⟩) (nw (s:={ s1 with heap:=h5 }) (E:=fun _ _=>False) fl5'.2.2.2.at d5)) (fun _ s6 z6=>?_) (fun _ _ z=>z.1.elim)
  obtain⟨⟨h6,rfl,fl6,up6⟩,oe,vs,hoe,hoed,hod,h62⟩:=z6
  have I6:=at_ fl6.1 (up4.trans (up5.trans up6))
  have J6:=I6.toCatch (ea:=ea)
  have hoec:oe.cls=cls:=by
   obtain⟨oe2,_,hoe2,hc2,_⟩:=fl6.first
   rw[hoe]at hoe2
   cases hoe2
   exact hc2
  have h0:X.s₀.heap.get? ea=none:=by
   cases q:X.s₀.heap.get? ea with
   | none=>rfl
   | some o=>
    obtain⟨o',e⟩:=Ic.base.there ea o q (by rw[show (X.more pins).ex=[] from O.exs];simp)
    rw[hsc]at e;cases e
  have J7:=J6.trackO (ho':=vY ea cls od) hea h0 hoe hoed (fun H2=>by have:=xQ (P:=X.prog) (w:=X.w) (H:=H2) hoe hoec hoed h62;rw[hod]at this;exact this) (fun p hp z=>by
   have:=(Ic.pin p (z8 _ (by simpa using (show p∈(X.pn++pins)++[] from hp)))).1
   rw[z,hsc]at this;cases this)
  refine iP (X:=X.catchX ea pins) (pins:=[]) (σ:=σ') (H:=upd H' ea (vY ea cls od)) (i:=i) (v:=.ref ea) J7 hN hi (.inl hk) rfl (fun s8 J8=>?_) (.inr hk)
  refine zj (hh ea pins [] s8 _ _ _ J8 (hth ea hea)) (fun f s9 q9=>?_) (fun _ _ z=>False.elim z)
  cases f with
  | next=>
   obtain⟨σ9,H9,I9,q⟩:=q9
   exact gO (X:=X.catchX ea pins) I9 hN hi hk fun s10 I10=>⟨_,H9,Inv.ofCatch I.ok I10,q⟩
  | brk=>
   obtain⟨σ9,H9,I9,q⟩:=q9
   exact gO (X:=X.catchX ea pins) I9 hN hi hk fun s10 I10=>⟨_,H9,Inv.ofCatch I.ok I10,q⟩
  | cont=>
   obtain⟨σ9,H9,I9,q⟩:=q9
   exact gO (X:=X.catchX ea pins) I9 hN hi hk fun s10 I10=>⟨_,H9,Inv.ofCatch I.ok I10,q⟩
  | ret u=>
   obtain⟨v,σ9,H9,I9,r,q⟩:=q9
   exact gO (X:=X.catchX ea pins) I9 hN hi hk fun s10 I10=>⟨v,_,H9,Inv.ofCatch I.ok I10,r,q⟩
end L2
namespace L2
open PySem PySem.Spec PySem.Calls PySem.W PyProof.Rows
open PySem.Builtin PySem.Builtin.ObjectAttr PySem.Builtin.Getset_descriptor
section
variable {prog : Program}{w : World}{A : Around}{E : Value -> Shared -> Prop}{s : Shared}{K : Frag}{x D : Addr}
theorem kr {M:Model}{h:Heap} (X:K.In h) {name:Str}{a g:Value} (ha:findIn K (.ref D) name=some (some a)) (hg:specialIn K a "__get__"=some (some g)) (ht:takesIn K a=some true):
  Looks M h (find (.ref x) (.ref D) name) (.bind g a):=by
 have L1:=Bi (M:=M) X ha
 have L2:Looks M h (getOf (some a)) (some g):=looks_specialIn X hg
 have L3:=looks_takesIn (M:=M) X ht
 exact L1.andThen (L2.andThen ((show Looks M h (dataDescriptor? (some a) (some g)) (some (g,a)) from L3.andThen .now).andThen (Looks.tag .now)))
theorem mP {R:Result->Shared->Prop}{tp:Value}{o:Obj} (X:K.In s.heap) (hx:s.heap.get? x=some o) (hc:o.cls=.ref D) (hm:mroIn K D (.type "object")=some true)
  (h:R (.ok (.ret (.ref D))) s):codeAny (model prog w) A (.call (.builtin "getset_descriptor.__get__") ⟨[.builtin "object.__class__",.ref x,tp],[]⟩) R s:=by
 obtain⟨hh,g,dr,t,os⟩:=s
 have L0:Looks (model prog w) hh (typeOf (.ref x)) (.ref D):=hc▸(Looks.ld hx).andThen .now
 have L1:=looks_mroIn (M:=model prog w) X hm
 refine AC KF.slot_gs.plain KF.entry_gs (KF.slot_gs.check _ _ _ _ _ _ _ _ KF.type_class (KF.args_gs _ _ _) ?_)
 unfold Builtin.«getset_descriptor.__get__» descrGet
 rw[dga_obj]
 refine yc (yp ?_)
 unfold descrGetter descrCheckInstance descrNameAndClass isInstance
 simp only[KF.owner_class]
 repeat lk
 refine⟨AQ _ (by decide +kernel),AK KF.entry_class ?_⟩
 unfold Builtin.«object.__class__» shownTypeOf
 repeat lk
 exact h
theorem nJ {M:Model}{o:Obj}{nameV:Value}{Q:Unit->Shared->Prop}{h:Heap}{g:Array GenState}{d:Drawn}{t:Nat}{os:OsState} (X:K.In h) (hx:h.get? x=some o) (hc:o.cls=.ref D) (hm:mroIn K D (.type "BaseException")=some true)
  (hq:Q () ⟨h,g,d,t,os⟩):wpAny M A (checkBuiltinCall "BaseException.__getattribute__" ⟨[.ref x,nameV],[]⟩) Q E ⟨h,g,d,t,os⟩:=by
 have hk:builtinKind "BaseException.__getattribute__"=some .slot:=by decide +kernel
 have hsplit:splitId "BaseException.__getattribute__"=some ("BaseException","__getattribute__"):=by decide +kernel
 have ha:=F.args_bexc_ga (.ref x) nameV
 have L1:=looks_mroIn (M:=M) X hm
 simp only[checkBuiltinCall,hk,hsplit]
 refine yc ?_
 ·unfold isInstance
  repeat (first|(with_reducible refine zT hx ?_;rw[hc])|with_reducible refine L1.at ?_|wp_step)
  exact hq
structure pD (K : Frag) (D : Addr) : Prop where
  ga : findIn K (.ref D) "__getattribute__" = some (some (.builtin "BaseException.__getattribute__"))
  gt : findIn K (.ref D) "__getattr__" = some none
  cl : findIn K (.ref D) "__class__" = some (some (.builtin "object.__class__"))
  gg : specialIn K (.builtin "object.__class__") "__get__" = some (some (.builtin "getset_descriptor.__get__"))
  tk : takesIn K (.builtin "object.__class__") = some true
  mo : mroIn K D (.type "object") = some true
  mb : mroIn K D (.type "BaseException") = some true
  ic : hasDictIn K D = true
theorem uC {o:Obj}{Q:Option Value->Shared->Prop} (T:pD K D) (X:K.In s.heap) (hx:s.heap.get? x=some o) (hc:o.cls=.ref D) (h:Q (some (.ref D)) { s with toks:=s.toks+1 }):
  wpAny (model prog w) A (getAttr? (.ref x) "__class__") Q E s:=by
 obtain⟨hh,g,d,t,os⟩:=s
 have L0:Looks (model prog w) hh (typeOf (.ref x)) (.ref D):=hc▸(Looks.ld hx).andThen .now
 have L1:=Bi (M:=model prog w) X T.ga
 have L2:=Bi (M:=model prog w) X T.gt
 have L3:=kr (M:=model prog w) (x:=x) X T.cl T.gg T.tk
 have f3:=F.attr_ValueError.ga.bind (.ref x)
 unfold getAttr? getAttrBy? getAttrBy
 refine yc (wpAny_mkText (yc (Bu (zu (yc (L0.at (yc (L1.at ?_))))))))
 show wpAny _ _ (getAttrByItsOwn _ _ _ _ _ _) _ _ _
 unfold getAttrByItsOwn hookBefore
 refine yc ?_
 show wpAny _ _ (typeLookup (.ref D) "__getattr__") _ _ _
 refine L2.at ?_
 refine yc (Bu (zu ?_))
 show wpAny _ _ (boundAndCalled _ _ _) _ _ _
 unfold boundAndCalled
 rw[f3]
 refine yc (yp ?_)
 refine AB (AC F.attr_ValueError.ga.plain F.entry_bexc_ga (nJ X hx hc T.mb ?_))
 repeat (any_goals (first|assumption|(with_reducible refine zT hx ?_;rw[hc])|with_reducible refine L3.at ?_|wp_step))
 refine mP (s:=⟨hh,g,d,_,os⟩) X hx hc T.mo ?_
 repeat (any_goals (first|assumption|wp_step))
theorem xO {o od:Obj}{name:Str}{v:Value}{expr:Bool}{Q:Value->Shared->Prop} (T:pD K D) (X:K.In s.heap) (I:InstAt s.heap x o D (some od)) (hf:findObj K D (some od) name=some (.value v)) (hh:handedIn v=true) (h:Q v { s with toks:=s.toks+1 }):
  wpAny (model prog w) A (getAttr (.ref x) name expr) Q E s:=by
 obtain⟨hh',g,d,t,os⟩:=s
 have hx:=I.at_
 have hc:=I.cls
 have L0:=I.type (M:=model prog w)
 have L1:=Bi (M:=model prog w) X T.ga
 have L2:=Bi (M:=model prog w) X T.gt
 have L3:=looks_find (M:=model prog w) X I hf
 have f3:=F.attr_ValueError.ga.bind (.ref x)
 unfold getAttr getAttrBy
 refine yc (wpAny_mkText (zu (yc (L0.at (yc (L1.at ?_))))))
 show wpAny _ _ (getAttrByItsOwn _ _ _ _ _ _) _ _ _
 unfold getAttrByItsOwn hookBefore
 refine yc ?_
 show wpAny _ _ (typeLookup (.ref D) "__getattr__") _ _ _
 refine L2.at ?_
 refine yc (Bu (zu ?_))
 unfold callGetattribute
 rw[if_neg (by cases expr <;> simp[onTheHeap])]
 unfold boundAndCalled
 rw[f3]
 refine yc (yp ?_)
 refine AB (AC F.attr_ValueError.ga.plain F.entry_bexc_ga (nJ X hx hc T.mb ?_))
 repeat (any_goals (first|assumption|(with_reducible refine zT hx ?_;rw[hc])|with_reducible refine L3.at ?_|wp_step))
 show wpAny _ _ (handedOut v) _ _ _
 rw[handedOut_of hh]
 exact yp h
theorem eY (T:pD K D):KitX K (.ref x) (.ref D) (xS x (.ref D)) where
 ty:=fun M h _ p=>by
  obtain⟨o,vs,ho,hc,_⟩:=p
  exact hc▸(Looks.ld ho).andThen .now
 it:=fun _ _ X _=>by
  obtain⟨cdD,hcD,_⟩:=any_some T.ic
  unfold clsIn at hcD
  split at hcD
  ·rename_i c' d' cd' sl' ho
   intro A' Q' E' s' k q
   unfold isType loadHead
   exact yc (wpAny_loadPart (k _ _ (X _ _ ho)) (yp q))
  ·cases hcD
 ne:=fun h tp dd its n sl X htp=>by
  obtain⟨cdD,hcD,_⟩:=any_some T.ic
  refine Bool.eq_false_iff.mpr fun q=>?_
  have e:D=tp:=Value.ref.inj (zy.mp q)
  subst e
  unfold clsIn at hcD
  split at hcD
  ·rename_i c' d' cd' sl' ho
   have z:=(X _ _ ho).symm.trans htp
   cases z
  ·cases hcD
 ca:=fun X p k=>by
  obtain⟨o,vs,ho,hc,_⟩:=p
  exact uC T X ho hc k
end
section
variable {X : Cx}
theorem pe {pins:List (Addr×Obj)}{σ:St}{H:Hp}{s:Shared}{ea:Addr}{cls:Value} (I:Inv X pins σ H s) (h:H ea=some (w4 ea cls)):xS ea cls s.heap:=(I.hok ea _ h).1
theorem isiE (K:Frag)(hK:X.K=K:=by rfl):CallR X (.builtin "isinstance") (fun xs H Q=>∃ ea D c b,xs=[.ref ea,c]/\H ea=some (w4 ea (.ref D))/\pD K D/\((∃ C,c=.ref C/\kitOne K (.ref D) (.ref C)=some b)\/(∃ T,c=.ty T/\kitOne K (.ref D) (.type T)=some b))/\Q (.bl b) H):=by
 subst hK
 intro pins s σ H xs us Q I r h
 obtain⟨ea,D,c,b,rfl,he,T,hc,q⟩:=h
 obtain⟨u,v,rfl,r1,r2⟩:=jR r
 cases r1
 rcases hc with⟨C,rfl,e⟩|⟨T',rfl,e⟩
 ·cases r2
  exact kia_one (eY T) I.kIn (pe I he) e (fun z=>nomatch z) fun tk=>⟨.bl b,H,I.tok tk,rfl,q⟩
 ·cases r2
  exact kia_one (eY T) I.kIn (pe I he) e (fun z=>nomatch z) fun tk=>⟨.bl b,H,I.tok tk,rfl,q⟩
theorem jm:∀ {Cs:List Addr}{us:List Value},Vals (Cs.map V.ref) us->us=Cs.map Value.ref
 | [],_,.nil=>rfl
 | C::Cs,_,.cons r t=>by
  cases r
  rw[jm t]
  rfl
theorem isiT (K:Frag)(hK:X.K=K:=by rfl):CallR X (.builtin "isinstance") (fun xs H Q=>∃ (ea D tp:Addr)(Cs:List Addr)(b:Bool),xs=[.ref ea,.ref tp]/\H ea=some (w4 ea (.ref D))/\pD K D/\H tp=some (.tup (Cs.map V.ref))/\kitAny K (.ref D) (Cs.map Value.ref)=some b/\Q (.bl b) H):=by
 subst hK
 intro pins s σ H xs us Q I r h
 obtain⟨ea,D,tp,Cs,b,rfl,he,T,ht,e,q⟩:=h
 obtain⟨u,v,rfl,r1,r2⟩:=jR r
 cases r1
 cases r2
 obtain⟨_,its,rv,⟨oc,od,oda,osl⟩,ho,hcl,n,hd⟩:=(show ObjOk X.prog X.w H s.heap tp (.tup (Cs.map V.ref)) from I.hok tp _ ht)
 have ei:=jm rv
 subst ei
 dsimp only at hcl hd
 subst hcl
 subst hd
 exact kia_tup (eY T) I.kIn (pe I he) ho e (fun z=>nomatch z) fun tk=>⟨.bl b,H,I.tok tk,rfl,q⟩
theorem mh {pins:List (Addr×Obj)}{σ:St}{H:Hp}{s:Shared}{ea dx:Addr}{cls:Value} (I:Inv X pins σ H s) (h:H ea=some (sC ea cls dx)):xS ea cls s.heap:=by
 obtain⟨o,vs,h1,h2,h3,_,h5⟩:=(show vZ ea cls dx s.heap from (I.hok ea _ h).1)
 exact⟨o,vs,h1,h2,h3,h5⟩
theorem isiEd (K:Frag)(hK:X.K=K:=by rfl):CallR X (.builtin "isinstance") (fun xs H Q=>∃ ea D dx c b,xs=[.ref ea,c]/\H ea=some (sC ea (.ref D) dx)/\pD K D/\((∃ C,c=.ref C/\kitOne K (.ref D) (.ref C)=some b)\/(∃ T,c=.ty T/\kitOne K (.ref D) (.type T)=some b))/\Q (.bl b) H):=by
 subst hK
 intro pins s σ H xs us Q I r h
 obtain⟨ea,D,dx,c,b,rfl,he,T,hc,q⟩:=h
 obtain⟨u,v,rfl,r1,r2⟩:=jR r
 cases r1
 rcases hc with⟨C,rfl,e⟩|⟨T',rfl,e⟩
 ·cases r2
  exact kia_one (eY T) I.kIn (mh I he) e (fun z=>nomatch z) fun tk=>⟨.bl b,H,I.tok tk,rfl,q⟩
 ·cases r2
  exact kia_one (eY T) I.kIn (mh I he) e (fun z=>nomatch z) fun tk=>⟨.bl b,H,I.tok tk,rfl,q⟩
structure ExcA (K : Frag) (D : Addr) (f : Str) : Prop where
  k : pD K D
  na : findIn K (.ref D) f = some none
theorem xI {pins:List (Addr×Obj)}{σ:St}{H:Hp}{s:Shared}{A:Around}{E:Value->Shared->Prop}{ea D dx:Addr}{f:Str}{fs:List (Str×V)}{v:V}{b:Bool}{Q:Value->Shared->Prop} (I:Inv X pins σ H s) (he:H ea=some (sC ea (.ref D) dx)) (hx:H dx=some (.xd fs)) (T:ExcA X.K D f) (l:fs.lookup f=some v)
  (h:∀ u s',Inv X pins σ H s'->RelV v u->Q u s'):wpAny (model X.prog X.w) A (getAttr (.ref ea) f b) Q E s:=by
 obtain⟨o,ws,ho,hc,hd,hdi,_⟩:=id (show vZ ea (.ref D) dx s.heap from (I.hok ea _ he).1)
 obtain⟨mA,hns,r⟩:=id (show ∃ mA,s.heap.Ns1 dx mA/\∀ f,RelO (fs.lookup f) (mA f) from I.hok dx _ hx)
 obtain⟨od,hod,hl⟩:=nk hns
 have J:InstAt s.heap ea o D (some od):=⟨ho,hc,by unfold notCls;rw[hd],by rw[hdi];exact hod⟩
 obtain⟨u,hu,ru⟩:=RelO.some_of (v:=v) (o:=mA f) (by rw[<- l];exact r f)
 exact xO T.k I.kIn J (findObj_own T.k.ic T.na rfl (by rw[hl,hu])) (nE ru) (h u _ (I.tok _) ru)
def tFldX (K:Frag)(ta:TE)(f:Str):TE:=fun σ H Q=>ta σ H fun x H1=>∃ ea D dx fs v,x=.ref ea/\H1 ea=some (sC ea (.ref D) dx)/\H1 dx=some (.xd fs)/\ExcA K D f/\fs.lookup f=some v/\Q v H1
theorem x6 {e:Expr}{f:Str}{pos:Pos}{ta:TE} (he:PE X e ta) (hb:attributeBase e f X.env (eval e X.env)=eval e X.env):PE X (.Attribute e f pos) (tFldX X.K ta f):=by
 intro pins s σ H Q I h
 refine tK hb (thn (he pins s σ H _ I h) fun u s1 ⟨x,H1,I1,rx,ea,D,dx,fs,v,ex,h1,h2,T,l,q⟩=>?_)
 subst ex
 obtain rfl:u=Value.ref ea:=rx
 exact xI I1 h1 h2 T l fun u' s2 I2 ru=>⟨v,H1,I2,ru,q⟩
end
end L2
namespace L2
open PySem PySem.Spec PyProof.Rows
section
variable {κ : Type}[DecidableEq κ]
def b7 (kvs:List (κ×V))(k:κ):Option V:=(kvs.find? fun kv=>decide (kv.1=k)).map (·.2)
def cT (kvs:List (κ×V))(k:κ)(v:V):List (κ×V):=
 if (kvs.any fun kv=>decide (kv.1=k))=true then kvs.map (fun kv=>if kv.1=k then (kv.1,v) else kv) else kvs++[(k,v)]
def ff (kvs:List (κ×V))(k:κ):List (κ×V):=kvs.filter fun kv=>decide (kv.1≠k)
theorem cv {p:κ×V}{r:List (κ×V)}{k:κ} (e:p.1=k):b7 (p::r) k=some p.2:=by simp[b7,yQ,e]
theorem cw {p:κ×V}{r:List (κ×V)}{k:κ} (e:¬ p.1=k):b7 (p::r) k=b7 r k:=by simp[b7,yQ,e]
theorem kL (k:κ):∀ kvs:List (κ×V),(kvs.any fun kv=>decide (kv.1=k))=(b7 kvs k).isSome
 | []=>rfl
 | p::r=>by
  rw[Af]
  by_cases e:p.1=k
  ·simp only[cv e,ye e,Bool.true_or,Option.isSome_some]
  ·rw[cw e,yj e,By];exact kL k r
theorem gw (kvs:List (κ×V))(k:κ)(v:V):(cT kvs k v).length<=kvs.length+1:=by
 unfold cT
 split
 ·rw[y9];omega
 ·rw[yu,yY,Au];omega
theorem dF {kvs:List (κ×V)}{k:κ} (v:V) (h:b7 kvs k=none):cT kvs k v=kvs++[(k,v)]:=by
 unfold cT
 rw[kL,h]
 exact if_neg (by decide)
theorem RelO.isSome_eq {o:Option V}{u:Option Value} (r:RelO o u):o.isSome=u.isSome:=by
 cases o with
 | none=>cases u with
  | none=>rfl
  | some _=>exact (show False from r).elim
 | some _=>cases u with
  | none=>exact (show False from r).elim
  | some _=>rfl
theorem RelO.getD {o:Option V}{u:Option Value}{d:V}{d':Value} (r:RelO o u) (rd:RelV d d'):RelV (o.getD d) (u.getD d'):=by
 cases o with
 | none=>cases u with
  | none=>exact rd
  | some _=>exact (show False from r).elim
 | some _=>cases u with
  | none=>exact (show False from r).elim
  | some _=>exact r
theorem KV.val {kvs:List (κ×V)}{vs:List (κ×Value)} (r:KV kvs vs) (k:κ):RelO (b7 kvs k) (valueAt vs k):=by
 unfold KV at r
 induction r with
 | nil=>exact zQ
 | @cons p q ps qs h t ih=>
  obtain⟨h1,h2⟩:=h
  by_cases e:p.1=k
  ·have e':q.1=k:=h1.symm.trans e
   have b:valueAt (q::qs) k=some q.2:=by simp[valueAt,yQ,e']
   rw[cv e,b];exact h2
  ·have e':¬ q.1=k:=fun z=>e (h1.trans z)
   have b:valueAt (q::qs) k=valueAt qs k:=by simp[valueAt,yQ,e']
   rw[cw e,b];exact ih
theorem KV.any {kvs:List (κ×V)}{vs:List (κ×Value)} (r:KV kvs vs) (k:κ):(kvs.any fun kv=>decide (kv.1=k))=vs.any fun kv=>decide (kv.1=k):=by
 unfold KV at r
 induction r with
 | nil=>rfl
 | cons h t ih=>rw[Af,Af,ih,h.1]
theorem KV.repl {kvs:List (κ×V)}{vs:List (κ×Value)} (r:KV kvs vs) (k:κ) {y:V}{u:Value} (ry:RelV y u):
  KV (kvs.map fun kv=>if kv.1=k then (kv.1,y) else kv) (vs.map fun kv=>if kv.1=k then (kv.1,u) else kv):=by
 unfold KV at r ⊢
 induction r with
 | nil=>exact .nil
 | @cons p q ps qs h t ih=>
  rw[yN,yN]
  refine .cons ?_ ih
  obtain⟨h1,h2⟩:=h
  by_cases e:p.1=k
  ·rw[if_pos e,if_pos (h1.symm.trans e)];exact⟨h1,ry⟩
  ·rw[if_neg e,if_neg (fun z=>e (h1.trans z))];exact⟨h1,h2⟩
theorem KV.put {kvs:List (κ×V)}{vs:List (κ×Value)} (r:KV kvs vs) (k:κ) {y:V}{u:Value} (ry:RelV y u):KV (cT kvs k y) (stored vs k u):=by
 unfold cT stored
 rw[r.any k]
 by_cases e:(vs.any fun kv=>decide (kv.1=k))=true
 ·rw[if_pos e,if_pos e];exact r.repl k ry
 ·rw[if_neg e,if_neg e];exact Paired.snoc r ⟨rfl,ry⟩
theorem KV.drop {kvs:List (κ×V)}{vs:List (κ×Value)} (r:KV kvs vs) (k:κ):KV (ff kvs k) (without vs k):=by
 unfold KV at r ⊢
 unfold ff without
 induction r with
 | nil=>exact .nil
 | @cons p q ps qs h t ih=>
  obtain⟨h1,h2⟩:=h
  rw[zS,zS]
  by_cases e:p.1=k
  ·have a:¬ decide (p.1≠k)=true:=by simp[e]
   have b:¬ decide (q.1≠k)=true:=by simp[h1.symm.trans e]
   rw[if_neg a,if_neg b];exact ih
  ·have e':¬ q.1=k:=fun z=>e (h1.trans z)
   have a:decide (p.1≠k)=true:=by simp[e]
   have b:decide (q.1≠k)=true:=by simp[e']
   rw[if_pos a,if_pos b];exact .cons ⟨h1,h2⟩ ih
theorem KV.length {kvs:List (κ×V)}{vs:List (κ×Value)} (r:KV kvs vs):kvs.length=vs.length:=Paired.length r
theorem we (kvs:List (κ×V))(k:κ):(ff kvs k).length<=kvs.length:=z9 _ _
end
theorem gY {P:Program}{w:World}{k:Key}{u:Value} (r:RelV (kV k) u):(aQ P w).is k u=true:=by
 cases k with
 | inl i=>obtain⟨t,e⟩:=(show ∃ t,u=Value.int i t from r);subst e;exact qC P w i t
 | inr x=>obtain⟨t,e⟩:=(show ∃ t,u=Value.str x t from r);subst e;exact qB P w x t
theorem kV_inj {a b:Key}(e:kV a=kV b):a=b:=by
 cases a with
 | inl i=>cases b with
  | inl j=>have e':V.int i=V.int j:=e;injection e' with e';rw[e']
  | inr y=>exact nomatch (show V.int i=V.str y from e)
 | inr x=>cases b with
  | inl j=>exact nomatch (show V.str x=V.int j from e)
  | inr y=>have e':V.str x=V.str y:=e;injection e' with e';rw[e']
theorem nC {P:Program}{w:World}:∀ {ks:List Key}{us:List Value},Vals (ks.map kV) us->ItemsAre (aQ P w) ks us
 | [],_,r=>by rw[Aa]at r;cases r;exact .nil
 | k::ks,_,r=>by
  rw[yN]at r
  cases r with
  | cons h t=>exact .cons (gY h) (nC t)
abbrev KT (H:Hp):List (List Key×V)->List (List Key×Addr×Value)->Prop:=Paired fun p q=>p.1=q.1/\H q.2.1=some (.tup (p.1.map kV))/\RelV p.2 q.2.2
theorem KT.val {H:Hp}{kvs:List (List Key×V)}{xs:List (List Key×Addr×Value)} (r:KT H kvs xs) (k:List Key):RelO (b7 kvs k) ((atKey xs k).map (·.2)):=by
 induction r with
 | nil=>exact zQ
 | @cons p q ps qs h t ih=>
  obtain⟨h1,_,h2⟩:=h
  by_cases e:p.1=k
  ·have e':q.1=k:=h1.symm.trans e
   have b:atKey (q::qs) k=some q.2:=by simp[atKey,yQ,e']
   rw[cv e,b];exact h2
  ·have e':¬ q.1=k:=fun z=>e (h1.trans z)
   have b:atKey (q::qs) k=atKey qs k:=by simp[atKey,yQ,e']
   rw[cw e,b];exact ih
theorem KT.repl {H:Hp}{kvs:List (List Key×V)}{xs:List (List Key×Addr×Value)} (r:KT H kvs xs) (k:List Key) {y:V}{u:Value} (ry:RelV y u):
  KT H (kvs.map fun kv=>if kv.1=k then (kv.1,y) else kv) (xs.map (putAt k u)):=by
 induction r with
 | nil=>exact .nil
 | @cons p q ps qs h t ih=>
  rw[yN,yN]
  refine .cons ?_ ih
  obtain⟨h1,h2,h3⟩:=h
  unfold putAt
  by_cases e:p.1=k
  ·rw[if_pos e,if_pos (h1.symm.trans e)];exact⟨h1,h2,ry⟩
  ·rw[if_neg e,if_neg (fun z=>e (h1.trans z))];exact⟨h1,h2,h3⟩
theorem KT.put {H:Hp}{kvs:List (List Key×V)}{xs:List (List Key×Addr×Value)} (r:KT H kvs xs) (k:List Key) {b:Addr}{y:V}{u:Value} (hb:H b=some (.tup (k.map kV))) (ry:RelV y u):
  KT H (cT kvs k y) (storedH xs k b u):=by
 have e:(kvs.any fun kv=>decide (kv.1=k))=(atKey xs k).isSome:=by
  rw[kL,(r.val k).isSome_eq,AX]
 unfold cT storedH
 rw[e]
 by_cases q:(atKey xs k).isSome=true
 ·rw[if_pos q,if_pos q];exact r.repl k ry
 ·rw[if_neg q,if_neg q];exact Paired.snoc r ⟨rfl,hb,ry⟩
theorem KT.keeps {H H':Hp}{kvs:List (List Key×V)}{xs:List (List Key×Addr×Value)} (r:KT H kvs xs) (ht:∀ b ys,H b=some (.tup ys)->H' b=some (.tup ys)):KT H' kvs xs:=
 Paired.mapP r fun _ _ z=>⟨z.1,ht _ _ z.2.1,z.2.2⟩
section
variable {P : Program}{w : World}{H : Hp}{h : Heap}{a : Addr}
theorem rd_of {u:HO}(ok:HOk P w H h)(e:Rd H a u):ObjOk P w H h a u:=e.ok ok
theorem mn {kvs:List (Key×V)}(ok:HOk P w H h)(e:Rd H a (.dK kvs)):kvs.length<=sizeLine/\(a==sysModules)=false/\∃ vs,KV kvs vs/\h.DictOf (aQ P w) a vs:=
 show ObjOk P w H h a (.dK kvs) from rd_of ok e
theorem tD {kvs:List (Key×V)}(ok:HOk P w H h)(e:H a=some (.dK kvs)):kvs.length<=sizeLine/\(a==sysModules)=false/\∃ vs,KV kvs vs/\h.DictOf (aQ P w) a vs:=mn ok (.inl e)
theorem jJ {ks:List Key}(ok:HOk P w H h)(e:H a=some (.tup (ks.map kV))):(tupleKind (aQ P w)).is h ks a:=by
 obtain⟨_,its,r,o,h1,h2,n,h3⟩:=(show ObjOk P w H h a (.tup (ks.map kV)) from ok a _ e)
 exact⟨o,its.toArray,n,h1,h2,h3,by simpa using nC r⟩
theorem mj {kvs:List (List Key×V)}(ok:HOk P w H h)(e:Rd H a (.dT kvs)):kvs.length<=sizeLine/\(a==sysModules)=false/\
  ∃ xs,KT H kvs xs/\h.DictOfH (tupleKind (aQ P w)) a xs:=by
 obtain⟨z,y,xs,r,o,es,ep,h1,h2,h3,h4,h5⟩:=(show ObjOk P w H h a (.dT kvs) from rd_of ok e)
 refine⟨z,y,xs,r,o,es,ep,h1,h2,h3,h4,fun x hx=>?_,h5⟩
 have all:∀ {l:List (List Key×V)}{m:List (List Key×Addr×Value)},KT H l m->∀ x∈m,(tupleKind (aQ P w)).is h x.1 x.2.1:=by
  intro l m q
  induction q with
  | nil=>intro x hx;exact nomatch hx
  | @cons p q ps qs hq t ih=>
   intro x hx
   rcases yB.mp hx with e|hx
   ·subst e
    exact jJ ok (by rw[<- hq.1];exact hq.2.1)
   ·exact ih x hx
 exact all r x hx
theorem dt_of {kvs:List (List Key×V)}(ok:HOk P w H h)(e:H a=some (.dT kvs)):kvs.length<=sizeLine/\(a==sysModules)=false/\
  ∃ xs,KT H kvs xs/\h.DictOfH (tupleKind (aQ P w)) a xs:=mj ok (.inl e)
end
def DGet (H:Hp)(a:Addr)(y:V)(r:Option V):Prop:=
 (∃ kvs k,Rd H a (.dK kvs)/\y=kV k/\r=b7 kvs k)\/∃ kvs k b,Rd H a (.dT kvs)/\y=.ref b/\H b=some (.tup (k.map kV))/\r=b7 kvs k
def DPut (H:Hp)(a:Addr)(y v:V)(H':Hp):Prop:=
 (∃ kvs k,H a=some (.dK kvs)/\y=kV k/\kvs.length<sizeLine/\H'=upd H a (.dK (cT kvs k v))) \/
 ∃ kvs k b,H a=some (.dT kvs)/\y=.ref b/\H b=some (.tup (k.map kV))/\kvs.length<sizeLine/\H'=upd H a (.dT (cT kvs k v))
theorem DGet.k {H:Hp}{a:Addr}{kvs:List (Key×V)}{k:Key} (e:H a=some (.dK kvs)):DGet H a (kV k) (b7 kvs k):=.inl ⟨kvs,k,.inl e,rfl,rfl⟩
theorem DPut.k {H:Hp}{a:Addr}{kvs:List (Key×V)}{k:Key}{v:V} (e:H a=some (.dK kvs)) (hl:kvs.length<sizeLine):DPut H a (kV k) v (upd H a (.dK (cT kvs k v))):=.inl ⟨kvs,k,e,rfl,hl,rfl⟩
section
variable {X : Cx}{pins : List (Addr×Obj)}{σ : St}{H : Hp}{s : Shared}{a : Addr}{y v : V}{u r : Value}{o : Option V}{A : Around}{E : Value -> Shared -> Prop}
theorem Inv.big (I:Inv X pins σ H s):sysModules<s.heap.objs.size:=by
 have h:mainGlobals<s.heap.objs.size:=(I.mod.glob.keeps I.bk).lt
 exact Nat.lt_trans (by decide) h
theorem uF {Q:Value->Shared->Prop}(hu:A.units+1<cLine)(I:Inv X pins σ H s)(g:DGet H a y (some v))(ry:RelV y u)(h:∀ w' s',Inv X pins σ H s'->RelV v w'->Q w' s'):
  wpAny (model X.prog X.w) A (getItem (.ref a) u) Q E s:=by
 rcases g with⟨kvs,k,e,ey,l⟩|⟨kvs,k,b,e,ey,eb,l⟩
 ·subst ey
  obtain⟨z,hd,vs,rel,dd⟩:=mn I.hok e
  obtain⟨w',hw,rw'⟩:=RelO.some_of (v:=v) (o:=valueAt vs k) (by rw[l];exact rel.val k)
  exact wpAny_getItem_of (gY ry) dd.mapOf hw (h w' _ (I.tok _) rw')
 ·subst ey
  cases (show u=Value.ref b from ry)
  obtain⟨z,hd,xs,rel,dd⟩:=mj I.hok e
  obtain⟨w',hw,rw'⟩:=RelO.some_of (v:=v) (o:=(atKey xs k).map (·.2)) (by rw[l];exact rel.val k)
  obtain⟨p,hp,hp2⟩:=yG.mp hw
  refine wpAny_getItem_heap (AM hu) (jJ I.hok eb) dd hp ?_
  rw[hp2]
  exact h w' _ (I.tok _) rw'
theorem d_in {Q:Value->Shared->Prop}(hu:A.units+1<cLine)(I:Inv X pins σ H s)(g:DGet H a y o)(ry:RelV y u)(h:∀ s',Inv X pins σ H s'->Q (.bool o.isSome) s'):
  wpAny (model X.prog X.w) A (compareOp .In u (.ref a)) Q E s:=by
 rcases g with⟨kvs,k,e,ey,l⟩|⟨kvs,k,b,e,ey,eb,l⟩
 ·subst ey
  obtain⟨z,hd,vs,rel,dd⟩:=mn I.hok e
  refine wpAny_in_of (gY ry) hd dd.mapOf ?_
  rw[<- (rel.val k).isSome_eq,<- l]
  exact h _ (I.tok _)
 ·subst ey
  cases (show u=Value.ref b from ry)
  obtain⟨z,hd,xs,rel,dd⟩:=mj I.hok e
  refine wpAny_in_heap (AM hu) (jJ I.hok eb) hd dd ?_
  have q:=(rel.val k).isSome_eq
  rw[AX]at q
  rw[<- q,<- l]
  exact h _ (I.tok _)
theorem xW {Q:Value->Shared->Prop}(hu:A.units+1<cLine)(I:Inv X pins σ H s)(g:DGet H a y o)(ry:RelV y u)(h:∀ s',Inv X pins σ H s'->Q (.bool (!o.isSome)) s'):
  wpAny (model X.prog X.w) A (compareOp .NotIn u (.ref a)) Q E s:=by
 rcases g with⟨kvs,k,e,ey,l⟩|⟨kvs,k,b,e,ey,eb,l⟩
 ·subst ey
  obtain⟨z,hd,vs,rel,dd⟩:=mn I.hok e
  refine wpAny_notIn_of (gY ry) hd dd.mapOf ?_
  rw[<- (rel.val k).isSome_eq,<- l]
  exact h _ (I.tok _)
 ·subst ey
  cases (show u=Value.ref b from ry)
  obtain⟨z,hd,xs,rel,dd⟩:=mj I.hok e
  refine wpAny_notIn_heap (AM hu) (jJ I.hok eb) hd dd ?_
  have q:=(rel.val k).isSome_eq
  rw[AX]at q
  rw[<- q,<- l]
  exact h _ (I.tok _)
theorem kI {h':Heap}{t':Nat}{ob:HO} (I:Inv X pins σ H s) (mu:Mut (H a)) (hs:Heap.SameBut a s.heap h') (he:∃ q,h'.get? a=some q) (new:ObjOk X.prog X.w (upd H a ob) h' a ob):
  Inv X pins σ (upd H a ob) { s with heap:=h',toks:=t' }:=
 I.write (x:=a) (e:=a) mu (.inl rfl) (fun b q hb z=>(hs.2 b hb).trans z) he new
theorem sE {P:Program}{w:World}{H':Hp}{h':Heap}{kvs:List (Key×V)}{vs:List (Key×Value)} (z:kvs.length<=sizeLine) (hd:(a==sysModules)=false) (rel:KV kvs vs) (dd:h'.DictOf (aQ P w) a vs):
  ObjOk P w H' h' a (.dK kvs):=⟨z,hd,vs,rel,dd⟩
theorem uE {H':Hp}{Q:Unit->Shared->Prop} (hu:A.units+1<cLine) (I:Inv X pins σ H s) (g:DPut H a y v H') (ry:RelV y u) (rv:RelV v r) (h:∀ s',Inv X pins σ H' s'->Q () s'):
  wpAny (model X.prog X.w) A (setItem (.ref a) u r) Q E s:=by
 rcases g with⟨kvs,k,e,ey,l,eH⟩|⟨kvs,k,b,e,ey,eb,l,eH⟩
 ·subst ey eH
  obtain⟨z,hd,vs,rel,dd⟩:=tD I.hok e
  have hz:vs.length<=sizeLine:=by rw[<- rel.length];exact z
  have hl:(cT kvs k v).length<=sizeLine:=by have:=gw kvs k v;omega
  refine wpAny_setItem_pairs (hsz:=hz) (gY ry) dd fun h' dd' hs=>h _ ?_
  have he:∃ q,h'.get? a=some q:=let ⟨q,_,_,hq,_⟩:=dd';⟨q,hq⟩
  exact kI I (by rw[e];exact zQ) hs he (sE hl hd (rel.put k rv) dd')
 ·subst ey eH
  cases (show u=Value.ref b from ry)
  obtain⟨z,hd,xs,rel,dd⟩:=dt_of I.hok e
  have hz:xs.length<=sizeLine:=by rw[<- Paired.length rel];exact z
  have hl:(cT kvs k v).length<=sizeLine:=by have:=gw kvs k v;omega
  refine wpAny_setItem_heap (hsz:=hz) (AM hu) (jJ I.hok eb) dd fun h' dd' hs=>h _ ?_
  obtain⟨q,es,ep,hq,h2,h3,h4,_,h5⟩:=dd'
  refine kI I (by rw[e];exact zQ) hs ⟨q,hq⟩ ⟨hl,hd,_,(rel.put k eb rv).keeps fun c ys ec=>?_,q,es,ep,hq,h2,h3,h4,h5⟩
  rw[af (bn ec e (fun z=>nomatch z))]
  exact ec
end
section
variable {X : Cx}{pins : List (Addr×Obj)}{σ : St}{H : Hp}{s : Shared}{a : Addr}{kvs : List (Key×V)}{k : Key}{u : Value}{A : Around}{E : Value -> Shared -> Prop}
theorem d_pop {v:V}{more:List Value}{Q:Value->Shared->Prop} (I:Inv X pins σ H s) (e:H a=some (.dK kvs)) (ry:RelV (kV k) u) (l:b7 kvs k=some v) (hm:more=[]\/∃ x,more=[x])
  (h:∀ w' s',Inv X pins σ (upd H a (.dK (ff kvs k))) s'->RelV v w'->Q w' s'):wpAny (model X.prog X.w) A (call (.builtin "dict.pop") (.ref a::u::more)) Q E s:=by
 obtain⟨z,hd,vs,rel,dd⟩:=tD I.hok e
 obtain⟨w',hw,rw'⟩:=RelO.some_of (v:=v) (o:=valueAt vs k) (by rw[<- l];exact rel.val k)
 have hp:(keyPart u).isSome=true:=by
  cases k with
  | inl i=>obtain⟨t,q⟩:=(show ∃ t,u=Value.int i t from ry);subst q;rfl
  | inr x=>obtain⟨t,q⟩:=(show ∃ t,u=Value.str x t from ry);subst q;rfl
 have ha:argsOk "dict.pop" ⟨.ref a::u::more,[]⟩:=by
  rcases hm with q|⟨x,q⟩
  ·subst q;exact PySem.F.args_dict_pop_2 _ _
  ·subst q;exact PySem.F.args_dict_pop_3 _ _ _
 refine AW B0 dd.typeIs PySem.F.entry_dict_pop ha (meets_dict_pop_there (aQ X.prog X.w) a (gY ry) more hm hp)
  ⟨vs,w',dd,by rw[<- rel.length];exact z,hw,fun h' dd' hs=>h w' _ ?_ rw'⟩
 have he:∃ q,h'.get? a=some q:=let ⟨q,_,_,hq,_⟩:=dd';⟨q,hq⟩
 exact kI I (by rw[e];exact zQ) hs he (sE (yM (we kvs k) z) hd (rel.drop k) dd')
theorem d_popD {r:Value}{Q:Value->Shared->Prop} (I:Inv X pins σ H s) (e:H a=some (.dK kvs)) (ry:RelV (kV k) u) (l:b7 kvs k=none) (h:∀ s',Inv X pins σ H s'->Q r s'):
  wpAny (model X.prog X.w) A (call (.builtin "dict.pop") [.ref a,u,r]) Q E s:=by
 obtain⟨z,hd,vs,rel,dd⟩:=tD I.hok e
 have hn:valueAt vs k=none:=RelO.none_of (by rw[<- l];exact rel.val k)
 have hp:(keyPart u).isSome=true:=by
  cases k with
  | inl i=>obtain⟨t,q⟩:=(show ∃ t,u=Value.int i t from ry);subst q;rfl
  | inr x=>obtain⟨t,q⟩:=(show ∃ t,u=Value.str x t from ry);subst q;rfl
 exact AW B0 dd.typeIs PySem.F.entry_dict_pop (PySem.F.args_dict_pop_3 _ _ _) (meets_dict_pop_default (aQ X.prog X.w) a (gY ry) hd hp r) ⟨vs,dd,hn,h _ (I.tok _)⟩
end
def NoSl (i:Expr):Prop:=∀ ov iv,subscripted i false ov iv=operate [ov,iv] (getItem ov iv)
theorem wJ {prog:Program}{w:World}{A:Around}{E:Value->Shared->Prop}{s:Shared}{env:Env}{value slice:Expr}{pos:Pos}{T id:String}{Q:Value->Shared->Prop}
  (hl:typeLookup (.type T) "__getitem__"=pure (some (.builtin id))) (hs:NoSl slice)
  (h:wpAny (model prog w) A (eval value env) (fun o s₁=>wpAny (model prog w) A (eval slice env) (fun i s₂=>s₂.TypeIs o T/\wpAny (model prog w) A (getItem o i) Q E s₂) E s₁) E s):
  wpAny (model prog w) A (eval (.Subscript value slice pos) env) Q E s:=by
 refine Subscript_ (zj h (fun o s₁ h₁=>zj h₁ (fun i s₂ h₂=>?_) fun _ _ x=>x) fun _ _ x=>x)
 obtain⟨hT,h₂⟩:=h₂
 unfold subscriptTail
 refine yc ?_
 rw[getitemInPython_of_ne hT.not_modules]
 refine yc (wpAny_specialOf hT hl ?_)
 have fin:wpAny (model prog w) A (subscripted slice false o i) (fun r s₃=>wpAny (model prog w) A (letTemporaryGo value o r >>= fun _=>pure r) Q E s₃) E s₂:=by
  rw[hs o i]
  exact wpAny_operating (zj h₂ (fun r s₃ h₃=>yc (wpAny_letTemporaryGo (yp h₃))) fun _ _ x=>x)
 first
  | exact yp (yc fin)
  | exact yc (yp (yc fin))
  | exact yc fin
theorem qS {X:Cx}{pins:List (Addr×Obj)}{σ:St}{H:Hp}{s:Shared}{a:Addr}{y:V}{o:Option V} (I:Inv X pins σ H s) (g:DGet H a y o):s.TypeIs (.ref a) "dict":=by
 rcases g with⟨kvs,k,e,_,_⟩|⟨kvs,k,b,e,_,_,_⟩
 ·obtain⟨_,_,vs,_,dd⟩:=mn I.hok e
  exact dd.typeIs
 ·obtain⟨_,_,xs,_,dd⟩:=mj I.hok e
  exact dd.typeIs
def tDGet (td ty:TE):TE:=fun σ H Q=>td σ H fun x H1=>ty σ H1 fun y H2=>∃ a v,x=.ref a/\DGet H2 a y (some v)/\Q v H2
def tDIn (ty td:TE):TE:=fun σ H Q=>ty σ H fun y H1=>td σ H1 fun x H2=>∃ a o,x=.ref a/\DGet H2 a y o/\Q (.bl o.isSome) H2
def wH (ty td:TE):TE:=fun σ H Q=>ty σ H fun y H1=>td σ H1 fun x H2=>∃ a o,x=.ref a/\DGet H2 a y o/\Q (.bl (!o.isSome)) H2
def sDPut (td ty tv:TE):TS:=fun D σ H=>tv σ H fun v H1=>td σ H1 fun x H2=>ty σ H2 fun y H3=>∃ a H4,x=.ref a/\DPut H3 a y v H4/\D.nx σ H4
section
variable {X : Cx}{o i e value : Expr}{pos pos' tpos : Pos}{td ty tv : TE}
theorem bL (hu:X.A.units+1<cLine)(ho:PE X o td)(hi:PE X i ty)(hs:NoSl i):PE X (.Subscript o i pos) (tDGet td ty):=by
 intro pins s σ H Q I h
 refine wJ PySem.F.slot_dict_getitem.lookup hs (thn (ho pins s σ H _ I h) fun u s1 ⟨x,H1,I1,rx,q1⟩=>thn (hi pins s1 σ H1 _ I1 q1) fun iv s2 ⟨y,H2,I2,ry,a,v,ex,g,q2⟩=>?_)
 subst ex
 obtain rfl:u=Value.ref a:=rx
 exact⟨qS I2 g,uF hu I2 g ry fun w' s3 I3 rw'=>⟨v,H2,I3,rw',q2⟩⟩
theorem oH (hu:X.A.units+1<cLine)(hi:PE X i ty)(ho:PE X o td):PC X .In i o (tDIn ty td):=by
 intro pins s σ H Q I h
 refine thn (hi pins s σ H _ I h) fun iv s1 ⟨y,H1,I1,ry,q1⟩=>thn (ho pins s1 σ H1 _ I1 q1) fun u s2 ⟨x,H2,I2,rx,a,ov,ex,g,q2⟩=>?_
 subst ex
 obtain rfl:u=Value.ref a:=rx
 exact d_in hu I2 g ry fun s3 I3=>⟨.bl ov.isSome,H2,I3,rfl,q2⟩
theorem eU (hu:X.A.units+1<cLine)(hi:PE X i ty)(ho:PE X o td):PC X .NotIn i o (wH ty td):=by
 intro pins s σ H Q I h
 refine thn (hi pins s σ H _ I h) fun iv s1 ⟨y,H1,I1,ry,q1⟩=>thn (ho pins s1 σ H1 _ I1 q1) fun u s2 ⟨x,H2,I2,rx,a,ov,ex,g,q2⟩=>?_
 subst ex
 obtain rfl:u=Value.ref a:=rx
 exact xW hu I2 g ry fun s3 I3=>⟨.bl (!ov.isSome),H2,I3,rfl,q2⟩
theorem cO (hu:X.A.units+1<cLine)(ho:PE X o td)(hi:PE X i ty)(hv:PE X value tv)(hs:swapsWith value (some (.Subscript o i pos')) pos.line X.env=pure false):
  PS X (.Assign [.Subscript o i pos'] value pos) (sDPut td ty tv):=by
 intro pins s σ H D I h
 refine wpAny_Assign_Subscript (thn (hv pins s σ H _ I h) fun r s1 ⟨v,H1,I1,rv,q1⟩=>thn (ho pins s1 σ H1 _ I1 q1) fun u s2 ⟨x,H2,I2,rx,q2⟩=>thn (hi pins s2 σ H2 _ I2 q2) fun iv s3 ⟨y,H3,I3,ry,a,H4,ex,g,q3⟩=>?_) hs
 subst ex
 obtain rfl:u=Value.ref a:=rx
 exact uE hu I3 g ry rv fun s4 I4=>⟨σ,H4,I4,q3⟩
end
theorem qR {P:Program}{w:World}{H:Hp} (h:Heap) (hb:sysModules<h.objs.size):ObjOk P w H (h.push { cls:=.type "dict",data:=.dict #[] }) h.objs.size (.dK []):=
 ⟨yP _,Ag.mpr (Ne.symm (yS hb)),[],.nil,Heap.DictOf.new h⟩
def tDNewK:TE:=fun _ H Q=>∀ p,H p=none->Q (.ref p) (upd H p (.dK []))
section
variable {X : Cx}{pos : Pos}
theorem gm:PE X (.Dict [] [] pos) tDNewK:=fun pins s σ H Q I h=>
 wpAny_Dict_empty ⟨.ref s.heap.objs.size,_,I.laid (a:=s.heap.objs.size) (o:=.dK []) (t':=s.toks) (fun _ _ q=>yg _ q) (yi _) (qR s.heap I.big),rfl,h _ (I.hok.fresh (yi _))⟩
end
def rA:List (TE×TE)->St->Hp->(List (V×V)->Hp->Prop)->Prop
 | [],_,H,Q=>Q [] H
 | (tk,tv)::r,σ,H,Q=>tk σ H fun x H1=>tv σ H1 fun y H2=>rA r σ H2 fun ps H3=>Q ((x,y)::ps) H3
abbrev VV:List (V×V)->List (Value×Value)->Prop:=Paired fun p q=>RelV p.1 q.1/\RelV p.2 q.2
def PPs (X:Cx)(pos:Pos)(keys:List (Option Expr))(values:List Expr)(trs:List (TE×TE)):Prop:=
 ∀ (pins:List (Addr×Obj))(s:Shared)(σ:St)(H:Hp)(Q:List (V×V)->Hp->Prop),Inv X pins σ H s->rA trs σ H Q->
  wpAny (model X.prog X.w) X.A (evalPairs (pairTrees keys values X.env pos)) (fun vs s'=>∃ ps H',Inv X pins σ H' s'/\VV ps vs/\Q ps H') X.xe s
theorem wV {X:Cx}{pos:Pos}:PPs X pos [] [] []:=fun pins s σ H Q I h=>pairTrees_nil_walk ⟨[],H,I,.nil,h⟩
theorem vg {X:Cx}{pos:Pos}{k v:Expr}{ks:List (Option Expr)}{vs:List Expr}{tk tv:TE}{trs:List (TE×TE)} (hk:PE X k tk) (hv:PE X v tv) (hr:PPs X pos ks vs trs):
  PPs X pos (some k::ks) (v::vs) ((tk,tv)::trs):=fun pins s σ H Q I h=>
 pairTrees_cons_walk (thn (hk pins s σ H _ I h) fun u s1 ⟨x,H1,I1,rx,q1⟩=>thn (hv pins s1 σ H1 _ I1 q1) fun w2 s2 ⟨y,H2,I2,ry,q2⟩=>
  thn (hr pins s2 σ H2 _ I2 q2) fun ws s3 ⟨ps,H3,I3,rel,q3⟩=>⟨(x,y)::ps,H3,I3,.cons ⟨rx,ry⟩ rel,q3⟩)
def eF (kvs more:List (Key×V)):List (Key×V):=more.foldl (fun acc kv=>cT acc kv.1 kv.2) kvs
theorem KV.merge:∀ {more:List (Key×V)}{rs:List (Key×Value)}{kvs:List (Key×V)}{vs:List (Key×Value)},KV more rs->KV kvs vs->KV (eF kvs more) (merged vs rs):=by
 intro more rs kvs vs r
 unfold KV at r
 induction r generalizing kvs vs with
 | nil=>intro q;exact q
 | @cons p q ps qs h t ih=>
  intro r0
  have e:KV (cT kvs p.1 p.2) (stored vs q.1 q.2):=by
   have:=r0.put p.1 h.2
   rw[<- h.1];exact this
  exact ih e
theorem eJ:∀ (more kvs:List (Key×V)),(eF kvs more).length<=kvs.length+more.length
 | [],kvs=>by show kvs.length<=kvs.length+0;omega
 | p::r,kvs=>by
  have h1:=eJ r (cT kvs p.1 p.2)
  have h2:=gw kvs p.1 p.2
  show (eF (cT kvs p.1 p.2) r).length<=_
  rw[yY];omega
theorem mw {P:Program}{w:World}:∀ {kvs:List (Key×V)}{ws:List (Value×Value)},VV (kvs.map fun kv=>(kV kv.1,kv.2)) ws->∃ rs,Carries (aQ P w) ws rs/\KV kvs rs
 | [],_,r=>by rw[Aa]at r;cases r;exact⟨[],zQ,.nil⟩
 | p::kvs,_,r=>by
  rw[yN]at r
  cases r with
  | @cons a b as bs h t=>
   obtain⟨rs,c,q⟩:=mw (P:=P) (w:=w) t
   obtain⟨b1,b2⟩:=b
   exact⟨(p.1,b2)::rs,⟨gY h.1,rfl,c⟩,.cons ⟨rfl,h.2⟩ q⟩
def tDisp (trs:List (TE×TE)):TE:=fun σ H Q=>∀ p,H p=none->rA trs σ (upd H p (.dK [])) fun ps H2=>H2 p=some (.dK [])/\∃ kvs:List (Key×V),ps=kvs.map (fun kv=>(kV kv.1,kv.2))/\kvs.length<=15/\Q (.ref p) (upd H2 p (.dK (eF [] kvs)))
theorem x8 {X:Cx}{pos:Pos}{keys:List (Option Expr)}{values:List Expr}{trs:List (TE×TE)} (h:PPs X pos keys values trs) (hall:keys.all (·.isSome)=true) (hl:keys.length=values.length) (h0:keys≠[])
  (h15:keys.length<=15):PE X (.Dict keys values pos) (tDisp trs):=by
 intro pins s σ H Q I q
 have hn:=I.hok.fresh (yi s.heap.objs.size)
 have I1:=I.laid (a:=s.heap.objs.size) (o:=.dK []) (h':=s.heap.push { cls:=.type "dict",data:=.dict #[] }) (t':=s.toks) (fun _ _ q=>yg _ q) (yi _) (qR s.heap I.big)
 refine wpAny_Dict_walk (knd:=aQ X.prog X.w) hall hl h0 h15 (thn (h pins _ σ _ _ I1 (q _ hn)) fun ws s2 ⟨ps,H2,I2,rel,e,kvs,ep,lk,q2⟩=>?_)
 subst ep
 obtain⟨rs,c,rk⟩:=mw (P:=X.prog) (w:=X.w) rel
 obtain⟨z,hd,vs0,r0,dd⟩:=tD I2.hok e
 cases r0
 refine⟨rs,c,dd,fun h' dd' hs=>⟨.ref s.heap.objs.size,_,?_,rfl,q2⟩⟩
 have hz:(eF [] kvs).length<=sizeLine:=by
  have h1:=eJ kvs []
  rw[Au]at h1
  rw[sizeLine_eq];omega
 have he:∃ q,h'.get? s.heap.objs.size=some q:=let ⟨q,_,_,hq,_⟩:=dd';⟨q,hq⟩
 exact kI I2 (by rw[e];exact zQ) hs he (sE hz hd (rk.merge .nil) dd')
structure M1 (X : Cx) (o : Expr) (m : Str) (apos : Pos) (e : Expr) (cpos : Pos) : Prop where
  base : attributeBase o m X.env (eval o X.env) = eval o X.env
  few : ((backTo cpos (starEach [e] X.env)).all (fun x => !x.1) && (backToKw cpos (keywordEach [] X.env)).all (fun x => x.1.isSome)
    && decide (([e] : List Expr).length + ([] : List Keyword).length + (if ([] : List Keyword).isEmpty then 0 else 1) < 30)) = true
  line : (apos.endLine == cpos.line) = true
  trees : backTo cpos (starEach [e] X.env) = [(false, eval e X.env)]
structure M2 (X : Cx) (o : Expr) (m : Str) (apos : Pos) (e f : Expr) (cpos : Pos) : Prop where
  base : attributeBase o m X.env (eval o X.env) = eval o X.env
  few : ((backTo cpos (starEach [e, f] X.env)).all (fun x => !x.1) && (backToKw cpos (keywordEach [] X.env)).all (fun x => x.1.isSome)
    && decide (([e, f] : List Expr).length + ([] : List Keyword).length + (if ([] : List Keyword).isEmpty then 0 else 1) < 30)) = true
  line : (apos.endLine == cpos.line) = true
  trees : backTo cpos (starEach [e, f] X.env) = [(false, eval e X.env), (false, eval f X.env)]
def IsD (H:Hp)(a:Addr):Prop:=(∃ kvs,Rd H a (.dK kvs))\/∃ kvs,Rd H a (.dT kvs)
theorem sx {X:Cx}{pins:List (Addr×Obj)}{σ:St}{H:Hp}{s:Shared}{a:Addr} (I:Inv X pins σ H s) (d:IsD H a):
  s.TypeIs (.ref a) "dict"/\(∀ b,Value.ref a=.ref b->∃ ob,s.heap.get? b=some ob/\ob.dict=none)/\(a==sysModules)=false:=by
 rcases d with⟨kvs,e⟩|⟨kvs,e⟩
 ·obtain⟨_,hd,vs,_,dd⟩:=mn I.hok e
  refine⟨dd.typeIs,fun b q=>?_,hd⟩
  cases q
  obtain⟨ob,_,_,h1,h2,_⟩:=dd
  exact⟨ob,h1,h2.2.1⟩
 ·obtain⟨_,hd,xs,_,dd⟩:=mj I.hok e
  refine⟨dd.typeIs,fun b q=>?_,hd⟩
  cases q
  obtain⟨ob,_,_,h1,h2,_⟩:=dd
  exact⟨ob,h1,h2.2.1⟩
section
variable {X : Cx}{pins : List (Addr×Obj)}{σ : St}{H : Hp}{s : Shared}{a : Addr}{y d : V}{u r : Value}{o : Option V}{A : Around}{E : Value -> Shared -> Prop}
theorem d_get2 {Q:Value->Shared->Prop}(hu:A.units+1<cLine)(I:Inv X pins σ H s)(g:DGet H a y o)(ry:RelV y u)(rd:RelV d r)(h:∀ w' s',Inv X pins σ H s'->RelV (o.getD d) w'->Q w' s'):
  wpAny (model X.prog X.w) A (call (.builtin "dict.get") [.ref a,u,r]) Q E s:=by
 rcases g with⟨kvs,k,e,ey,l⟩|⟨kvs,k,b,e,ey,eb,l⟩
 ·subst ey
  obtain⟨z,hd,vs,rel,dd⟩:=mn I.hok e
  refine AW PySem.F.slot_dict_get dd.typeIs PySem.F.entry_dict_get (PySem.F.args_dict_get_3 _ _ _) (meets_dict_get_default (aQ X.prog X.w) a (gY ry) hd r) ⟨_,dd.mapOf,h _ _ (I.tok _) ?_⟩
  rw[l]
  exact (rel.val k).getD rd
 ·subst ey
  cases (show u=Value.ref b from ry)
  obtain⟨z,hd,xs,rel,dd⟩:=mj I.hok e
  refine AW PySem.F.slot_dict_get dd.typeIs PySem.F.entry_dict_get (PySem.F.args_dict_get_3 _ _ _) (meetsH_dict_get_default (tupleKind (aQ X.prog X.w)) a b hd r) ⟨AM hu,k,xs,jJ I.hok eb,dd,h _ _ (I.tok _) ?_⟩
  rw[l]
  exact (rel.val k).getD rd
end
def tDGet2 (td ty tx:TE):TE:=fun σ H Q=>td σ H fun x H1=>∃ a,x=.ref a/\IsD H1 a/\ty σ H1 fun y H2=>tx σ H2 fun z H3=>∃ o,DGet H3 a y o/\Q (o.getD z) H3
def tDPop1 (td ty:TE):TE:=fun σ H Q=>td σ H fun x H1=>∃ a,x=.ref a/\IsD H1 a/\ty σ H1 fun y H2=>∃ kvs k v,H2 a=some (.dK kvs)/\y=kV k/\b7 kvs k=some v/\Q v (upd H2 a (.dK (ff kvs k)))
def tDPop2 (td ty tx:TE):TE:=fun σ H Q=>td σ H fun x H1=>∃ a,x=.ref a/\IsD H1 a/\ty σ H1 fun y H2=>tx σ H2 fun z H3=>∃ kvs k,H3 a=some (.dK kvs)/\y=kV k/\
 (∀ v,b7 kvs k=some v->Q v (upd H3 a (.dK (ff kvs k))))/\(b7 kvs k=none->Q z H3)
section
variable {X : Cx}{o e f : Expr}{apos cpos : Pos}{td ty tx : TE}
theorem vo (hu:X.A.units+1<cLine)(ho:PE X o td)(he:PE X e ty)(hf:PE X f tx)(m:M2 X o "get" apos e f cpos):PE X (.Call (.Attribute o "get" apos) [e,f] [] cpos) (tDGet2 td ty tx):=by
 intro pins s σ H Q I h
 refine wpAny_Call_method m.base m.few m.line PySem.F.plainAttrs_dict PySem.F.slot_dict_get PySem.F.type_dict_get (thn (ho pins s σ H _ I h) fun u s1 ⟨x,H1,I1,rx,a,ex,d,q1⟩=>?_)
 subst ex
 obtain rfl:u=Value.ref a:=rx
 obtain⟨t1,t2,_⟩:=sx I1 d
 refine⟨t1,t2,?_⟩
 rw[m.trees]
 refine zM rfl (Be (Aq (thn (he pins s1 σ H1 _ I1 q1) fun iv s2 ⟨y,H2,I2,ry,q2⟩=>
  Aq (thn (hf pins s2 σ H2 _ I2 q2) fun fv s3 ⟨z,H3,I3,rz,ov,g,q3⟩=>Bt ?_))))
 exact d_get2 hu I3 g ry rz fun w' s4 I4 rw'=>⟨_,H3,I4,rw',q3⟩
theorem vn (ho:PE X o td)(he:PE X e ty)(m:M1 X o "pop" apos e cpos):PE X (.Call (.Attribute o "pop" apos) [e] [] cpos) (tDPop1 td ty):=by
 intro pins s σ H Q I h
 refine wpAny_Call_method m.base m.few m.line PySem.F.plainAttrs_dict B0 PySem.F.type_dict_pop (thn (ho pins s σ H _ I h) fun u s1 ⟨x,H1,I1,rx,a,ex,d,q1⟩=>?_)
 subst ex
 obtain rfl:u=Value.ref a:=rx
 obtain⟨t1,t2,_⟩:=sx I1 d
 refine⟨t1,t2,?_⟩
 rw[m.trees]
 refine zM rfl (Be (Aq (thn (he pins s1 σ H1 _ I1 q1) fun iv s2 ⟨y,H2,I2,ry,kvs,k,v,ea,ey,l,q2⟩=>Bt ?_)))
 subst ey
 exact d_pop I2 ea ry l (.inl rfl) fun w' s3 I3 rw'=>⟨v,_,I3,rw',q2⟩
theorem vm (ho:PE X o td)(he:PE X e ty)(hf:PE X f tx)(m:M2 X o "pop" apos e f cpos):PE X (.Call (.Attribute o "pop" apos) [e,f] [] cpos) (tDPop2 td ty tx):=by
 intro pins s σ H Q I h
 refine wpAny_Call_method m.base m.few m.line PySem.F.plainAttrs_dict B0 PySem.F.type_dict_pop (thn (ho pins s σ H _ I h) fun u s1 ⟨x,H1,I1,rx,a,ex,d,q1⟩=>?_)
 subst ex
 obtain rfl:u=Value.ref a:=rx
 obtain⟨t1,t2,_⟩:=sx I1 d
 refine⟨t1,t2,?_⟩
 rw[m.trees]
 refine zM rfl (Be (Aq (thn (he pins s1 σ H1 _ I1 q1) fun iv s2 ⟨y,H2,I2,ry,q2⟩=>
  Aq (thn (hf pins s2 σ H2 _ I2 q2) fun fv s3 ⟨z,H3,I3,rz,kvs,k,ea,ey,q3,q4⟩=>Bt ?_))))
 subst ey
 cases l:b7 kvs k with
 | some v=>exact d_pop I3 ea ry l (.inr ⟨fv,rfl⟩) fun w' s4 I4 rw'=>⟨v,_,I4,rw',q3 v l⟩
 | none=>exact d_popD I3 ea ry l fun s4 I4=>⟨z,H3,I4,rz,q4 l⟩
end
section
variable {X : Cx}{pins : List (Addr×Obj)}{σ : St}{H : Hp}{s : Shared}{a : Addr}{kvs : List (Key×V)}{A : Around}{E : Value -> Shared -> Prop}
end
section
variable {X : Cx}{pins : List (Addr×Obj)}{σ : St}{H : Hp}{s : Shared}{a : Addr}{y : V}{u : Value}{A : Around}{E : Value -> Shared -> Prop}
end
def RawD (h:Heap)(d:Addr)(es:Array DictEntry)(ep:Nat):Prop:=∃ o,h.get? d=some o/\o.ExactDict/\o.data=.dict es ep
theorem RawD.to {h h':Heap}{d:Addr}{es:Array DictEntry}{ep:Nat} (x:RawD h d es ep) (k:∀ o,h.get? d=some o->h'.get? d=some o):RawD h' d es ep:=let ⟨o,a,r⟩:=x;⟨o,k o a,r⟩
section
variable {prog : Program}{w : World}{A : Around}{E : Value -> Shared -> Prop}{s : Shared}{it d : Addr}{es : Array DictEntry}{i n ep : Nat}
theorem RawD.ty (x:RawD s.heap d es ep):s.TypeIs (.ref d) "dict":=let ⟨o,a,c,_⟩:=x;⟨o,a,c.1⟩
theorem vc {Q:Value->Shared->Prop}(hd:(d==sysModules)=false)(x:RawD s.heap d es ep)(hQ:Q (.ref s.heap.objs.size) { s with heap:=s.heap.push { cls:=.type "dict_keyiterator",data:=.fields #[.ref d,.int 0 0,.int es.size 0,.int ep 0] } }):
  wpAny (model prog w) A (pyIter (.ref d)) Q E s:=by
 have T:=x.ty
 obtain⟨o,a,_,b⟩:=x
 refine wpAny_pyIter_slot T F.slot_dict_iter (wpAny_call_entry F.slot_dict_iter T F.entry_dict_iter ?_ (F.args_dict_iter_1 _))
 unfold Builtin.«dict.__iter__» Builtin.Dict.dictSlotNone Builtin.Dict.showsAll
 refine yc (yc (wpAny_notOrdered_dict T (yp ?_)))
 refine yc (show wpAny _ _ (pure d:Sem Addr) _ _ s from yp ?_)
 rw[if_neg (by rw[hd];intro z;cases z)]
 refine yc (yp (yc (Bp a b (yc (wpAny_dictEpoch a b (yc (zZ (yp ⟨_,rfl,"dict_keyiterator",_,⟨_,yC _ rfl,rfl⟩,F.slot_dict_keyiterator_next.lookup,?_⟩))))))))
 exact hQ
theorem vd {Q:Option Value->Shared->Prop}(I:s.heap.IsKeyIter it d i es.size ep)(x:RawD s.heap d es ep)(hi:i<es.size)
  (hQ:∀ h',h'.IsKeyIter it d (i+1) es.size ep->Heap.SameBut it s.heap h'->Q (some es[i].key) { s with heap:=h' }):wpAny (model prog w) A (pyNext (.ref it)) Q E s:=by
 have T:=I.typeIs
 obtain⟨u,u1,u2,u3⟩:=id I
 obtain⟨o,a,_,b⟩:=x
 unfold pyNext
 refine yc (Bu (wpAny_callSpecial?_slot (name:=Str.ofString "__next__") T Av (wpAny_call_entry Av T F.entry_dict_keyiterator_next ?_ (F.args_dict_keyiterator_next_1 _))))
 refine yc (yp (yc (yc ?_)))
 refine yc (An T (yp (yc (wpAny_fieldsOf u1 u3 ?_))))
 simp only[show Builtin.Dict_items.ownsTuple "dict_keyiterator"=false by decide,zI,As]
 show wpAny _ _ (if (Value.ref d==Value.none)=true then _ else _) _ _ s;rw[if_neg (fun z=>nomatch z)]
 refine yc (yp (yc (Bp a b ?_)))
 rw[if_neg (by simp)];refine yc (yp (yc (wpAny_dictEpoch a b ?_)))
 rw[if_neg (by simp)];refine yp ?_
 simp only[show ¬ ((i:Int)<0) by omega,As,zm,zX hi]
 refine yc (yc (An T (yp (yc (wpAny_isOneOf_keyiter T ?_)))))
 show wpAny _ _ (setField (.ref it) 1 (rawInt ((i:Int)+1)) >>= _) _ _ s;refine yc (AA u1 u3 (by simp) ?_)
 have J:(s.heap.update it (Obj.mapFields (·.setIfInBounds 1 (rawInt ((i:Int)+1))))).IsKeyIter it d (i+1) es.size ep:=⟨_,zP _ u1 (Obj.isFreed_of_fields (Bl u3 _)),(Obj.cls_mapFields ..).trans u2,by rw[Bl u3];simp[rawInt]⟩
 refine yc (zu (yc (wpAny_isOneOf_keyiter (s:={ s with heap:=s.heap.update it (Obj.mapFields (·.setIfInBounds 1 (rawInt ((i:Int)+1)))) }) J.typeIs ?_)))
 show wpAny _ _ (pure es[i].key) _ _ _;exact yp (yp ⟨_,rfl,yp (hQ _ J (Heap.SameBut.update ..))⟩)
theorem wS {Q:Option Value->Shared->Prop}(hh:A.handled=none)(I:s.heap.IsKeyIter it d i es.size ep)(x:RawD s.heap d es ep)(hi:es.size<=i)
  (hQ:∀ h',Heap.ExtBut it s.heap h'->Q none { s with heap:=h' }):wpAny (model prog w) A (pyNext (.ref it)) Q E s:=by
 have T:=I.typeIs
 obtain⟨u,u1,u2,u3⟩:=id I
 obtain⟨o,a,_,b⟩:=x
 unfold pyNext
 refine yc (Bu (wpAny_callSpecial?_slot (name:=Str.ofString "__next__") T Av (wpAny_call_entry Av T F.entry_dict_keyiterator_next ?_ (F.args_dict_keyiterator_next_1 _))))
 refine yc (yp (yc (yc ?_)))
 refine yc (An T (yp (yc (wpAny_fieldsOf u1 u3 ?_))))
 simp only[show Builtin.Dict_items.ownsTuple "dict_keyiterator"=false by decide,zI,As]
 show wpAny _ _ (if (Value.ref d==Value.none)=true then _ else _) _ _ s;rw[if_neg (fun z=>nomatch z)]
 refine yc (yp (yc (Bp a b ?_)))
 rw[if_neg (by simp)];refine yc (yp (yc (wpAny_dictEpoch a b ?_)))
 rw[if_neg (by simp)];refine yp ?_
 simp only[show ¬ ((i:Int)<0) by omega,As,zm,Array.getElem?_eq_none hi]
 refine yc (yc (An T (yp ?_)))
 show wpAny _ _ (setField (.ref it) 0 .none >>= _) _ _ s;refine yc (AA u1 u3 (by simp) ?_)
 show wpAny _ _ (newExc (.type "StopIteration") [] >>= _) _ _ _;refine yc ?_
 simp only[newExc,newTuple];refine yc (zZ ?_ (by size_fits))
 refine yc (m:=firstArgMember _ _) (wpAny_of_eq (a:=Value.none) (by first|rfl|(simp only[firstArgMember];rfl)) (zZ ?_ (by size_fits)))
 simp only[raiseNew];refine yc (wpAny_handled ?_);rw[show A.in1.handled=none from hh]
 refine yc (yp (wpAny_throw ?_));refine yc (wpAny_isInstance (T:="StopIteration") (b:=true) ⟨_,yC _ rfl,rfl⟩ isSubtype_stop (yp ?_))
 exact hQ _ (((Heap.SameBut.update ..).extBut.push _).push _)
theorem u5 (hh:A.handled=none)(I:Addr)(hne:d≠I):Walks prog w A I [I,d] [I] es.size (fun i v=>(es[i]?).map (·.key)=some v) (fun i h=>h.IsKeyIter I d i es.size ep/\RawD h d es ep) where
 sub:=fun b hb=>by simp at hb;simp[hb]
 frame:=fun _ _ _ st hk=>⟨st.1.at fun o e=>hk I (by simp) o e,st.2.to fun o e=>hk d (by simp) o e⟩
 item:=fun i s Q E hi st hQ=>vd st.1 st.2 hi fun h' J hs=>hQ _ h' s.toks (by rw[zX hi];rfl) ⟨J,st.2.to fun o e=>hs.extBut d o hne e⟩ fun b o hb e=>hs.extBut b o (fun h=>hb (by simp[h])) e
 done:=fun s Q E st hQ=>wS hh st.1 st.2 (yi _) fun h' he=>hQ h' s.toks fun b o hb e=>he b o (fun h=>hb (by simp[h])) e
 self:=fun _ _ _ _ st hQ=>wpAny_pyIter_keyiter st.1 hQ
theorem wP (lo:(d==sysModules)=false):PySem.W.KdlSrc prog w "dict" d d es.size (fun i v=>(es[i]?).map (·.key)=some v) (fun h=>RawD h d es ep) where
 type:=fun _ x=>x.ty
 there:=fun _ ⟨_,a,_⟩=>⟨yt a,yt a⟩
 keep:=fun _ _ x hk=>x.to fun o e=>hk d (.inl rfl) o e
 notList:=by decide
 notTuple:=by decide
 hint:=fun _ _ _ _ x hq=>PySem.W.kdl_hint_dict x.ty hq
 iter:=fun _ s hh x=>⟨_,_,(fun _ _ hq=>vc lo x hq),u5 (es:=es) (ep:=ep) hh _ (let ⟨_,a,_⟩:=x;yS (yt a)),⟨⟨_,yC _ rfl,rfl,rfl⟩,x.to fun _ e=>yg _ e⟩⟩
end
section
variable {X : Cx}
theorem mJ {prog:Program}{w:World}{d:Addr} (lo:(d==sysModules)=false):MeetsIn prog w (Builtin.«dict.__len__» ⟨[.ref d],[]⟩) (fun _ R s=>∃ es ep,RawD s.heap d es ep/\R (.ok (.ret (.int es.size s.toks))) { s with toks:=s.toks+1 }):=
 .of_wp fun A R s ⟨es,ep,⟨o,a,_,b⟩,h⟩=>by
  show wpAny _ _ (dictSize d >>= _) _ _ s;unfold dictSize;refine yc (yc (Bp a b (yp ?_)))
  show wpAny _ _ (Builtin.Dict.pendingCount d >>= _) _ _ s;refine yc (wpAny_pendingCount_other lo (wpAny_ret_mkInt ?_))
  rw[Nat.add_zero];exact h
theorem wQ {prog:Program}{w:World}{A:Around}{E:Value->Shared->Prop}{s:Shared}{d:Addr}{es:Array DictEntry}{ep:Nat}{Q:Value->Shared->Prop} (lo:(d==sysModules)=false) (x:RawD s.heap d es ep) (fit:(es.size:Int)<2 ^ 63)
  (h:Q (.int es.size (s.toks+1)) { s with toks:=s.toks+1+1 }):wpAny (model prog w) A (call (.builtin "len") [.ref d]) Q E s:=by
 refine Calls.call_function_entry kind_len plain_len entry_len (args_len1 _) ?_
 unfold Builtin.«len»;refine yc (m:=oneArg "len" _) (yp ?_)
 refine yc (m:=callSpecial? (.ref d) (Str.ofString "__len__")) (wpAny_callSpecial?_slot (name:=Str.ofString "__len__") x.ty F.slot_dict_len (AW F.slot_dict_len x.ty F.entry_dict_len (F.args_dict_len_1 _) (mJ lo) ⟨es,ep,x,?_⟩))
 show wpAny _ _ _ _ _ { s with toks:=s.toks+1 };refine yc (zu (yp (yc (wpAny_letGo ?_))))
 show wpAny _ _ (if ((es.size:Nat):Int)<0 then _ else _) _ _ _;rw[if_neg (by omega)]
 show wpAny _ _ (if ((es.size:Nat):Int) ≥ 2 ^ 63 then _ else _) _ _ _;rw[if_neg (by omega)]
 exact yc (wpAny_mkInt (yp ⟨_,rfl,h⟩))
end
section
variable {X : Cx}{pins : List (Addr×Obj)}{σ : St}{H : Hp}{s : Shared}{d : Addr}{o : Obj}{kvs : List (Key×V)}
def NF (X:Cx)(d:Addr):Prop:=∀ o u,X.H₀ d≠some (.frz o u)
theorem Inv.nf (I:Inv X pins σ H s)(hd:H d=some (.dK kvs)):NF X d:=fun o u z=>by
 have:=I.base.frzs d o u z
 rw[hd]at this;cases this
theorem kN {P:Program}{w:World}{h:Heap}{a:Addr}{o u:HO}{H:Hp}{v:HO} (x:ObjOk P w H h a o) (hd:H d=some u) (h1:∀ b,u≠.own b) (h2:∀ xs,u≠.tup xs):ObjOk P w (upd H d v) h a o:=
 x.stay (fun _ _ _ q=>q) (fun b q=>by rw[af (fun z=>by rw[z,hd]at q;exact h1 _ (Option.some.inj q))];exact q) fun b xs q=>by rw[af (fun z=>by rw[z,hd]at q;exact h2 _ (Option.some.inj q))];exact q
theorem Inv.redress {u v:HO}(I:Inv X pins σ H s)(hd:H d=some u)(h1:∀ b,u≠.own b)(h2:∀ xs,u≠.tup xs)(h3:∀ ps,u≠.tbl ps)(h4:∀ o' u',X.H₀ d=some (.frz o' u')->False)(new:ObjOk X.prog X.w (upd H d v) s.heap d v):Inv X pins σ (upd H d v) s where
 ok:=I.ok
 os:=I.os
 bare:=I.bare
 base:=⟨I.base.keep,I.base.slot,fun b ob q n hx=>by rw[af (fun z=>by have:=I.base.free b ob q n hx;rw[z,hd]at this;cases this)];exact I.base.free b ob q n hx,I.base.there,
  fun b xs q=>by have:=I.base.tups b xs q;rw[af (fun z=>by rw[z,hd]at this;exact h2 _ (Option.some.inj this))];exact this,
  fun b ob w q=>(af (fun z:b=d=>h4 ob w (show X.H₀ d=some (.frz ob w) by rw[<- z];exact q))).trans (I.base.frzs b ob w q),
  fun b ps q=>by obtain⟨m,e⟩:=I.base.tbls b ps q;exact⟨m,by rw[af (fun z=>by rw[z,hd]at e;exact h3 _ (Option.some.inj e))];exact e⟩⟩
 loc:=I.loc
 cell:=I.cell
 free:=by rw[af (fun z=>by have:=I.free;rw[z,hd]at this;cases this)];exact I.free
 freeC:=fun x c e=>by rw[af (fun z=>by have:=I.freeC x c e;rw[z,hd]at this;cases this)];exact I.freeC x c e
 pin:=fun p hp=>by
  obtain⟨a1,a2,a3⟩:=I.pin p hp
  exact⟨a1,by rw[af (fun z=>by rw[z,hd]at a2;cases a2)];exact a2,a3⟩
 hok:=fun a ob e=>by
  by_cases ha:a=d
  ·subst ha;rw[a9]at e;cases e;exact new
  ·rw[af ha]at e;exact kN (I.hok a ob e) hd h1 h2
 len:=I.len
theorem Inv.freeze (I:Inv X pins σ H s)(hd:H d=some (.dK kvs))(ho:s.heap.get? d=some o):Inv X pins σ (upd H d (.frz o (.dK kvs))) s:=
 I.redress hd (fun _ z=>nomatch z) (fun _ z=>nomatch z) (fun _ z=>nomatch z) (fun o u z=>I.nf hd o u z) ⟨ho,kN (I.hok d _ hd) hd (fun _ z=>nomatch z) fun _ z=>nomatch z⟩
theorem Inv.thaw (I:Inv X pins σ H s)(hd:H d=some (.frz o (.dK kvs)))(nf:NF X d):Inv X pins σ (upd H d (.dK kvs)) s:=
 I.redress hd (fun _ z=>nomatch z) (fun _ z=>nomatch z) (fun _ z=>nomatch z) (fun o u z=>nf o u z) (kN (I.hok d _ hd).2 hd (fun _ z=>nomatch z) fun _ z=>nomatch z)
end
def Itk (o:Obj)(d:Addr):It:=
 ⟨fun i H=>∃ kvs kv,H d=some (.frz o (.dK kvs))/\kvs[i]?=some kv,fun i H x H'=>H'=H/\∀ kvs,H d=some (.frz o (.dK kvs))->∃ kv,kvs[i]?=some kv/\x=kV kv.1,fun i H=>∃ kvs,H d=some (.frz o (.dK kvs))/\kvs.length<=i⟩
def Itv (o:Obj)(d:Addr):It:=
 ⟨fun i H=>∃ kvs kv,H d=some (.frz o (.dK kvs))/\kvs[i]?=some kv,fun i H x H'=>H'=H/\∀ kvs,H d=some (.frz o (.dK kvs))->∃ kv,kvs[i]?=some kv/\x=kv.2,fun i H=>∃ kvs,H d=some (.frz o (.dK kvs))/\kvs.length<=i⟩
theorem oW {P:Program}{w:World}{k:Key}{u:Value} (h:(aQ P w).is k u=true):RelV (kV k) u:=by
 rcases bo (k:=k) (v:=u) h with⟨i,t,rfl,rfl⟩|⟨x,t,rfl,rfl⟩
 ·exact⟨t,rfl⟩
 ·exact⟨t,rfl⟩
section
variable {X : Cx}{pins : List (Addr×Obj)}{σ : St}{H : Hp}{s : Shared}{d : Addr}{o : Obj}{es : Array DictEntry}{ep : Nat}{kvs : List (Key×V)}
theorem Inv.frd (I:Inv X pins σ H s)(hd:H d=some (.frz o (.dK kvs)))(ed:o.data=.dict es ep):∃ vs,KV kvs vs/\s.heap.DictAt (aQ X.prog X.w) d vs ep/\vs.length=es.size:=by
 obtain⟨ho,z,lo,vs,r,ob,es',ep',e1,c1,c2,c3,c4,c5⟩:=I.hok d _ hd
 rw[ho]at e1;cases e1
 rw[ed]at c2;cases c2
 refine⟨vs,r,⟨o,es,ho,c1,ed,c3,c4,c5⟩,?_⟩
 have:=c4.length
 rw[<- this];simp
theorem tT {tg:Expr}{P:Program}{w:World}{K:PySem.W.Frag} (it d:Addr) (o:Obj) {es:Array DictEntry}{ep:Nat} (ed:o.data=.dict es ep):sO P w K tg (Itk o d) [it] it (fun i h=>h.IsKeyIter it d i es.size ep) where
 mem:=by simp
 obj:=fun i h st b hb=>by
  have e:b=it:=by simpa using hb
  subst e
  obtain⟨o,e,c,d⟩:=st
  exact⟨o,e,fun v z=>by rw[d]at z;cases z⟩
 keep:=fun i h h' st k=>st.at fun o e=>k it (by simp) o e
 item:=by
  intro X hP hw hK hc i pins s σ H E I hf st hg
  subst hP hw hK
  obtain⟨kvs,kv,hd,hx⟩:=hg
  obtain⟨vs,r,da,hl⟩:=I.frd hd ed
  obtain⟨f0,f1,f2,f3,f4,f5⟩:=hf it (by simp)
  obtain⟨q,hq,hr⟩:=Paired.at r hx
  rw[<- hl]at st
  refine wpAny_pyNext_dict_item st da (k:=q.1) (v:=q.2) hq fun key h' hkey st' sb=>?_
  have I1:Inv X pins σ H { s with heap:=h' }:=I.turned (t':=s.toks) (fun b o hb e=>(sb.2 b hb).trans e) f0 f1 f3 f4 f5
  obtain⟨o',e',c',d'⟩:=id st'
  rw[hl]at st'
  refine⟨key,rfl,qL (s:={ s with heap:=h' }) e' c' d' (by decide) ⟨kV kv.1,H,I1,?_,⟨rfl,fun kvs' hd'=>?_⟩,st',fun b hb=>(hf b hb).1⟩⟩
  ·rw[hr.1];exact oW hkey
  ·rw[hd]at hd';cases hd';exact⟨kv,hx,rfl⟩
 done:=by
  intro X hP hw hK hc i pins s σ H E I hf st hg
  subst hP hw hK
  obtain⟨kvs,hd,hx⟩:=hg
  obtain⟨vs,r,da,hl⟩:=I.frd hd ed
  obtain⟨f0,f1,f2,f3,f4,f5⟩:=hf it (by simp)
  rw[<- hl]at st
  have:=KV.length r
  exact wpAny_pyNext_dict_end (I.ok.hd hc) st da (yo (by omega)) fun h' eb=>⟨rfl,I.turned (t':=s.toks) (fun b o hb e=>eb b o hb e) f0 f1 f3 f4 f5⟩
 self:=fun _ _ _ _ _ st h=>wpAny_pyIter_keyiter st h
theorem tR {tg:Expr}{P:Program}{w:World}{K:PySem.W.Frag} (it d:Addr) (o:Obj) {es:Array DictEntry}{ep:Nat} (ed:o.data=.dict es ep):sO P w K tg (Itv o d) [it] it (fun i h=>h.IsValIter it d i es.size ep) where
 mem:=by simp
 obj:=fun i h st b hb=>by
  have e:b=it:=by simpa using hb
  subst e
  obtain⟨o,e,c,d⟩:=st
  exact⟨o,e,fun v z=>by rw[d]at z;cases z⟩
 keep:=fun i h h' st k=>st.at fun o e=>k it (by simp) o e
 item:=by
  intro X hP hw hK hc i pins s σ H E I hf st hg
  subst hP hw hK
  obtain⟨kvs,kv,hd,hx⟩:=hg
  obtain⟨vs,r,da,hl⟩:=I.frd hd ed
  obtain⟨f0,f1,f2,f3,f4,f5⟩:=hf it (by simp)
  obtain⟨q,hq,hr⟩:=Paired.at r hx
  rw[<- hl]at st
  refine wpAny_pyNext_values_item st da (k:=q.1) (v:=q.2) hq fun h' st' sb=>?_
  have I1:Inv X pins σ H { s with heap:=h' }:=I.turned (t':=s.toks) (fun b o hb e=>(sb.2 b hb).trans e) f0 f1 f3 f4 f5
  obtain⟨o',e',c',d'⟩:=id st'
  rw[hl]at st'
  refine⟨q.2,rfl,qL (s:={ s with heap:=h' }) e' c' d' (by decide) ⟨kv.2,H,I1,hr.2,⟨rfl,fun kvs' hd'=>?_⟩,st',fun b hb=>(hf b hb).1⟩⟩
  rw[hd]at hd';cases hd';exact⟨kv,hx,rfl⟩
 done:=by
  intro X hP hw hK hc i pins s σ H E I hf st hg
  subst hP hw hK
  obtain⟨kvs,hd,hx⟩:=hg
  obtain⟨vs,r,da,hl⟩:=I.frd hd ed
  obtain⟨f0,f1,f2,f3,f4,f5⟩:=hf it (by simp)
  rw[<- hl]at st
  have:=KV.length r
  exact wpAny_pyNext_values_end (I.ok.hd hc) st da (yo (by omega)) fun h' eb=>⟨rfl,I.turned (t':=s.toks) (fun b o hb e=>eb b o hb e) f0 f1 f3 f4 f5⟩
 self:=fun _ _ _ _ _ st h=>wpAny_pyIter_valiter st h
end
section
variable {X : Cx}{tg : Expr}
def iDX (X:Cx)(J:Obj->Addr->It)(tl:TE):TI:=fun σ H R=>∃ Q:VK,tl σ H Q/\∀ x H1,Q x H1->∃ d kvs,x=.ref d/\H1 d=some (.dK kvs)/\∀ o,NF X d->R (J o d) (upd H1 d (.frz o (.dK kvs)))
theorem gL {l:Expr}{tl:TE} (hl:PE X l tl):PI X tg l (iDX X Itk tl):=by
 intro pins s σ H R I h
 obtain⟨Q,hq,h⟩:=h
 refine thn (hl pins s σ H _ I hq) fun v s1 ⟨x,H1,I1,r1,q1⟩=>?_
 obtain⟨d,kvs,e,hd,q⟩:=h x H1 q1
 subst e
 cases r1
 obtain⟨z,lo,vs,r,ob,es,ep,ho,c1,c2,c3,c4,c5⟩:=(show ObjOk X.prog X.w H1 s1.heap d (.dK kvs) from I1.hok d _ hd)
 have hsz:vs.length=es.size:=by rw[<- c4.length];simp
 refine wpAny_pyIter_dict (knd:=aQ X.prog X.w) lo (kvs:=vs) (ep:=ep) ⟨ob,es,ho,c1,c2,c3,c4,c5⟩ ?_
 rw[hsz]
 have I2:=I1.freeze hd ho
 refine⟨s1.heap.objs.size,[s1.heap.objs.size],_,_,_,rfl,I2.kept (t':=s1.toks) fun b o e=>yg _ e,tT _ d ob c2,⟨_,yC _ rfl,rfl,rfl⟩,fun b hb=>?_,q ob (I1.nf hd)⟩
 have e:b=s1.heap.objs.size:=by simpa using hb
 subst e
 exact I2.fpOk (yi _) (I2.hok.fresh (yi _))
theorem oG {l:Expr}{tl:TE}{apos cpos:Pos} (hl:PE X l tl)
  (hbase:attributeBase l "values" X.env (eval l X.env)=eval l X.env:=by rfl) (hline:(apos.endLine==cpos.line)=true:=by rfl):PI X tg (.Call (.Attribute l "values" apos) [] [] cpos) (iDX X Itv tl):=by
 intro pins s σ H R I h
 obtain⟨Q,hq,h⟩:=h
 refine wpAny_Call_method0_late hbase hline (thn (hl pins s σ H _ I hq) fun v s1 ⟨x,H1,I1,r1,q1⟩=>?_)
 obtain⟨d,kvs,e,hd,q⟩:=h x H1 q1
 subst e
 cases r1
 obtain⟨z,lo,vs,r,ob,es,ep,ho,c1,c2,c3,c4,c5⟩:=(show ObjOk X.prog X.w H1 s1.heap d (.dK kvs) from I1.hok d _ hd)
 have hsz:vs.length=es.size:=by rw[<- c4.length];simp
 have da:s1.heap.DictAt (aQ X.prog X.w) d vs ep:=⟨ob,es,ho,c1,c2,c3,c4,c5⟩
 refine⟨"dict","dict.values",F.plainAttrs_dict,F.slot_dict_values,F.type_dict_values,da.dictOf.typeIs,fun a e2=>?_,zM rfl (PySem.evalArgs_none ?_)⟩
 ·cases e2
  exact⟨ob,ho,c1.2.1⟩
 refine AW F.slot_dict_values da.dictOf.typeIs F.entry_dict_values (F.args_dict_values_1 _) (meets_dict_values (aQ X.prog X.w) d lo) ⟨⟨vs,da.dictOf⟩,?_⟩
 have I2:=(I1.freeze hd ho).kept (t':=s1.toks) (h':=s1.heap.push { cls:=.type "dict_values",data:=.fields #[.ref d] }) fun b o e=>yg _ e
 show wpAny _ _ _ _ _ { s1 with heap:=s1.heap.push { cls:=.type "dict_values",data:=.fields #[.ref d] } }
 refine wpAny_pyIter_values (s:={ s1 with heap:=s1.heap.push { cls:=.type "dict_values",data:=.fields #[.ref d] } }) ⟨_,yC _ rfl,rfl,rfl⟩ (da.push _) ?_
 rw[hsz]
 refine⟨_,[(s1.heap.push { cls:=.type "dict_values",data:=.fields #[.ref d] }).objs.size],_,_,_,rfl,I2.kept (t':=s1.toks) fun b o e=>yg _ e,tR _ d ob c2,⟨_,yC _ rfl,rfl,rfl⟩,fun b hb=>?_,q ob (I1.nf hd)⟩
 have e:b=(s1.heap.push { cls:=.type "dict_values",data:=.fields #[.ref d] }).objs.size:=by simpa using hb
 subst e
 exact I2.fpOk (yi _) (I2.hok.fresh (yi _))
def nN (N:Addr->Prop)(D:jk):jk where
 nx:=fun σ H=>∃ d o kvs,N d/\H d=some (.frz o (.dK kvs))/\D.nx σ (upd H d (.dK kvs))
 rt:=fun v H=>∃ d o kvs,N d/\H d=some (.frz o (.dK kvs))/\D.rt v (upd H d (.dK kvs))
 bk:=fun σ H=>∃ d o kvs,N d/\H d=some (.frz o (.dK kvs))/\D.bk σ (upd H d (.dK kvs))
 ct:=fun σ H=>∃ d o kvs,N d/\H d=some (.frz o (.dK kvs))/\D.ct σ (upd H d (.dK kvs))
def tForD (J:Obj->Addr->It)(tl:TE)(g:TG)(tb:TS):TS:=fun D σ H=>tl σ H fun x H1=>∃ d kvs,x=.ref d/\H1 d=some (.dK kvs)/\∀ (o:Obj)(N:Addr->Prop),N d->
 ∃ W:Nat->Nat->St->Hp->Prop,(∃ m,W 0 m σ (upd H1 d (.frz o (.dK kvs))))/\∀ i m σ H,W i m σ H->
  ((J o d).stop i H/\(nN N D).nx σ H)\/((J o d).go i H/\∃ M:St->Hp->Prop,(∀ σ' H',M σ' H'->∃ m',m'<m/\W (i+1) m' σ' H')/\∀ x H',(J o d).yld i H x H'->g x σ H' fun σ2 H2=>tb { nN N D with nx:=M,ct:=M,bk:=(nN N D).nx } σ2 H2)
theorem SP.thaw {pins:List (Addr×Obj)}{D:jk}{f:Flow}{s:Shared} (h:SP X pins (nN (NF X) D) f s):SP X pins D f s:=by
 cases f with
 | next=>obtain⟨σ,H,I,d,o,kvs,nf,e,q⟩:=h;exact⟨σ,_,I.thaw e nf,q⟩
 | brk=>obtain⟨σ,H,I,d,o,kvs,nf,e,q⟩:=h;exact⟨σ,_,I.thaw e nf,q⟩
 | cont=>obtain⟨σ,H,I,d,o,kvs,nf,e,q⟩:=h;exact⟨σ,_,I.thaw e nf,q⟩
 | ret v=>obtain⟨x,σ,H,I,r,d,o,kvs,nf,e,q⟩:=h;exact⟨x,σ,_,I.thaw e nf,r,q⟩
theorem oF {J:Obj->Addr->It}{iter:Expr}{body:List Stmt}{tl:TE}{g:TG}{tb:TS}{pos:Pos} (hp:PassesOwn (model X.prog X.w) X.A X.env X.xe) (hc:X.calm=true) (hi:PI X tg iter (iDX X J tl)) (hg:PG X tg g) (hb:PSs X body tb)
  (hs:∀ x,foldedSetIterable iter X.env x=pure x:=by intro _;rfl):PS X (.For tg iter body [] pos) (tForD J tl g tb):=by
 intro pins s σ H D I h
 exact thn (bN hp hc hi hg hb hs pins s σ H (nN (NF X) D) I ⟨_,h,fun x H1 ⟨d,kvs,e,hd,r⟩=>⟨d,kvs,e,hd,fun o nf=>r o _ nf⟩⟩) fun f s' q=>SP.thaw q
variable {elt iter : Expr}{ifs : List Expr}{scope : Scope}{pos : Pos}{nT : Nat}{js : List Nat}{N' : List Str}{g : TG}{tt : TT}{te : TE}
def v3 (J:Obj->Addr->It)(tl:TE)(nT:Nat)(js:List Nat)(g:TG)(tt:TT)(te:TE):TE:=fun σ H Q=>tl σ H fun x H1=>∃ d kvs,x=.ref d/\H1 d=some (.dK kvs)/\∀ (o:Obj)(N:Addr->Prop),N d->
 bi nT js g tt te σ (fun l H'=>∃ d o kvs,N d/\H' d=some (.frz o (.dK kvs))/\Q (.ref l) (upd H' d (.dK kvs))) (J o d) (upd H1 d (.frz o (.dK kvs)))
theorem eS {J:Obj->Addr->It}{tl:TE} (hc:X.calm=true) (S:cq X scope nT js N') (hi:PI X tg iter (iDX X J tl))
  (hg:∀ cells C s H fp,PG (aV X scope N' cells C s H fp) tg g) (ht:∀ cells C s H fp,pC (aV X scope N' cells C s H fp) ifs tt) (he:∀ cells C s H fp,PE (aV X scope N' cells C s H fp) elt te)
  (hs:∀ x,foldedSetIterable iter X.env x=pure x:=by intro _;rfl):PE X (.ListComp elt [⟨tg,iter,ifs,0⟩] scope pos) (v3 J tl nT js g tt te):=by
 intro pins s σ H Q I h
 refine thn (aX hc S hi hg ht he hs pins s σ H (fun v H'=>∃ d o kvs,NF X d/\H' d=some (.frz o (.dK kvs))/\Q v (upd H' d (.dK kvs))) I ⟨_,h,fun x H1 ⟨d,kvs,e,hd,r⟩=>⟨d,kvs,e,hd,fun o nf=>r o _ nf⟩⟩) fun u s' ⟨v,H',I',r',d,o,kvs,nf,e,q⟩=>⟨v,_,I'.thaw e nf,r',q⟩
end
def sgn (x:Str)(i:Nat):Str:=⟨#[x.cps.getD i 0]⟩
def Its (x:Str):It:=⟨fun i _=>i<x.cps.size,fun i H v H'=>H'=H/\v=.str (sgn x i),fun i _=>i=x.cps.size⟩
theorem pI {tg:Expr}{P:Program}{w:World}{K:PySem.W.Frag} (it:Addr) (x:Str) (t:Tok) (ty:String) (hty:["enumerate","zip","dict_itemiterator","dict_reverseitemiterator","odict_iterator","itertools.zip_longest","itertools.pairwise"].contains ty=false)
  (W:∀ A:Around,A.handled=none->Walks P w A it [it] [it] x.cps.size (SignAt x) (fun i h=>h.IsStrIter it ty x t i))
  (hself:∀ (A:Around)(i:Nat)(s:Shared)(Q:Value->Shared->Prop)(E:Value->Shared->Prop),s.heap.IsStrIter it ty x t i->Q (.ref it) s->wpAny (model P w) A (pyIter (.ref it)) Q E s):sO P w K tg (Its x) [it] it (fun i h=>h.IsStrIter it ty x t i) where
 mem:=by simp
 obj:=fun i h st b hb=>by
  have e:b=it:=by simpa using hb
  subst e
  obtain⟨o,e,c,d⟩:=st
  exact⟨o,e,fun v z=>by rw[d]at z;cases z⟩
 keep:=fun i h h' st k=>by
  obtain⟨o,e,r⟩:=st
  exact⟨o,k it (by simp) o e,r⟩
 item:=by
  intro X hP hw hK hc i pins s σ H E I hf st hg
  subst hP hw hK
  obtain⟨f0,f1,f2,f3,f4,f5⟩:=hf it (by simp)
  refine (W X.A (I.ok.hd hc)).item i s _ _ hg st fun v h' tk hv st' kk=>?_
  obtain⟨c,u,hcx,rfl⟩:=hv
  have I1:Inv X pins σ H { s with heap:=h',toks:=tk }:=I.turned (fun b o hb e=>kk b o (by simpa using hb) e) f0 f1 f3 f4 f5
  obtain⟨o',e',c',d'⟩:=id st'
  refine⟨_,rfl,qL (s:={ s with heap:=h',toks:=tk }) e' c' d' hty ⟨.str (sgn x i),H,I1,⟨u,?_⟩,⟨rfl,rfl⟩,st',fun b hb=>(hf b hb).1⟩⟩
  unfold sgn
  rw[Array.getD_eq_getD_getElem?,hcx]
  rfl
 done:=by
  intro X hP hw hK hc i pins s σ H E I hf st hg
  subst hP hw hK
  obtain⟨f0,f1,f2,f3,f4,f5⟩:=hf it (by simp)
  have hi:i=x.cps.size:=hg
  subst hi
  exact (W X.A (I.ok.hd hc)).done s _ _ st fun h' tk kk=>⟨rfl,I.turned (t':=tk) (fun b o hb e=>kk b o (by simpa using hb) e) f0 f1 f3 f4 f5⟩
 self:=fun A i s Q E st h=>hself A i s Q E st h
section
variable {X : Cx}{tg : Expr}
def iStr (tl:TE):TI:=fun σ H R=>tl σ H fun v H1=>∃ x,v=.str x/\R (Its x) H1
theorem pi_str {l:Expr}{tl:TE} (hl:PE X l tl):PI X tg l (iStr tl):=by
 intro pins s σ H R I h
 refine thn (hl pins s σ H _ I h) fun v s1 ⟨z,H1,I1,r1,q1⟩=>?_
 obtain⟨x,rfl,q⟩:=q1
 obtain⟨t,rfl⟩:=r1
 have fp:∀ (b:Addr),b∈[s1.heap.objs.size]->kA X pins H1 b:=fun b hb=>by
  have e:b=s1.heap.objs.size:=by simpa using hb
  subst e
  exact I1.fpOk (yi _) (I1.hok.fresh (yi _))
 cases ha:x.cps.all (·<128)
 ·refine wpAny_pyIter_wide ha ?_
  exact⟨s1.heap.objs.size,[s1.heap.objs.size],_,_,H1,rfl,I1.kept (t':=s1.toks) fun b o e=>yg _ e,pI _ x t "str_iterator" (by decide) (fun A' hA=>Walks.strWide hA _ x t) (fun A i s Q E st h=>wpAny_pyIter_striter_wide st h),⟨_,yC _ rfl,rfl,rfl⟩,fp,q⟩
 ·refine wpAny_pyIter_ascii ha ?_
  exact⟨s1.heap.objs.size,[s1.heap.objs.size],_,_,H1,rfl,I1.kept (t':=s1.toks) fun b o e=>yg _ e,pI _ x t "str_ascii_iterator" (by decide) (fun A' hA=>Walks.strAscii hA _ x t) (fun A i s Q E st h=>wpAny_pyIter_striter_ascii st h),⟨_,yC _ rfl,rfl,rfl⟩,fp,q⟩
theorem uU {bs:List Bool}:(List.range bs.length).all (fun i=>bs.getD i true)=bs.all id:=by
 rw[ze]
 simp only[zJ,Aj]
 constructor
 ·intro h b hb
  obtain⟨i,hi,rfl⟩:=Ah hb
  have:=h i hi
  rwa [yk,yb hi]at this
 ·intro h i hi
  rw[yk,yb hi]
  exact h _ (AF hi)
theorem jP (K:PySem.W.Frag)(hc:X.calm=true)(hK:X.K=K:=by rfl):CallR X (.builtin "all") (fun xs H Q=>∃ (p:Addr)(bs:List Bool),xs=[.ref p]/\SqL K H p (bs.map V.bl)/\Q (.bl (bs.all id)) H):=by
 subst hK
 intro pins s σ H xs us Q I r h
 obtain⟨p,bs,rfl,hq,q⟩:=h
 obtain⟨u,rfl,r1⟩:=fP r
 cases r1
 obtain⟨its,rv,pl,hz⟩:=I.list hq
 have hlen:its.length=bs.length:=by have:=rv.length;rw[y9]at this;omega
 have hpn:p≠s.heap.objs.size:=by
  obtain⟨_,_,e,_⟩:=pl
  exact yS (yt e)
 refine call_all_walk ?_
 refine Bn pl.isList ?_
 refine⟨s.heap.objs.size,[s.heap.objs.size,p],[s.heap.objs.size],its.toArray.size,_,_,fun i=>bs.getD i true,rfl,Walks.list (A:=X.A.in1) (I.ok.hd hc) _ p hpn its.toArray,⟨⟨_,yC _ rfl,rfl,rfl⟩,pl.isList.push _⟩,fun i v s' Q' E' hv hQ=>?_,fun h' tk hk=>?_⟩
 ·have hv:its[i]?=some v:=by simpa using hv
  have hi:i<bs.length:=by rw[<- hlen];exact (yd.mp hv).1
  have hb:(bs.map V.bl)[i]?=some (V.bl bs[i]):=by rw[yf,yb hi];rfl
  obtain⟨w1,e1,r1⟩:=rv.get hb
  rw[hv]at e1;cases e1
  obtain rfl:v=Value.bool bs[i]:=r1
  dsimp only at hQ
  rw[yk,yb hi]at hQ
  exact zE hQ
 ·have e:its.toArray.size=bs.length:=by simp[hlen]
  rw[e,uU]
  refine⟨.bl (bs.all id),H,I.kept (t':=tk) fun b o e=>hk b o (fun z=>?_) (yg _ e),rfl,q⟩
  have z':b=s.heap.objs.size:=by simpa using z
  exact absurd (yt e) (by rw[z'];exact zC _)
theorem gA:CallR X (.builtin "len") (fun xs H Q=>∃ d kvs,xs=[.ref d]/\H d=some (.dK kvs)/\Q (.int kvs.length) H):=by
 intro pins s σ H xs us Q I r h
 obtain⟨d,kvs,rfl,hd,q⟩:=h
 obtain⟨u,rfl,rx⟩:=fP r
 cases rx
 obtain⟨z,lo,vs,rel,o,es,ep,ho,hx,hdat,hk,hp,hnd⟩:=(show ObjOk X.prog X.w H s.heap d (.dK kvs) from I.hok d _ hd)
 have hl:es.size=kvs.length:=by rw[KV.length rel,<- hp.length];simp
 refine wQ lo ⟨o,ho,hx,hdat⟩ (by rw[hl];have:kvs.length<=2 ^ 24:=z;omega) ?_
 rw[hl]
 exact⟨.int kvs.length,H,I.tok _,⟨_,rfl⟩,q⟩
variable {k : Nat}{C : Addr}{ps : List Str}{sp : Sp}{x m : Str}{p pos apos : Pos}{o : Expr}{ta : TE}
theorem bW {pl:Sem Bool}(he:PE X o ta)(D:Dm X.prog X.w X.K X.mg X.base k C m ps sp)(hr:Room k X.A)
  (ht:eval (.Call (.Attribute o m apos) [] [] pos) X.env=(do
   let ov <- eval o X.env
   standAt apos.atName
   let (f,first) <- holding [ov] (getMethod ov m pl)
   callWith pos f first (backTo pos (starEach [] X.env)) (backToKw pos (keywordEach [] X.env))):=by rfl):
  PE X (.Call (.Attribute o m apos) [] [] pos) (pJ C m sp [] E0 ta kg):=by
 obtain⟨f,fd,cl,hm,b,F⟩:=D
 exact vj he cl hm F hr b .nil mY ht
theorem ub (D:Dk X.prog X.w X.K X.mg X.base k x C ps sp)(hr:Room (k+1) X.A)(hg:Gl X x)(hdb:(x==("__debug__":Str))=false:=by decide):
  PE X (.Call (.Name x p) [] [] pos) (sQ C sp [] E0 kg):=by
 obtain⟨f,fd,hm,M,b,F⟩:=D
 exact vk M F hr hg hm b .nil mY hdb
def tMethC (Cs:Addr->Prop)(m:Str)(sp:Addr->Sp)(ta:TE):TE:=fun σ H Q=>ta σ H fun x H1=>∃ a C dx fs,x=.ref a/\Cs C/\H1 a=some (.ins C dx fs)/\fs.lookup m=none/\sp C [x] H1 Q E0
theorem gM {pl:Sem Bool}{Cs:Addr->Prop}{sp:Addr->Sp} (he:PE X o ta) (D:∀ C,Cs C->Dm X.prog X.w X.K X.mg X.base k C m ps (sp C)) (hr:Room k X.A)
  (ht:eval (.Call (.Attribute o m apos) [] [] pos) X.env=(do
   let ov <- eval o X.env
   standAt apos.atName
   let (f,first) <- holding [ov] (getMethod ov m pl)
   callWith pos f first (backTo pos (starEach [] X.env)) (backToKw pos (keywordEach [] X.env))):=by rfl):
  PE X (.Call (.Attribute o m apos) [] [] pos) (tMethC Cs m sp ta):=by
 intro pins s σ H Q I h
 refine Aw (pl:=pl) (thn (he pins s σ H _ I h) fun u s1 ⟨x,H1,I1,rx,a,C,dx,fs,ex,hC,ea,l,q⟩=>?_) ht
 subst ex
 obtain rfl:u=Value.ref a:=rx
 obtain⟨f,fd,cl,hm,b,F⟩:=D C hC
 refine dL I1 ea cl hm l ?_
 exact PySem.W.callWith_K0 (first:=[.ref a]) I1.kIn hm.kp (oC (us:=[.ref a]) (vs:=[.ref a]) (dvs:=[]) F hr b .nil mY I1 (.cons rfl .nil) q)
end
def Itp (pr:Key×V->V)(o:Obj)(d:Addr):It:=
 ⟨fun i H=>∃ kvs kv,H d=some (.frz o (.dK kvs))/\kvs[i]?=some kv,fun i H x H'=>H'=H/\∀ kvs,H d=some (.frz o (.dK kvs))->∃ kv,kvs[i]?=some kv/\x=pr kv,fun i H=>∃ kvs,H d=some (.frz o (.dK kvs))/\kvs.length<=i⟩
theorem sw:Itk=Itp fun kv=>kV kv.1:=rfl
theorem sv:Itv=Itp (·.2):=rfl
theorem bV {H H':Hp}{d:Addr}{o:Obj}{kvs:List (Key×V)} (hd:H d=some (.dK kvs)) (e:Same (upd H d (.frz o (.dK kvs))) H'):Same H (upd H' d (.dK kvs)):=fun b u hb=>by
 by_cases z:b=d
 ·subst z;rw[hd]at hb;cases hb;exact a9
 ·rw[af z]
  exact e b u (by rw[af z];exact hb)
theorem mT {H:Hp}{d:Addr}{o:HO}{kvs:List (Key×V)} (hd:H d=some (.dK kvs)):upd (upd H d o) d (.dK kvs)=H:=by
 funext b
 unfold upd
 by_cases z:b=d
 ·subst z;rw[if_pos rfl,hd]
 ·rw[if_neg z,if_neg z]
section
variable {pr : Key×V -> V}{o : Obj}{d : Addr}{kvs : List (Key×V)}
theorem md {g:TG}{tb:TS}{D:jk}{σ:St}{H:Hp} (Pv:Nat->St->Hp->Prop) (h0:Pv 0 σ H) (hl:∀ i σ H,i<=kvs.length->Pv i σ H->H d=some (.frz o (.dK kvs)))
  (hs:∀ (i:Nat)(kv:Key×V) σ H,kvs[i]?=some kv->Pv i σ H->g (pr kv) σ H fun σ2 H2=>tb { D with nx:=Pv (i+1),ct:=Pv (i+1),bk:=D.nx } σ2 H2) (hd:∀ σ H,Pv kvs.length σ H->D.nx σ H):
  ∃ W:Nat->Nat->St->Hp->Prop,(∃ m,W 0 m σ H)/\∀ i m σ H,W i m σ H->
   ((Itp pr o d).stop i H/\D.nx σ H)\/((Itp pr o d).go i H/\∃ N:St->Hp->Prop,(∀ σ' H',N σ' H'->∃ m',m'<m/\W (i+1) m' σ' H')/\∀ x H',(Itp pr o d).yld i H x H'->g x σ H' fun σ2 H2=>tb { D with nx:=N,ct:=N,bk:=D.nx } σ2 H2):=by
 refine⟨fun i m σ H=>m=kvs.length - i/\i<=kvs.length/\Pv i σ H,⟨kvs.length,by simp,yP _,h0⟩,?_⟩
 rintro i m σ H ⟨rfl,hi,p⟩
 have q:=hl i σ H hi p
 by_cases hlt:i<kvs.length
 ·refine .inr ⟨⟨kvs,kvs[i],q,by simp[hlt]⟩,Pv (i+1),fun σ' H' p'=>⟨kvs.length - (i+1),by omega,rfl,hlt,p'⟩,fun x H' y=>?_⟩
  obtain⟨rfl,y⟩:=y
  obtain⟨kv,e1,rfl⟩:=y kvs q
  exact hs i kv σ H' e1 p
 ·have e:i=kvs.length:=by omega
  subst e
  exact .inl ⟨⟨kvs,q,yi _⟩,hd σ H p⟩
variable {js : List Nat}{tt : TT}{te : TE}{σ : St}{F : Addr -> Hp -> Prop}{H : Hp}
theorem bR {α:Type}(keep:Nat->Bool)(g:Nat->α)(i:Nat):((List.range (i+1)).filter keep).map g=((List.range i).filter keep).map g++(if keep i=true then [g i] else []):=by
 rw[At,AO,yI]
 by_cases c:keep i=true
 ·simp[c]
 ·simp[c]
theorem fN {α:Type}(keep:Nat->Bool)(g:Nat->α)(i:Nat):(((List.range i).filter keep).map g).length<=i:=by
 rw[y9]
 exact yM (z9 _ _) (by rw[zq];exact yi _)
theorem iL (keep:Nat->Bool)(g:Nat->V)(hfr:H d=some (.frz o (.dK kvs)))(hz:kvs.length<=1000)
  (hs:∀ (i:Nat)(kv:Key×V) H2,kvs[i]?=some kv->Same H H2->tt (some (pr kv)::bz σ js) H2 fun b H4=>if b=true then te (some (pr kv)::bz σ js) H4 fun v H5=>keep i=true/\v=g i/\Same H2 H5 else keep i=false/\Same H2 H4)
  (hd:∀ l H',H l=none->Same H H'->H' l=some (.lst (((List.range kvs.length).filter keep).map g))->F l H'):bi 1 js (bd 0) tt te σ F (Itp pr o d) H:=by
 intro l hl0
 refine⟨fun i m σ' H2=>m=kvs.length - i/\i<=kvs.length/\(∃ o,σ'=o::bz σ js)/\Same H H2/\H2 l=some (.lst (((List.range i).filter keep).map g)),⟨kvs.length,by simp,yP _,⟨none,rfl⟩,az (Same.refl _) hl0,a9⟩,?_⟩
 rintro i m σ' H2 ⟨rfl,hi,⟨o',rfl⟩,e,hl⟩
 have q:=e _ _ hfr
 by_cases hlt:i<kvs.length
 ·refine .inr ⟨⟨kvs,kvs[i],q,by simp[hlt]⟩,fun x H3 y=>?_⟩
  obtain⟨rfl,y⟩:=y
  obtain⟨kv,e1,rfl⟩:=y kvs q
  refine⟨fun H4=>keep i=false/\Same H3 H4,fun v H5=>keep i=true/\v=g i/\Same H3 H5,fun H4 ⟨k4,e4⟩=>⟨_,?_,rfl,hlt,⟨_,rfl⟩,e.trans e4,?_⟩,fun v H5 ⟨k5,ev,e5⟩=>?_,hs i kv H3 e1 e⟩
  ·omega
  ·rw[bR,k4];simpa using e4 _ _ hl
  ·subst ev
   refine⟨_,e5 _ _ hl,yH (fN keep g i) (yA hlt (yM hz (by decide))),_,?_,rfl,hlt,⟨_,rfl⟩,au (e.trans e5) hl0,?_⟩
   ·omega
   ·rw[a9,bR,k5];rfl
 ·have ei:i=kvs.length:=by omega
  subst ei
  exact .inl ⟨⟨kvs,q,yi _⟩,hd l H2 hl0 e hl⟩
theorem sH {K:PySem.W.Frag}{a:Addr}{xs:List V} (keep:Nat->Bool) (g:Nat->V) (ha:H a=some (.lst xs)) (hz:xs.length<=1000)
  (hs:∀ (i:Nat)(x:V) H2,xs[i]?=some x->Same H H2->tt (some x::bz σ js) H2 fun b H4=>if b=true then te (some x::bz σ js) H4 fun v H5=>keep i=true/\v=g i/\Same H2 H5 else keep i=false/\Same H2 H4)
  (hd:∀ l H',H l=none->Same H H'->H' l=some (.lst (((List.range xs.length).filter keep).map g))->F l H'):bi 1 js (bd 0) tt te σ F (Itl K a) H:=by
 intro l hl0
 refine⟨fun i m σ' H2=>m=xs.length - i/\i<=xs.length/\(∃ o,σ'=o::bz σ js)/\Same H H2/\H2 l=some (.lst (((List.range i).filter keep).map g)),⟨xs.length,by simp,yP _,⟨none,rfl⟩,az (Same.refl _) hl0,a9⟩,?_⟩
 rintro i m σ' H2 ⟨rfl,hi,⟨o',rfl⟩,e,hl⟩
 have q:SqL K H2 a xs:=SqL.of (e _ _ ha)
 by_cases hlt:i<xs.length
 ·refine .inr ⟨⟨xs,xs[i],q,by simp[hlt]⟩,fun x H3 y=>?_⟩
  obtain⟨rfl,y⟩:=y
  refine⟨fun H4=>keep i=false/\Same H3 H4,fun v H5=>keep i=true/\v=g i/\Same H3 H5,fun H4 ⟨k4,e4⟩=>⟨_,?_,rfl,hlt,⟨_,rfl⟩,e.trans e4,?_⟩,fun v H5 ⟨k5,ev,e5⟩=>?_,hs i x H3 (y xs q) e⟩
  ·omega
  ·rw[bR,k4];simpa using e4 _ _ hl
  ·subst ev
   refine⟨_,e5 _ _ hl,yH (fN keep g i) (yA hlt (yM hz (by decide))),_,?_,rfl,hlt,⟨_,rfl⟩,au (e.trans e5) hl0,?_⟩
   ·omega
   ·rw[a9,bR,k5];rfl
 ·have ei:i=xs.length:=by omega
  subst ei
  exact .inl ⟨⟨xs,q,yi _⟩,hd l H2 hl0 e hl⟩
theorem cJ {α β:Type}(xs:List α)(keep:α->Bool)(g:α->β)(kp:Nat->Bool)(gi:Nat->β)(h:∀ (i:Nat)(x:α),xs[i]?=some x->kp i=keep x/\gi i=g x):
  ((List.range xs.length).filter kp).map gi=(xs.filter keep).map g:=by
 have:∀ n,n<=xs.length->((List.range n).filter kp).map gi=((xs.take n).filter keep).map g:=by
  intro n
  induction n with
  | zero=>intro _;rfl
  | succ n ih=>
   intro hn
   have hx:xs[n]?=some xs[n]:=yb (by omega)
   obtain⟨h1,h2⟩:=h n _ hx
   rw[bR,ih (by omega),za,hx,AO,yI,h1]
   congr 1
   by_cases c:keep xs[n]=true
   ·simp[c,h2]
   ·simp[c]
 rw[this _ (yi _),zK (yi _)]
end
abbrev G4 (K:PySem.W.Frag):TG:=qM K 4 (dM (bd 0) (dM (bd 1) (dM (bd 2) (dM (bd 3) sA))))
section
variable {K : PySem.W.Frag}{js : List Nat}{tt : TT}{te : TE}{σ : St}{F : Addr -> Hp -> Prop}{H : Hp}
theorem ke {a:Addr}{xs:List V} (keep:Nat->Bool) (g:Nat->V) (ha:H a=some (.lst xs)) (hz:xs.length<=1000)
  (hf:∀ (i:Nat)(x:V),xs[i]?=some x->∃ p x1 x2 x3 x4,x=.ref p/\H p=some (.tup [x1,x2,x3,x4]))
  (hs:∀ (i:Nat)(p:Addr)(x1 x2 x3 x4:V) H2,xs[i]?=some (.ref p)->H p=some (.tup [x1,x2,x3,x4])->Same H H2->tt (some x1::some x2::some x3::some x4::bz σ js) H2 fun b H4=>
   if b=true then te (some x1::some x2::some x3::some x4::bz σ js) H4 fun v H5=>keep i=true/\v=g i/\Same H2 H5 else keep i=false/\Same H2 H4)
  (hd:∀ l H',H l=none->Same H H'->H' l=some (.lst (((List.range xs.length).filter keep).map g))->F l H'):bi 4 js (G4 K) tt te σ F (Itl K a) H:=by
 intro l hl0
 refine⟨fun i m σ' H2=>m=xs.length - i/\i<=xs.length/\(∃ o1 o2 o3 o4,σ'=o1::o2::o3::o4::bz σ js)/\Same H H2/\H2 l=some (.lst (((List.range i).filter keep).map g)),⟨xs.length,by simp,yP _,⟨none,none,none,none,rfl⟩,az (Same.refl _) hl0,a9⟩,?_⟩
 rintro i m σ' H2 ⟨rfl,hi,⟨o1,o2,o3,o4,rfl⟩,e,hl⟩
 have q:SqL K H2 a xs:=SqL.of (e _ _ ha)
 by_cases hlt:i<xs.length
 ·refine .inr ⟨⟨xs,xs[i],q,by simp[hlt]⟩,fun x H3 y=>?_⟩
  obtain⟨rfl,y⟩:=y
  have ex:=y xs q
  obtain⟨p,x1,x2,x3,x4,rfl,hp⟩:=hf i x ex
  refine⟨p,[x1,x2,x3,x4],rfl,SqT.of (e _ _ hp),rfl,x1,[x2,x3,x4],rfl,x2,[x3,x4],rfl,x3,[x4],rfl,x4,[],rfl,rfl,?_⟩
  refine⟨fun H4=>keep i=false/\Same H3 H4,fun v H5=>keep i=true/\v=g i/\Same H3 H5,fun H4 ⟨k4,e4⟩=>⟨_,?_,rfl,hlt,⟨_,_,_,_,rfl⟩,e.trans e4,?_⟩,fun v H5 ⟨k5,ev,e5⟩=>?_,hs i p x1 x2 x3 x4 H3 ex hp e⟩
  ·omega
  ·rw[bR,k4];simpa using e4 _ _ hl
  ·subst ev
   refine⟨_,e5 _ _ hl,yH (fN keep g i) (yA hlt (yM hz (by decide))),_,?_,rfl,hlt,⟨_,_,_,_,rfl⟩,au (e.trans e5) hl0,?_⟩
   ·omega
   ·rw[a9,bR,k5];rfl
 ·have ei:i=xs.length:=by omega
  subst ei
  exact .inl ⟨⟨xs,q,yi _⟩,hd l H2 hl0 e hl⟩
theorem r6 {o:Obj}{d:Addr}{kvs:List (Key×V)} (Pz:Nat->Hp->V->Prop) (mono:∀ i H H' v,Same H H'->Pz i H v->Pz i H' v) (hfr:H d=some (.frz o (.dK kvs))) (hz:kvs.length<=1000)
  (hf:∀ (i:Nat)(kv:Key×V),kvs[i]?=some kv->∃ p x1 x2 x3 x4,kv.2=.ref p/\H p=some (.tup [x1,x2,x3,x4]))
  (hs:∀ (i:Nat)(kv:Key×V)(p:Addr)(x1 x2 x3 x4:V) H2,kvs[i]?=some kv->kv.2=.ref p->H p=some (.tup [x1,x2,x3,x4])->Same H H2->te (some x1::some x2::some x3::some x4::bz σ js) H2 fun v H5=>Pz i H5 v/\Same H2 H5)
  (hd:∀ l H' vs,H l=none->Same H H'->H' l=some (.lst vs)->vs.length=kvs.length->(∀ (i:Nat) v,vs[i]?=some v->Pz i H' v/\v≠.ref l)->F l H') (hne:∀ i H v l,Pz i H v->(∃ ys,H l=some (.lst ys))->v≠.ref l) (hup:∀ i H v l ys,Pz i H v->v≠.ref l->Pz i (upd H l (.lst ys)) v):bi 4 js (G4 K) fU te σ F (Itp (·.2) o d) H:=by
 intro l hl0
 refine⟨fun i m σ' H2=>m=kvs.length - i/\i<=kvs.length/\(∃ o1 o2 o3 o4,σ'=o1::o2::o3::o4::bz σ js)/\Same H H2/\∃ vs,H2 l=some (.lst vs)/\vs.length=i/\∀ (j:Nat) v,vs[j]?=some v->Pz j H2 v/\v≠.ref l,⟨kvs.length,by simp,yP _,⟨none,none,none,none,rfl⟩,az (Same.refl _) hl0,[],a9,rfl,fun j v z=>by simp at z⟩,?_⟩
 rintro i m σ' H2 ⟨rfl,hi,⟨o1,o2,o3,o4,rfl⟩,e,vs,hl,vl,hv⟩
 have q:=e _ _ hfr
 by_cases hlt:i<kvs.length
 ·refine .inr ⟨⟨kvs,kvs[i],q,by simp[hlt]⟩,fun x H3 y=>?_⟩
  obtain⟨rfl,y⟩:=y
  obtain⟨kv,e1,rfl⟩:=y kvs q
  obtain⟨p,x1,x2,x3,x4,ep,hp⟩:=hf i kv e1
  refine⟨p,[x1,x2,x3,x4],ep,SqT.of (e _ _ hp),rfl,x1,[x2,x3,x4],rfl,x2,[x3,x4],rfl,x3,[x4],rfl,x4,[],rfl,rfl,?_⟩
  refine⟨fun _=>False,fun v H5=>Pz i H5 v/\Same H3 H5,fun H4 z=>z.elim,fun v H5 ⟨p5,e5⟩=>?_,hs i kv p x1 x2 x3 x4 H3 e1 ep hp e⟩
  refine⟨vs,e5 _ _ hl,by rw[vl];exact yA hlt (yM hz (by decide)),_,?_,rfl,hlt,⟨_,_,_,_,rfl⟩,au (e.trans e5) hl0,vs++[v],a9,by simp[vl],fun j u hu=>?_⟩
  ·omega
  ·by_cases hj:j<vs.length
   ·rw[yK hj]at hu
    obtain⟨a1,a2⟩:=hv j u hu
    exact⟨hup _ _ _ _ _ (mono _ _ _ _ e5 a1) a2,a2⟩
   ·rw[yF (by omega)]at hu
    have h0:j - vs.length=0:=by
     have:=(yd.mp hu).1
     simp at this
     omega
    rw[h0]at hu
    have:u=v:=by simpa using hu.symm
    subst this
    have ji:j=i:=by omega
    subst ji
    have nv:=hne _ _ _ l p5 ⟨_,e5 _ _ hl⟩
    exact⟨hup _ _ _ _ _ p5 nv,nv⟩
 ·have ei:i=kvs.length:=by omega
  subst ei
  exact .inl ⟨⟨kvs,q,yi _⟩,hd l H2 vs hl0 e hl vl hv⟩
end
structure FunD (K : PySem.W.Frag) (x qual : Str) (st : Stmt) (f : Addr) (fd : FuncData) : Prop where
  ex : ∃ (oc : Value) (od : Option Addr) (dV kV doc pm : Value) (an : Option Addr) (cdv ct : Value) (osl : Array (Option Value)),
    fd = PySem.W.fnOf x qual (aY st) (aJ st) (ag st) dV kV doc pm an cdv ct /\ K.lookup f = some ⟨oc, od, .func fd, osl⟩ /\ PySem.W.codeIn K cdv qual = true
  kp : PySem.W.keepIn K (.ref f) = true
section
variable {P : Program}{w : World}{K : PySem.W.Frag}{mg : Str -> Option Value}{base : Heap}
theorem FunD.okX {x qual:Str}{st:Stmt}{f:Addr}{fd:FuncData}{N ps:List Str}{k:Nat}{sp:Sp} (F:FunD K x qual st f fd) (S:am N ps (ag st)) (len:∀ vs H Q E,sp vs H Q E->vs.length=ps.length)
  (hbody:∀ (cdv:Value)(A:Around)(outer:List Env)(s:Shared)(H:Hp)(vs:List V)(Q:VK)(E:XK),Room k (A.deeper (envOfC qual (ag st) s.heap.objs.size f cdv))->sp vs H Q E->
   ∃ t,PSs (kx (CXE P w) P w K mg base N qual (ag st) f cdv A outer s H E) (aJ st) t/\t { nx:=fun _ H'=>Q .non H',rt:=Q } (start N vs) H):FnOk P w K mg base (CXE P w) (k+1) f fd ps sp:=by
 obtain⟨oc,od,dV,kV,doc,pm,an,cdv,ct,osl,rfl,lk,hcd⟩:=F.ex
 exact vW lk hcd S len fun A outer s H vs Q E hr hsp=>hbody cdv A outer s H vs Q E hr hsp
end
section
variable {X : Cx}{tg : Expr}
end
section
variable {X : Cx}
end
def isA:Hp->V->Key->Prop:=fun _ x k=>x=kV k
theorem tj (k:Key):fR (kV k)=true:=by cases k <;> rfl
theorem eqV_kV (a b:Key):eqV (kV a) (kV b)=decide (a=b):=by
 cases a with
 | inl a=>cases b with
  | inl b=>show (a==b)=_;rw[ze];simp
  | inr b=>exact (yj (fun z=>nomatch z)).symm
 | inr a=>cases b with
  | inl b=>exact (yj (fun z=>nomatch z)).symm
  | inr b=>show (a==b)=_;rw[ze];simp
theorem xV {K:PySem.W.Frag}:EqK K isA 0 where
 eq:=by
  intro X A pins s σ H x y v u a b _ I rx ry ha hb _
  cases ha
  cases hb
  rw[<- eqV_kV]
  exact wa rx ry (tj a) (tj b)
 fn:=by
  intro X pins s σ H x a b _ I ha hb
  unfold isA at ha hb
  rw[ha]at hb
  exact kV_inj hb
def xF (K:PySem.W.Frag){α:Type}(R:Hp->V->α->Prop):Hp->V->List α->Prop:=fun H x as=>∃ p vs,x=.ref p/\SqT K H p vs/\Paired (R H) vs as
section
variable {K : PySem.W.Frag}{α : Type} [DecidableEq α] {R : Hp -> V -> α -> Prop}{k : Nat}
theorem t7 (h:EqK K R k){X:Cx}{pins:List (Addr×Obj)}{s:Shared}{σ:St}{H:Hp}{x:V}{as bs:List α} (hK:X.K=K) (I:Inv X pins σ H s) (ha:xF K R H x as) (hb:xF K R H x bs):as=bs:=by
 obtain⟨p,vs,rfl,h1,h2⟩:=ha
 obtain⟨q,ws,e,h3,h4⟩:=hb
 cases e
 subst hK
 have:=I.tuple_inj h1 h3
 subst this
 exact gp (fun a b c=>h.fn X pins s σ H a b c rfl I) h2 h4
theorem xE (h:EqK K R k){X:Cx}{A:Around}{pins:List (Addr×Obj)}{s:Shared}{σ:St}{H:Hp}{vs ws:List V}{its its2:List Value}{as bs:List α} (hK:X.K=K) (I:Inv X pins σ H s) (r1:Vals vs its) (r2:Vals ws its2) (p1:Paired (R H) vs as) (p2:Paired (R H) ws bs) (hu:A.units+k<cLine):
  ∀ j (h1:j<its.toArray.size) (h2:j<its2.toArray.size),SeqAt.EqAt A s its.toArray[j] its2.toArray[j] (decide (as[j]?=bs[j]?)):=fun j h1 h2=>by
 rw[yx]at h1 h2
 obtain⟨x,ex,rx⟩:=r1.at' (i:=j) (u:=its[j]) (by simp)
 obtain⟨y,ey,ry⟩:=r2.at' (i:=j) (u:=its2[j]) (by simp)
 obtain⟨a,ea,ra⟩:=Paired.at p1 ex
 obtain⟨b,eb,rb⟩:=Paired.at p2 ey
 have:=h.eq X A pins s σ H x y _ _ a b hK I rx ry ra rb hu
 rw[ea,eb]
 have e:decide (some a=some b)=decide (a=b):=by
  rw[ze,zH,zH]
  exact⟨Option.some.inj,congrArg some⟩
 rw[e]
 simpa using this
theorem xU (h:EqK K R k):EqK K (xF K R) (k+1) where
 eq:=by
  intro X A pins s σ H x y v u as bs hK I rx ry ha hb hu
  by_cases hxy:x=y
  ·subst hxy
   have e:=t7 h hK I ha hb
   subst e
   obtain⟨p,vs,rfl,h1,h2⟩:=ha
   cases rx
   cases ry
   rw[ye rfl]
   exact SeqAt.EqAt.same _
  ·obtain⟨p,vs,rfl,h1,h2⟩:=ha
   obtain⟨q,ws,rfl,h3,h4⟩:=hb
   cases rx
   cases ry
   have hne:p≠q:=fun e=>hxy (by rw[e])
   subst hK
   obtain⟨its,r1,pl,hz⟩:=I.tuple h1
   obtain⟨its2,r2,pl2,hz2⟩:=I.tuple h3
   refine SeqAt.EqAt.of_refs hne ?_
   have l1:=r1.length
   have l2:=r2.length
   have l3:=Paired.length h2
   have l4:=Paired.length h4
   have he:=xE (A:=A.in1) h rfl I r1 r2 h2 h4 (by rw[Around.in1_units];omega)
   have:=SeqAt.RcAt.tuples (e:=fun j=>decide (as[j]?=bs[j]?)) (A:=A) (s:=s) pl pl2 (by omega) he
   have e:((List.range (min its.toArray.size its2.toArray.size)).all (fun j=>decide (as[j]?=bs[j]?))&&its.toArray.size==its2.toArray.size)=decide (as=bs):=by
    rw[yx,yx,ze,z7,zJ,zH,zy]
    constructor
    ·rintro⟨hh,hl⟩
     apply zz
     intro i
     by_cases hi:i<its.length
     ·exact yr (hh i (Aj.mpr (by omega)))
     ·rw[yo (by omega),yo (by omega)]
    ·rintro rfl
     exact⟨fun i _=>ye rfl,by omega⟩
   rw[e]at this
   exact this
 fn:=fun X pins s σ H x as bs hK I ha hb=>t7 h hK I ha hb
end
section
variable {K : PySem.W.Frag}{js : List Nat}{te : TE}{σ : St}{F : Addr -> Hp -> Prop}{H : Hp}
end
theorem iB {α β:Type}{xs:List α}{d:α}{f:α->β}:(List.range xs.length).map (fun i=>f (xs.getD i d))=xs.map f:=by
 apply zz
 intro i
 rw[yf,yf]
 by_cases h:i<xs.length
 ·rw[zi h,yb h]
  simp only[Option.map_some,yk,yb h,Option.getD_some]
 ·rw[yo (by simpa using h),yo (by omega)]
  rfl
section
variable {K : PySem.W.Frag}{js : List Nat}{te : TE}{σ : St}{F : Addr -> Hp -> Prop}{H : Hp}
theorem fO {a:Addr}{xs:List V} (g:Nat->V) (ha:H a=some (.lst xs)) (hz:xs.length<=1000)
  (hs:∀ (i:Nat)(x:V) H2,xs[i]?=some x->Same H H2->te (some x::bz σ js) H2 fun v H5=>v=g i/\Same H2 H5)
  (hd:∀ l H',H l=none->Same H H'->H' l=some (.lst ((List.range xs.length).map g))->F l H'):bi 1 js (bd 0) fU te σ F (Itl K a) H:=by
 intro l hl0
 refine⟨fun i m σ' H2=>m=xs.length - i/\i<=xs.length/\(∃ o,σ'=o::bz σ js)/\Same H H2/\H2 l=some (.lst ((List.range i).map g)),⟨xs.length,by simp,yP _,⟨none,rfl⟩,az (Same.refl _) hl0,a9⟩,?_⟩
 rintro i m σ' H2 ⟨rfl,hi,⟨o',rfl⟩,e,hl⟩
 have q:SqL K H2 a xs:=SqL.of (e _ _ ha)
 by_cases hlt:i<xs.length
 ·refine .inr ⟨⟨xs,xs[i],q,by simp[hlt]⟩,fun x H3 y=>?_⟩
  obtain⟨rfl,y⟩:=y
  refine⟨fun H4=>False,fun v H5=>v=g i/\Same H3 H5,fun H4 z=>z.elim,fun v H5 ⟨ev,e5⟩=>?_,hs i x H3 (y xs q) e⟩
  subst ev
  refine⟨_,e5 _ _ hl,by simp only[y9,zq];exact yA hlt (yM hz (by decide)),_,?_,rfl,hlt,⟨_,rfl⟩,au (e.trans e5) hl0,?_⟩
  ·omega
  ·rw[a9,At,yI];rfl
 ·have ei:i=xs.length:=by omega
  subst ei
  exact .inl ⟨⟨xs,q,yi _⟩,hd l H2 hl0 e hl⟩
end
end L2
namespace L2
open PySem
theorem oV:typeLookup (.type "list") "keys"=pure none:=by rw[typeLookup_type,builtinLookup_eq_fast];kernel_rfl
theorem k6:entryFor table "dict.update.loop"=some Builtin.«dict.update.loop»:=entryFor_of_tree (by kernel_rfl)
section
variable {prog : Program}{w : World}{A : Around}{E : Value -> Shared -> Prop}{s : Shared}{a : Addr}
theorem uw {xs:Array Value}{k:Nat}{sl:Array (Option Value)}{Q:Option Value->Shared->Prop} (hx:s.heap.get? a=some ⟨.type "list",none,.seq xs k,sl⟩) (hA:A.handled=none)
  (h:∀ h' tk e,Heap.NewExcOf s.heap h' e "AttributeError"->Q none { s with heap:=h',toks:=tk }):wpAny (model prog w) A (getAttr? (.ref a) "keys") Q E s:=by
 obtain⟨hp,g,d,tk,os⟩:=s
 have hT:∀ tk',(⟨hp,g,d,tk',os⟩:Shared).TypeIs (.ref a) "list":=fun _=>⟨_,hx,rfl⟩
 have f1:=sub_AttributeError
 have f3:=F.slot_list_getattribute.lookup
 have f4:=F.slot_list_getattribute.bind (.ref a)
 have f5:=am_list_getattr_none
 unfold getAttr? getAttrBy? getAttrBy
 repeat (any_goals (first|assumption|exact hT _|((with_reducible show wpAny _ _ (call (Value.builtin "list.__getattribute__") _ _) _ _ _);refine call_meets F.slot_list_getattribute (hT _) am_entry_list_getattribute (F.args_list_getattribute_2 _ _) (meets_getattribute_miss_list a xs k sl "keys" _ oV (by decide) (by size_fits)) ⟨hx,hA,fun h' tk' e hx'=>?_⟩)|wp_step))
 obtain⟨t',u',he⟩:=hx'.there
 show wpAny _ _ (getattributeRaised _ _ _ _ _ _ _) _ _ _
 unfold getattributeRaised
 repeat (any_goals (first|assumption|wp_step))
 exact h _ _ _ hx'.of
end
section
variable {prog : Program}{w : World}{κ : Type} [DecidableEq κ] {knd : KeyKind prog w κ}
def tO (knd:KeyKind prog w κ)(h:Heap)(items:Array Value)(ps:List (κ×Value)):Prop:=items.size=ps.length/\∀ (i:Nat) x p,items[i]?=some x->ps[i]?=some p->∃ t u,x=.ref t/\h.IsTuple t #[u,p.2]/\knd.is p.1 u=true
theorem sj {it l d:Addr}{items:Array Value}{ps:List (κ×Value)}{A:Around} (hh:A.handled=none) (hps:ps.length<=1000) (hdl:d≠l) (hil:it≠l) (hdi:d≠it) (R:Result->Shared->Prop):
  ∀ (n i:Nat)(s:Shared),n=ps.length - i->i<=ps.length->s.heap.IsListIter it l i->s.heap.IsList l items->tO knd s.heap items ps->s.heap.DictOf knd d (merged [] (ps.take i))->
   (∀ h' tk,h'.DictOf knd d (merged [] ps)->(∀ b o,b≠d->b≠it->s.heap.get? b=some o->h'.get? b=some o)->R (.ok (.ret .none)) { s with heap:=h',toks:=tk })->
   codeAny (model prog w) A (.builtin "dict.update.loop" ⟨[.ref d,.ref it,rawInt i,.none],[]⟩) R s:=by
 intro n
 induction n with
 | zero=>
  intro i s hn hi hit hl hp hd h
  have ei:i=ps.length:=by omega
  refine AK k6 ?_
  unfold Builtin.«dict.update.loop»
  show wpAny _ _ (pyNext (.ref it) >>= _) _ _ _
  refine yc (wpAny_pyNext_list_end hh hit hl (Array.getElem?_eq_none (by rw[hp.1];omega)) fun h' ext=>?_)
  show wpAny _ _ (Builtin.Dict.addKeywords d [] >>= _) _ _ _
  obtain⟨o,es,ep,ho,r⟩:=hd
  refine yc (yp (yp (h h' _ ⟨o,es,ep,ext d o hdi ho,by rw[ei,zh]at r;exact r⟩ fun b o hb1 hb2 hb=>ext b o hb2 hb)))
 | succ n ih=>
  intro i s hn hi hit hl hp hd h
  have hlt:i<ps.length:=by omega
  obtain⟨p,ep⟩:∃ p,ps[i]?=some p:=⟨_,yb hlt⟩
  obtain⟨x,ex⟩:∃ x,items[i]?=some x:=⟨_,zX (by rw[hp.1];exact hlt)⟩
  obtain⟨t,u,rfl,ht,hk⟩:=hp.2 i x p ex ep
  refine AK k6 ?_
  unfold Builtin.«dict.update.loop»
  show wpAny _ _ (pyNext (.ref it) >>= _) _ _ _
  have neT:∀ t' v',s.heap.IsTuple t' v'->t'≠it/\t'≠d:=fun t' v' ⟨o',ho',_,n',hd'⟩=>by
   obtain⟨oi,hoi,_,hdi'⟩:=hit
   obtain⟨od,es,ep,hod,_,hdd,_⟩:=hd
   constructor
   ·intro z
    rw[z,hoi]at ho'
    cases ho'
    rw[hdi']at hd'
    cases hd'
   ·intro z
    rw[z,hod]at ho'
    cases ho'
    rw[hdd]at hd'
    cases hd'
  refine yc (wpAny_pyNext_list_item hit hl ex fun h1 hit1 sb1=>?_)
  have keep1:∀ b o,b≠it->s.heap.get? b=some o->h1.get? b=some o:=fun b o hb e=>(sb1.2 b hb).trans e
  have tup1:∀ t' v',s.heap.IsTuple t' v'->h1.IsTuple t' v':=fun t' v' z=>by
   obtain⟨o',ho',r'⟩:=id z
   exact⟨o',keep1 t' o' (neT t' v' z).1 ho',r'⟩
  have hd1:h1.DictOf knd d (merged [] (ps.take i)):=by
   obtain⟨o,es,ep,ho,r⟩:=hd
   exact⟨o,es,ep,keep1 d o hdi ho,r⟩
  have hl1:h1.IsList l items:=by
   obtain⟨o,ho,r⟩:=hl
   exact⟨o,keep1 l o hil.symm ho,r⟩
  obtain⟨ot,hot,hct,nt,hdt⟩:=tup1 t _ ht
  show wpAny _ _ (holding [.ref t] _ >>= _) _ _ _
  refine yc (zu (yc (AS ?_)))
  unfold Builtin.Dict.pairItems
  refine yc (wpAny_typeOf (T:="tuple") ⟨ot,hot,hct⟩ ?_)
  rw[if_pos (by decide)]
  refine yc (wpAny_seqItems hot hdt (yp ?_))
  show wpAny _ _ (holding [u,p.2] (dictSet d u p.2)) _ _ _
  have hml:(merged [] (ps.take i)).length<=sizeLine:=by
   have h1:=merged_length_le ([]:List (κ×Value)) (ps.take i)
   rw[yO]at h1
   have h2:sizeLine=2 ^ 24:=rfl
   simp only[Au]at h1
   omega
  refine zu (wpAny_dictSet_pairs (hsz:=hml) hk hd1 fun h2 hd2 sb2=>?_)
  have keep2:∀ b o,b≠d->h1.get? b=some o->h2.get? b=some o:=fun b o hb e=>(sb2.2 b hb).trans e
  refine yp ⟨AQ _ (by decide +kernel),?_⟩
  refine ih (i+1) { s with heap:=h2,toks:=s.toks+1 } (by omega) (by omega) ?_ ?_ ⟨hp.1,fun j x' p' h3 h4=>?_⟩ ?_ fun h' tk h3 h4=>h h' tk h3 fun b o hb1 hb2 hb=>h4 b o hb1 hb2 (keep2 b o hb1 (keep1 b o hb2 hb))
  ·obtain⟨oi,hoi,r⟩:=hit1
   exact⟨oi,keep2 it oi hdi.symm hoi,r⟩
  ·obtain⟨ol,hol,r⟩:=hl1
   exact⟨ol,keep2 l ol hdl.symm hol,r⟩
  ·obtain⟨t',u',e',ht',hk'⟩:=hp.2 j x' p' h3 h4
   obtain⟨o',ho',r'⟩:=tup1 t' _ ht'
   exact⟨t',u',e',⟨o',keep2 t' o' (neT t' _ ht').2 ho',r'⟩,hk'⟩
  ·rw[merged_take_succ _ _ i p ep]
   exact hd2
theorem sK {A:Around}{E:Value->Shared->Prop}{s:Shared}{l:Addr}{items:Array Value}{n:Nat}{sl:Array (Option Value)}{ps:List (κ×Value)}{Q:Value->Shared->Prop} (hh:A.handled=none) (hl:s.heap.get? l=some ⟨.type "list",none,.seq items n,sl⟩) (hp:tO knd s.heap items ps) (hps:ps.length<=1000)
  (h:∀ h' tk,h'.DictOf knd s.heap.objs.size (merged [] ps)->(∀ b o,s.heap.get? b=some o->h'.get? b=some o)->Q (.ref s.heap.objs.size) { s with heap:=h',toks:=tk }):
  wpAny (model prog w) A (call (.type "dict") [.ref l]) Q E s:=by
 refine callType_codes (Q₁:=fun obj s₁=>obj=.ref s.heap.objs.size/\s₁={ s with heap:=s.heap.push { cls:=.type "dict",data:=.dict #[] } }) F.kt_called_dict (F.kt_typeCall_dict_1 _) F.entry_dict_init (kt_code_dict_new _ ⟨rfl,rfl⟩) ?_
 rintro obj s₁ ⟨rfl,rfl⟩
 have hnew:(s.heap.push { cls:=.type "dict",data:=.dict #[] }).DictOf knd s.heap.objs.size []:=Heap.DictOf.new s.heap
 have hl':=yg (h:=s.heap) { cls:=.type "dict",data:=.dict #[] } hl
 refine⟨hnew.typeIs,F.args_dict_init_2 _ _,?_⟩
 unfold Builtin.«dict.__init__»
 refine yc ?_
 unfold Builtin.Dict.selfAndRest
 refine yc (wpAny_notOrdered_dict hnew.typeIs ?_)
 show wpAny _ _ (pure (s.heap.objs.size,[Value.ref l])) _ _ _
 refine yp ?_
 show wpAny _ _ (Builtin.Dict.updateFrom "dict.__init__" s.heap.objs.size (.ref l) [] .none) _ _ _
 unfold Builtin.Dict.updateFrom
 refine yc (wpAny_typeOf (T:="list") ⟨_,hl',rfl⟩ ?_)
 rw[if_pos (by decide)]
 refine yc (uw hl' hh fun h1 tk1 e1 ne1=>?_)
 rw[if_pos (show (none:Option Value).isNone=true from rfl)]
 have keep0:∀ b o,s.heap.get? b=some o->h1.get? b=some o:=fun b o e=>ne1.keeps b o (yg _ e)
 have hl1:h1.IsList l items:=⟨_,keep0 _ _ hl,rfl,n,rfl⟩
 refine yc (wpAny_rule ?_)
 refine yc (Bn (s:={ s with heap:=h1,toks:=tk1 }) hl1 ?_)
 refine yp ⟨AQ _ (by decide +kernel),?_⟩
 have kp:∀ b o,h1.get? b=some o->(h1.push { cls:=.type "list_iterator",data:=.fields #[.ref l,.int 0 0] }).get? b=some o:=fun b o e=>yg _ e
 have hd1:h1.DictOf knd s.heap.objs.size []:=by
  obtain⟨o,es,ep,ho,r⟩:=hnew
  exact⟨o,es,ep,ne1.keeps _ _ ho,r⟩
 have nl:s.heap.objs.size≠l:=Bj (yt hl)
 have lt1:s.heap.objs.size<h1.objs.size:=by
  obtain⟨o,es,ep,ho,r⟩:=hd1
  exact yt ho
 refine sj (A:=A.in1) (knd:=knd) hh hps nl (Bj (yt (keep0 _ _ hl))) (yS lt1) _ ps.length 0 { s with heap:=h1.push { cls:=.type "list_iterator",data:=.fields #[.ref l,.int 0 0] },toks:=tk1 } (by omega) (yP _) ⟨_,yC _ rfl,rfl,rfl⟩ ?_ ⟨hp.1,fun i x p h3 h4=>?_⟩ ?_ fun h' tk hD keep=>?_
 ·obtain⟨o,ho,r⟩:=hl1
  exact⟨o,kp _ _ ho,r⟩
 ·obtain⟨t,u,e,⟨o,ho,r⟩,hk⟩:=hp.2 i x p h3 h4
  exact⟨t,u,e,⟨o,kp _ _ (keep0 _ _ ho),r⟩,hk⟩
 ·obtain⟨o,es,ep,ho,r⟩:=hd1
  exact⟨o,es,ep,kp _ _ ho,by rw[Ai];exact r⟩
 ·refine⟨rfl,h h' tk hD fun b o e=>keep b o (yS (yt e)) (yS (yt (keep0 b o e))) (kp b o (keep0 b o e))⟩
end
section
variable {X : Cx}
def PairsL (H:Hp)(p:Addr)(kvs:List (Key×V)):Prop:=∃ xs,H p=some (.lst xs)/\Paired (fun v (kv:Key×V)=>∃ t,v=.ref t/\H t=some (.tup [kV kv.1,kv.2])) xs kvs
theorem qf {P:Program}{w:World}{H:Hp}{h:Heap} (hok:HOk P w H h):∀ {xs:List V}{kvs:List (Key×V)}{its:List Value},Paired (fun v (kv:Key×V)=>∃ t,v=.ref t/\H t=some (.tup [kV kv.1,kv.2])) xs kvs->Vals xs its->
  ∃ ps:List (Key×Value),KV kvs ps/\its.length=ps.length/\∀ (i:Nat) x p,its[i]?=some x->ps[i]?=some p->∃ t u,x=.ref t/\h.IsTuple t #[u,p.2]/\(aQ P w).is p.1 u=true
 | _,_,_,.nil,.nil=>⟨[],.nil,rfl,fun i x p h1 _=>by simp at h1⟩
 | _,kv::_,_,.cons ⟨t,e,ht⟩ r,.cons (b:=b) rv rvs=>by
  obtain⟨ps,k1,k2,k3⟩:=qf hok r rvs
  subst e
  obtain rfl:b=Value.ref t:=rv
  obtain⟨_,its2,r2,ob,ho,hc,n,hd⟩:=(show ObjOk P w H h t (.tup [kV kv.1,kv.2]) from hok t _ ht)
  obtain⟨u,v,rfl,ru,rv2⟩:=jR r2
  refine⟨(kv.1,v)::ps,.cons ⟨rfl,rv2⟩ k1,by simp[k2],fun i x p h1 h2=>?_⟩
  cases i with
  | zero=>
   have h1:Value.ref t=x:=by simpa using h1
   have h2:(kv.1,v)=p:=by simpa using h2
   subst h1 h2
   exact⟨t,u,rfl,⟨ob,ho,hc,n,hd⟩,gY ru⟩
  | succ i=>exact k3 i x p (by simpa using h1) (by simpa using h2)
theorem bu (hc:X.calm=true):CallR X (.type "dict") (fun xs H Q=>∃ p kvs,xs=[.ref p]/\PairsL H p kvs/\kvs.length<=1000/\NewQ H (.dK (eF [] kvs)) Q):=by
 intro pins s σ H xs us Q I r h
 obtain⟨p,kvs,rfl,⟨ys,hy,hp⟩,hz,q⟩:=h
 obtain⟨u,rfl,rx⟩:=fP r
 obtain rfl:u=Value.ref p:=rx
 obtain⟨z,its,n,rv,e⟩:=(show ObjOk X.prog X.w H s.heap p (.lst ys) from I.hok p _ hy)
 obtain⟨ps,k1,k2,k3⟩:=qf I.hok hp rv
 have hkl:=KV.length k1
 refine sK (knd:=aQ X.prog X.w) (ps:=ps) (I.ok.hd hc) e ⟨by rw[yx];exact k2,fun i x p h1 h2=>k3 i x p (by simpa using h1) h2⟩ (by omega) fun h' tk hD keep=>?_
 have hz2:(eF [] kvs).length<=sizeLine:=by
  have h1:=eJ kvs []
  rw[Au]at h1
  rw[sizeLine_eq];omega
 refine⟨.ref s.heap.objs.size,_,I.laid (t':=tk) keep (yi _) ?_,rfl,q.at (I.hok.fresh (yi _))⟩
 exact⟨hz2,Ag.mpr (Bj I.big),_,k1.merge .nil,hD⟩
end
end L2
namespace L2
open PySem PySem.Spec PySem.Calls PyProof.Rows
theorem nD:∀ {us:List Value}{ns:List Int},IntsAre us ns->Vals (ns.map V.int) us
 | _,_,.nil=>.nil
 | _,_,.cons _ t h=>.cons ⟨t,rfl⟩ (nD h)
theorem t9:∀ {us:List Value}{ns:List Int},us.length=ns.length->(∀ (j:Nat)(n:Int)(u:Value),ns[j]?=some n->us[j]?=some u->∃ t,u=.int n t)->IntsAre us ns
 | [],[],_,_=>.nil
 | u::us,n::ns,hl,h=>by
  obtain⟨t,rfl⟩:=h 0 n u rfl rfl
  exact .cons n t (t9 (by simpa using hl) fun j m v h1 h2=>h (j+1) m v (by simpa using h1) (by simpa using h2))
 | [],_::_,hl,_=>by cases hl
 | _::_,[],hl,_=>by cases hl
section
variable {X : Cx}
theorem mx (hc:X.calm=true):CallR X (.builtin "sorted") (fun xs H Q=>∃ d kvs ns,xs=[.ref d]/\H d=some (.dK kvs)/\kvs.map (·.1)=ns.map (fun n:Int=>(Sum.inl n:Key))/\ns.length<64/\
  ∀ ns':List Int,ns'.Perm ns->ns'.Pairwise (·<=·)->NewQ H (.lst (ns'.map V.int)) Q):=by
 intro pins s σ H xs us Q I r h
 obtain⟨d,kvs,ns,rfl,hd,hks,h64,q⟩:=h
 obtain⟨u,rfl,rx⟩:=fP r
 cases rx
 obtain⟨z,lo,vs,rel,o,es,ep,ho,hx,hdat,hk,hp,hnd⟩:=(show ObjOk X.prog X.w H s.heap d (.dK kvs) from I.hok d _ hd)
 have hl:es.size=vs.length:=by rw[<- hp.length];simp
 have hkl:=KV.length rel
 have hkn:kvs.length=ns.length:=by have:=congrArg List.length hks;simpa using this
 refine call_function_entry kind_sorted plain_sorted entry_sorted (args_sorted1 _) ?_
 unfold Builtin.«sorted»
 refine yc (m:=checkCount "sorted" 1 1 _) (yp ?_)
 refine yc (PySem.W.kdu_collect (A:=X.A.in1) (wP lo) (I.ok.hd hc) ⟨o,ho,hx,hdat⟩ (by rw[hl,<- hkl];exact z) fun h' tk acc keep hacc=>?_)
 have hI:IntsAre acc.toList ns:=by
  refine t9 (by have h1:=hacc.1;rw[<- zx]at h1;rw[h1,hl,<- hkl,hkn]) fun j n u' hn hu=>?_
  have hkj:(kvs.map (·.1))[j]?=some (Sum.inl n):=by rw[hks,yf,hn];rfl
  rw[yf]at hkj
  obtain⟨kv,ekv,hkv⟩:=yG.mp hkj
  obtain⟨q',hq',hr'⟩:=Paired.at rel ekv
  have hj:j<es.size:=by rw[hl];exact (yd.mp hq').1
  have h1:(es[j]?).map (·.key)=some u':=hacc.2 j u' (by rw[<- B7];exact hu)
  rw[zX hj]at h1
  have h2:=(Pairs.get? hp (e:=es[j]) (k:=q'.1) (v:=q'.2) (by rw[B7,zX hj]) hq').1
  have h3:es[j].key=u':=Option.some.inj h1
  have h4:=oW h2
  rw[<- hr'.1,hkv]at h4
  rw[<- h3]
  exact h4
 have hlen:acc.toList.length<64:=by
  have h1:=hacc.1
  rw[zx,h1,hl,<- hkl,hkn]
  exact h64
 refine yc (wpAny_newList ?_ (yM (Ap hlen) (by decide)))
 have hoL:(h'.push (seqObj "list" acc.toList.toArray 0)).get? h'.objs.size=some (seqObj "list" acc.toList.toArray 0):=yC _ rfl
 refine yc (zu (wpAny_call_entry slot_list_sort ⟨_,hoL,rfl⟩ entry_list_sort (list_sort_tree hoL hI hlen fun out ns' a1 a2 a3=>⟨_,rfl,?_⟩) (args_list_sort _)))
 refine yp ⟨_,rfl,?_⟩
 have keep':∀ b u,h'.get? b=some u->(sortedHeap (h'.push (seqObj "list" acc.toList.toArray 0)) h'.objs.size acc.toList out).get? b=some u:=fun b u h1=>by
  have h2:=yt h1
  rw[sortedHeap_old (h:=h'.push (seqObj "list" acc.toList.toArray 0)) (yS h2) (by rw[size_push'];exact Br h2)]
  exact yg _ h1
 obtain⟨e,hat⟩:=sortedHeap_at (out:=out) hoL
 have hval:Vals (ns'.map V.int) out.toList:=nD a1
 have hln:(ns'.map V.int).length<=sizeLine:=by
  rw[y9,a2.length_eq]
  exact yM (Ap h64) (by decide)
 have I1:=I.kept (t':=tk) keep
 refine⟨.ref h'.objs.size,_,I1.laid (t':=tk) keep' (yi _) (show ObjOk X.prog X.w _ _ _ (.lst (ns'.map V.int)) from ⟨hln,out.toList,e,hval,?_⟩),rfl,(q ns' a2 a3).at (I1.hok.fresh (yi _))⟩
 simpa using hat
end
section
variable {X : Cx}
end
end L2
namespace L2
open PySem PySem.Spec PyProof.Rows
theorem n9 {X:Cx}:gC X (fun _ _ _ _=>False):=fun pins σ H s e s' I h=>by
 obtain⟨ea,cls,a0,B,H',od,_,_,_,_,_,_,_,_,_,_,z⟩:=h
 exact z.elim
def y8 (P:Program)(w:World)(K:PySem.W.Frag)(mg:Str->Option Value)(base:Heap)(k:Nat)(C:Addr)(m:Str)(ps:List Str)(dvs:List V)(sp:Sp):Prop:=
 ∃ f fd ds,Cls K C/\rh K C m f/\Binds K fd ps ds/\Vals dvs ds/\FnOk P w K mg base (CXE P w) k f fd ps sp
section
variable {X : Cx}{k : Nat}{C : Addr}{ps : List Str}{sp : Sp}{m : Str}{pos apos : Pos}{e o : Expr}{es : List Expr}{ta : TE}{t : TA}{W : St -> XK}{dvs : List V}
theorem pV {f:Addr}{fd:FuncData}{pins:List (Addr×Obj)}{σ:St}{H:Hp}{s:Shared}{Q:VK}{us ds:List Value}{vs:List V} (F:FnOk X.prog X.w X.K X.mg X.base (CXE X.prog X.w) k f fd ps sp) (hr:Room k X.A) (hb:Binds X.K fd ps ds) (hd:Vals dvs ds) (hx:gC X W)
  (I:Inv X pins σ H s) (r:Vals vs us) (h:sp (vs++dvs) H Q (W σ)):wpAny (model X.prog X.w) X.A (call (.ref f) us) (EP X pins σ Q) X.xe s:=by
 have r2:Vals (vs++dvs) (us++ds):=r.append hd
 have hl:(us++ds).length=ps.length:=by rw[<- r2.length];exact F.len _ _ _ _ h
 refine AB (AE (F.run X.A X.stack s H ⟨us,[]⟩ (us++ds) (vs++dvs) Q (W σ) hr I.env0 (hb s us I.kIn hl) r2 h) fun r s' hq=>?_)
 cases r with
 | error e=>exact hx pins σ H s e s' I hq
 | ok fl=>
  cases fl with
  | ret u=>exact I.after hq
  | next=>exact False.elim hq
  | brk=>exact False.elim hq
  | cont=>exact False.elim hq
def wG (C:Addr)(m:Str)(sp:Sp)(dvs:List V)(W:St->XK)(ta:TE)(t:TA):TE:=fun σ H Q=>ta σ H fun x H1=>∃ a dx fs,x=.ref a/\H1 a=some (.ins C dx fs)/\fs.lookup m=none/\t σ H1 fun vs H2=>sp ((x::vs)++dvs) H2 Q (W σ)
theorem ua {pl:Sem Bool}(hx:gC X W)(he:PE X o ta)(D:y8 X.prog X.w X.K X.mg X.base k C m ps dvs sp)(hr:Room k X.A)(ha:PA X (e::es) t)
  (hst:starEach (e::es) X.env=(false,eval e X.env)::starEach es X.env:=by rfl) (hpl:(backTo pos (starEach es X.env)).any (·.1)=false:=by rfl)
  (ht:eval (.Call (.Attribute o m apos) (e::es) [] pos) X.env=(do
   let ov <- eval o X.env
   standAt apos.atName
   let (f,first) <- holding [ov] (getMethod ov m pl)
   callWith pos f first (backTo pos (starEach (e::es) X.env)) (backToKw pos (keywordEach [] X.env))):=by rfl):
  PE X (.Call (.Attribute o m apos) (e::es) [] pos) (wG C m sp dvs W ta t):=by
 obtain⟨f,fd,ds,cl,hm,hb,hdv,F⟩:=D
 intro pins s σ H Q I h
 refine Aw (pl:=pl) (thn (he pins s σ H _ I h) fun u s1 ⟨x,H1,I1,rx,a,dx,fs,ex,ea,l,q⟩=>?_) ht
 subst ex
 obtain rfl:u=Value.ref a:=rx
 refine dL I1 ea cl hm l ?_
 refine zR (first:=[.ref a]) (h₀:=X.base) I.ok.mod.kin hm.kp (thn (ha pos pins s1 σ H1 _ I1 q) fun us s2 ⟨vs,H2,I2,r,q2⟩=>⟨I2.kIn,?_⟩) hst hpl
 exact pV (us:=.ref a::us) (vs:=.ref a::vs) F hr hb hdv hx I2 (.cons rfl r) q2
end
end L2
namespace L2.Sk
open PySem
end L2.Sk
namespace L2.Sk
open PySem PySem.Calls PyProof.Rows
section
variable {prog : Program}{w : World}{A : Around}{E : Value -> Shared -> Prop}{s : Shared}{a : Addr}{S : List Int}
end
end L2.Sk
namespace L2.Sk
open PySem PySem.Calls PyProof.Rows PySem.Spec
section
variable {prog : Program}{w : World}{A : Around}{E : Value -> Shared -> Prop}{s : Shared}{a : Addr}
end
section
variable {prog : Program}{w : World}{A : Around}{E : Value -> Shared -> Prop}{s : Shared}{a : Addr}
end
section
variable {prog : Program}{w : World}{A : Around}{E : Value -> Shared -> Prop}{s : Shared}{a : Addr}
end
section
variable {prog : Program}{w : World}{A : Around}{E : Value -> Shared -> Prop}{s : Shared}{a it : Addr}{es : Array (Int×Value)}{i ep slot : Nat}{t : SetTable}
end
section
variable {prog : Program}{w : World}{A : Around}{E : Value -> Shared -> Prop}{s : Shared}{a it : Addr}{es : Array (Int×Value)}{i ep slot : Nat}{t : SetTable}
end
end L2.Sk
namespace L2.Sk
open PySem PySem.Calls PyProof.Rows PySem.Spec PySem.W
section
variable {prog : Program}{w : World}{A : Around}{E : Value -> Shared -> Prop}{s : Shared}{a : Addr}{S : List Int}
end
section
variable {prog : Program}{w : World}{A : Around}{E : Value -> Shared -> Prop}{s : Shared}{a : Addr}{S : List Int}
end
end L2.Sk
namespace L2
open PySem PySem.Spec PySem.Calls PyProof.Rows L2.Sk
namespace Sk
end Sk
section
variable {X : Cx}
end
end L2
namespace L2
open PySem PySem.Spec PyProof.Rows
section
variable {X : Cx}
theorem uT (bs:List Bool):(List.range bs.length).any (fun i=>bs.getD i false)=bs.any id:=by
 have e:(List.range bs.length).map (fun i=>bs.getD i false)=bs:=by
  refine List.ext_getElem (by simp) fun i h1 h2=>?_
  simp[h2]
 have:=List.any_map (f:=fun i=>bs.getD i false) (l:=List.range bs.length) (p:=id)
 rw[e]at this
 exact this.symm
theorem uR (K:PySem.W.Frag)(hc:X.calm=true)(hK:X.K=K:=by rfl):CallR X (.builtin "any") (fun xs H Q=>∃ (p:Addr)(bs:List Bool),xs=[.ref p]/\SqL K H p (bs.map V.bl)/\Q (.bl (bs.any id)) H):=by
 subst hK
 intro pins s σ H xs us Q I r h
 obtain⟨p,bs,rfl,hq,q⟩:=h
 obtain⟨u,rfl,r1⟩:=fP r
 cases r1
 obtain⟨its,rv,pl,hz⟩:=I.list hq
 have hlen:its.length=bs.length:=by have:=rv.length;rw[y9]at this;omega
 have hpn:p≠s.heap.objs.size:=by
  obtain⟨_,_,e,_⟩:=pl
  exact yS (yt e)
 refine call_any_walk ?_
 refine Bn pl.isList ?_
 refine⟨s.heap.objs.size,[s.heap.objs.size,p],[s.heap.objs.size],its.toArray.size,_,_,fun i=>bs.getD i false,rfl,Walks.list (A:=X.A.in1) (I.ok.hd hc) _ p hpn its.toArray,⟨⟨_,yC _ rfl,rfl,rfl⟩,pl.isList.push _⟩,fun i v s' Q' E' hv hQ=>?_,fun h' tk hk=>?_⟩
 ·have hv:its[i]?=some v:=by simpa using hv
  have hi:i<bs.length:=by rw[<- hlen];exact (yd.mp hv).1
  have hb:(bs.map V.bl)[i]?=some (V.bl bs[i]):=by rw[yf,yb hi];rfl
  obtain⟨w1,e1,r1⟩:=rv.get hb
  rw[hv]at e1;cases e1
  obtain rfl:v=Value.bool bs[i]:=r1
  dsimp only at hQ
  rw[yk,yb hi]at hQ
  exact zE hQ
 ·have e:its.toArray.size=bs.length:=by simp[hlen]
  rw[e,uT]
  refine⟨.bl (bs.any id),H,I.kept (t':=tk) fun b o e=>hk b o (fun z=>?_) (yg _ e),rfl,q⟩
  have z':b=s.heap.objs.size:=by simpa using z
  exact absurd (yt e) (by rw[z'];exact zC _)
def wy (P:Program)(w:World)(K:PySem.W.Frag)(mg:Str->Option Value)(base:Heap)(k:Nat)(x:Str)(ps:List Str)(dvs:List V)(sp:Sp):Prop:=
 ∃ f fd ds,mg x=some (.ref f)/\PySem.W.keepIn K (.ref f)=true/\Binds K fd ps ds/\Vals dvs ds/\FnOk P w K mg base (CXE P w) k f fd ps sp
def wI (sp:Sp)(dvs:List V)(W:St->XK)(t:TA):TE:=fun σ H Q=>t σ H fun vs H1=>sp (vs++dvs) H1 Q (W σ)
theorem uc {k:Nat}{x:Str}{ps:List Str}{dvs:List V}{sp:Sp}{W:St->XK}{t:TA}{e:Expr}{es:List Expr}{p pos:Pos} (hx:gC X W) (D:wy X.prog X.w X.K X.mg X.base k x ps dvs sp) (hr:Room k X.A) (hg:Gl X x)
  (ha:PA X (e::es) t) (hdb:(x==("__debug__":Str))=false:=by decide) (he:starEach (e::es) X.env=(false,eval e X.env)::starEach es X.env:=by rfl) (hpl:(backTo pos (starEach es X.env)).any (·.1)=false:=by rfl):
  PE X (.Call (.Name x p) (e::es) [] pos) (wI sp dvs W t):=by
 obtain⟨f,fd,ds,hm,hk,hb,hd,F⟩:=D
 intro pins s σ H Q I h
 refine zB (cQ I hg hm ?_ hdb)
 refine zR (h₀:=X.base) I.ok.mod.kin hk (thn (ha pos pins s σ H _ I h) fun us s1 ⟨vs,H1,I1,r,q⟩=>⟨I1.kIn,?_⟩) he hpl
 exact pV F hr hb hd hx I1 r q
end
section
variable {X : Cx}
theorem uO (hc:X.calm=true):CallR X (.builtin "min") (fun xs H Q=>∃ (p:Addr)(ns:List Int),xs=[.ref p]/\SqL X.K H p (ns.map V.int)/\ns≠[]/\∀ m,m∈ns->(∀ a∈ns,m<=a)->Q (.int m) H):=by
 intro pins s σ H xs us Q I r h
 obtain⟨p,ns,rfl,hq,hne,q⟩:=h
 obtain⟨u,rfl,r1⟩:=fP r
 cases r1
 obtain⟨its,rv,pl,hz⟩:=I.list hq
 have hi:IntsAre its ns:=iJ rv
 obtain⟨xs,hx⟩:=hi.allInts.items
 have hl':s.heap.IsList p (intItems xs):=hx▸pl.isList
 have e1:ns=xs.toList.map (·.1):=by
  rw[<- nums_intItems,<- hx]
  exact (show numsOf its.toArray.toList=ns from hi.numsOf).symm
 have hsz:0<xs.size:=by
  have:ns.length=xs.size:=by rw[e1,y9,zx]
  rw[<- this]
  exact List.length_pos_iff.mpr hne
 refine min_intList (I.ok.hd hc) hl' hsz fun v h' tk hv hk=>?_
 obtain⟨t,rfl⟩:=intItems_at hv
 obtain⟨h1,h2⟩:=argBest_lt (numAt xs) (xs.size - 1)
 refine⟨.int _,H,I.kept hk,⟨_,rfl⟩,q _ ?_ fun a ha=>?_⟩
 ·rw[numAt_eq,e1]
  exact getD_mem (by rw[y9,zx];omega)
 ·rw[e1]at ha
  obtain⟨j,hj,rfl⟩:=mem_getD ha
  rw[y9,zx]at hj
  rw[<- numAt_eq]
  exact h2 j (by omega)
theorem minK (K:PySem.W.Frag)(hc:X.calm=true)(h:X.K=K:=by rfl):CallR X (.builtin "min") (fun xs H Q=>∃ (p:Addr)(ns:List Int),xs=[.ref p]/\SqL K H p (ns.map V.int)/\ns≠[]/\∀ m,m∈ns->(∀ a∈ns,m<=a)->Q (.int m) H):=h▸uO hc
end
section
variable {X : Cx}{elt tg iter : Expr}{ifs : List Expr}{scope : Scope}{pos : Pos}{nT : Nat}{js : List Nat}{N' : List Str}{g : TG}{tt : TT}{te : TE}
theorem qc {J:Obj->Addr->It}{tl:TE}{i:Nat}{x:Str}{pos' spos:Pos} (hN:X.N.Nodup) (hi':X.N[i]?=some x) (hx:X.env.scope.names.lookup x=some .local) (hc:X.calm=true) (S:cq X scope nT js N') (hi:PI X tg iter (iDX X J tl))
  (hg:∀ cells C s H fp,PG (aV X scope N' cells C s H fp) tg g) (ht:∀ cells C s H fp,pC (aV X scope N' cells C s H fp) ifs tt) (he:∀ cells C s H fp,PE (aV X scope N' cells C s H fp) elt te)
  (hsw:swapsWith (.ListComp elt [⟨tg,iter,ifs,0⟩] scope pos) (some (.Name x pos')) spos.line X.env=pure true:=by rfl)
  (hs:∀ x,foldedSetIterable iter X.env x=pure x:=by intro _;rfl):PS X (.Assign [.Name x pos'] (.ListComp elt [⟨tg,iter,ifs,0⟩] scope pos) spos) (v4 (v3 J tl nT js g tt te) (bd i)):=by
 intro pins s σ H D I h
 exact thn (cb hN hi' hx hc S hi hg ht he hsw hs pins s σ H (nN (NF X) D) I ⟨_,h,fun x H1 ⟨d,kvs,e,hd,r⟩=>⟨d,kvs,e,hd,fun o nf=>r o _ nf⟩⟩) fun f s' q=>SP.thaw q
end
section
variable {X : Cx}{α : Type} [DecidableEq α] {R : Hp -> V -> α -> Prop}{k : Nat}
def vP (R:Hp->V->α->Prop)(H:Hp)(x:V)(as:List (Key×α)):Prop:=∃ d kvs,x=.ref d/\H d=some (.dK kvs)/\Paired (fun (kv:Key×V) (a:Key×α)=>kv.1=a.1/\R H kv.2 a.2) kvs as
def look (bs:List (Key×α))(k:Key):Option α:=(bs.find? fun e=>decide (e.1=k)).map (·.2)
def kW (as bs:List (Key×α)):Bool:=(as.length==bs.length)&&as.all fun d=>decide (look bs d.1=some d.2)
theorem qE {H:Hp}(k:Key):∀ {kb:List (Key×V)}{vb:List (Key×Value)}{bs:List (Key×α)},KV kb vb->Paired (fun (kv:Key×V) (a:Key×α)=>kv.1=a.1/\R H kv.2 a.2) kb bs->
  (valueAt vb k=none/\look bs k=none)\/∃ x y b,valueAt vb k=some y/\look bs k=some b/\RelV x y/\R H x b
 | [],_,_,.nil,.nil=>.inl ⟨rfl,rfl⟩
 | p::kb,_,_,.cons (b:=q) ⟨e1,r1⟩ r,.cons (b:=c) ⟨e2,r2⟩ r'=>by
  by_cases h:p.1=k
  ·refine .inr ⟨p.2,q.2,c.2,?_,?_,r1,r2⟩
   ·unfold valueAt
    rw[yQ,ye (show q.1=k by rw[<- e1,h])]
    rfl
   ·unfold look
    rw[yQ,ye (show c.1=k by rw[<- e2,h])]
    rfl
  ·have ih:=qE k r r'
   unfold valueAt look at ih ⊢
   rw[yQ,yQ,yj (show ¬ q.1=k by rw[<- e1];exact h),yj (show ¬ c.1=k by rw[<- e2];exact h)]
   exact ih
theorem tf {A:Around}{pins:List (Addr×Obj)}{s:Shared}{σ:St}{H:Hp} (h:EqK X.K R k) (I:Inv X pins σ H s) (hu:A.units+k<cLine) {kb:List (Key×V)}{vb:List (Key×Value)}{bs:List (Key×α)} (relb:KV kb vb) (pb:Paired (fun (kv:Key×V) (a:Key×α)=>kv.1=a.1/\R H kv.2 a.2) kb bs):
  ∀ {ka:List (Key×V)}{va:List (Key×Value)}{as:List (Key×α)},KV ka va->Paired (fun (kv:Key×V) (a:Key×α)=>kv.1=a.1/\R H kv.2 a.2) ka as->PySem.W.KeqHits A s vb va (as.all fun d=>decide (look bs d.1=some d.2))
 | [],_,_,.nil,.nil=>.nil
 | p::ka,_,_,.cons (b:=q) ⟨e1,r1⟩ r,.cons (b:=c) ⟨e2,r2⟩ r'=>by
  have ih:=tf h I hu relb pb r r'
  rw[Bx]
  obtain⟨qk,qv⟩:=q
  have e1:p.1=qk:=e1
  rcases qE (R:=R) qk relb pb with⟨h1,h2⟩|⟨x,y,b,h1,h2,h3,h4⟩
  ·rw[show decide (look bs c.1=some c.2)=false from yj (by rw[<- e2,e1,h2];exact fun z=>nomatch z),Am]
   exact .miss h1
  ·have he:=h.eq X A pins s σ H p.2 x qv y c.2 b rfl I r1 h3 r2 h4 hu
   have e3:decide (look bs c.1=some c.2)=decide (c.2=b):=by
    rw[<- e2,e1,h2]
    by_cases z:c.2=b
    ·rw[ye z,ye (by rw[z])]
    ·rw[yj z,yj (fun w=>z (Option.some.inj w).symm)]
   rw[e3]
   exact .hit h1 he ih
theorem tZ {ka kb:List (Key×V)}{va vb:List (Key×Value)}{as bs:List (Key×α)}{H:Hp} (r1:KV ka va) (p1:Paired (fun (kv:Key×V) (a:Key×α)=>kv.1=a.1/\R H kv.2 a.2) ka as) (r2:KV kb vb) (p2:Paired (fun (kv:Key×V) (a:Key×α)=>kv.1=a.1/\R H kv.2 a.2) kb bs):
  ((va.length==vb.length)&&as.all fun d=>decide (look bs d.1=some d.2))=kW as bs:=by
 unfold kW
 rw[<- KV.length r1,<- KV.length r2,Paired.length p1,Paired.length p2]
theorem op_neD (h:EqK X.K R k)(hu:X.A.units+(k+1)<cLine):OpR X (compareOp .NotEq) (fun x y H Q=>∃ as bs,vP R H x as/\vP R H y bs/\Q (.bl (!kW as bs)) H):=by
 intro pins s σ H x y v u Q I rx ry hw
 obtain⟨as,bs,⟨a,ka,rfl,ha,pa⟩,⟨b,kb,rfl,hb,pb⟩,q⟩:=hw
 cases rx
 cases ry
 obtain⟨_,la,va,ra,da⟩:=(show ObjOk X.prog X.w H s.heap a (.dK ka) from I.hok a _ ha)
 obtain⟨_,lb,vb,rb,db⟩:=(show ObjOk X.prog X.w H s.heap b (.dK kb) from I.hok b _ hb)
 refine PySem.W.keq_ne la lb da db (by omega) (fun _=>tf (A:=X.A.in1) h I (by show X.A.units+1+k<cLine;omega) rb pb ra pa) ?_
 rw[tZ ra pa rb pb]
 exact⟨.bl _,H,I,rfl,q⟩
theorem neDK (K:PySem.W.Frag)(hK:EqK K R k)(hu:X.A.units+(k+1)<cLine)(h:X.K=K:=by rfl):OpR X (compareOp .NotEq) (fun x y H Q=>∃ as bs,vP R H x as/\vP R H y bs/\Q (.bl (!kW as bs)) H):=by
 subst h;exact op_neD hK hu
end
def Iti (o:Obj)(d:Addr):It:=
 ⟨fun i H=>∃ kvs kv,H d=some (.frz o (.dK kvs))/\kvs[i]?=some kv,fun i H v H'=>∃ T,H T=none/\v=.ref T/\∃ kv:Key×V,(∀ kvs,H d=some (.frz o (.dK kvs))->kvs[i]?=some kv)/\H'=upd H T (.tup [kV kv.1,kv.2]),fun i H=>∃ kvs,H d=some (.frz o (.dK kvs))/\kvs.length<=i⟩
def tnIt (it d:Addr)(n ep:Nat)(i:Nat)(h:Heap):Prop:=∃ ok ov,IsItemIter h it d i n ep ok ov
theorem rq {P:Program}{w:World}{K:PySem.W.Frag}{elts:List Expr}{x1:Nat}{tpos:Pos} (it d:Addr) (o:Obj) {es:Array DictEntry}{ep:Nat} (ed:o.data=.dict es ep):sO P w K (.Tuple elts x1 tpos) (Iti o d) [it] it (tnIt it d es.size ep) where
 mem:=by simp
 obj:=fun i h st b hb=>by
  have e:b=it:=by simpa using hb
  subst e
  obtain⟨_,_,st⟩:=st
  exact⟨_,st,fun v z=>by cases z⟩
 keep:=fun i h h' ⟨ok,ov,st⟩ k=>⟨ok,ov,k it (by simp) _ st⟩
 item:=by
  intro X hP hw hK hc i pins s σ H E I hf st hg
  subst hP hw hK
  obtain⟨kvs,kv,hd,hx⟩:=hg
  obtain⟨ok,ov,st⟩:=st
  obtain⟨vs,r,da,hl⟩:=I.frd hd ed
  obtain⟨q,hq,hr⟩:=Paired.at r hx
  rw[<- hl]at st
  refine wpAny_pyNext_items_item st da (k:=q.1) (v:=q.2) hq fun key h' hkey a1 a2 a3 a4=>?_
  refine⟨_,rfl,wpAny_letOwnedTupleGo_items (s:={ s with heap:=h' }) a1 fun h'' b1 sb=>?_⟩
  have hT:H s.heap.objs.size=none:=I.hok.fresh (yi _)
  have zne:it≠s.heap.objs.size:=fun z=>absurd (yt st) (by rw[z];exact zC _)
  have kk:∀ c u,c∉[it]->s.heap.get? c=some u->h''.get? c=some u:=fun c u hc z=>by
   have hc:c≠it:=by simpa using hc
   exact sb.extBut _ _ hc (a4 c u hc z)
  have I1:Inv X pins σ H { s with heap:=h'' }:=I.turnedN (t':=s.toks) (ch:=[it]) hf kk
  have I2:Inv X pins σ (upd H s.heap.objs.size (.tup [kV kv.1,kv.2])) { s with heap:=h'' }:=by
   refine I1.track (I.fpOk (yi _) hT) I.sz ⟨by show 2<=sizeLine;decide,[key,q.2],.cons ?_ (.cons hr.2 .nil),?_⟩
   ·rw[hr.1];exact oW hkey
   ·exact⟨_,sb.extBut _ _ (Ne.symm zne) a2,rfl,_,rfl⟩
  refine⟨.ref s.heap.objs.size,_,I2,rfl,⟨_,hT,rfl,kv,fun kvs' hd'=>?_,rfl⟩,⟨key,q.2,?_⟩,fun c hc=>?_⟩
  ·rw[hd]at hd';cases hd';exact hx
  ·rw[hl]at b1;exact b1
  ·have hc:c=it:=by simpa using hc
   subst hc
   rw[af zne]
   exact (hf c (by simp)).1
 done:=by
  intro X hP hw hK hc i pins s σ H E I hf st hg
  subst hP hw hK
  obtain⟨kvs,hd,hx⟩:=hg
  obtain⟨ok,ov,st⟩:=st
  obtain⟨vs,r,da,hl⟩:=I.frd hd ed
  obtain⟨f0,f1,f2,f3,f4,f5⟩:=hf it (by simp)
  rw[<- hl]at st
  have:=KV.length r
  exact wpAny_pyNext_items_end (I.ok.hd hc) st da (yo (by omega)) fun h' eb=>⟨rfl,I.turned (t':=s.toks) (fun b o hb e=>eb b o hb e) f0 f1 f3 f4 f5⟩
 self:=fun _ _ _ _ _ ⟨ok,ov,st⟩ h=>PySem.W.kcp_self st h
section
variable {X : Cx}{tg : Expr}
theorem vh {elts:List Expr}{x1:Nat}{tpos:Pos}{l:Expr}{tl:TE}{apos cpos:Pos} (hl:PE X l tl)
  (hbase:attributeBase l "items" X.env (eval l X.env)=eval l X.env:=by rfl) (hline:(apos.endLine==cpos.line)=true:=by rfl):PI X (.Tuple elts x1 tpos) (.Call (.Attribute l "items" apos) [] [] cpos) (iDX X Iti tl):=by
 intro pins s σ H R I h
 obtain⟨Q,hq,h⟩:=h
 refine wpAny_Call_method0_late hbase hline (thn (hl pins s σ H _ I hq) fun v s1 ⟨x,H1,I1,r1,q1⟩=>?_)
 obtain⟨d,kvs,e,hd,q⟩:=h x H1 q1
 subst e
 cases r1
 obtain⟨z,lo,vs,r,ob,es,ep,ho,c1,c2,c3,c4,c5⟩:=(show ObjOk X.prog X.w H1 s1.heap d (.dK kvs) from I1.hok d _ hd)
 have hsz:vs.length=es.size:=by rw[<- c4.length];simp
 have da:s1.heap.DictAt (aQ X.prog X.w) d vs ep:=⟨ob,es,ho,c1,c2,c3,c4,c5⟩
 refine⟨"dict","dict.items",F.plainAttrs_dict,F.slot_dict_items,F.type_dict_items,da.dictOf.typeIs,fun a e2=>?_,zM rfl (PySem.evalArgs_none ?_)⟩
 ·cases e2
  exact⟨ob,ho,c1.2.1⟩
 refine AW F.slot_dict_items da.dictOf.typeIs F.entry_dict_items (F.args_dict_items_1 _) (meets_dict_items (aQ X.prog X.w) d lo) ⟨⟨vs,da.dictOf⟩,?_⟩
 have I2:=(I1.freeze hd ho).kept (t':=s1.toks) (h':=s1.heap.push { cls:=.type "dict_items",data:=.fields #[.ref d] }) fun b o e=>yg _ e
 show wpAny _ _ _ _ _ { s1 with heap:=s1.heap.push { cls:=.type "dict_items",data:=.fields #[.ref d] } }
 refine wpAny_pyIter_items (s:={ s1 with heap:=s1.heap.push { cls:=.type "dict_items",data:=.fields #[.ref d] } }) ⟨_,yC _ rfl,rfl,rfl⟩ (da.push _) ?_
 rw[hsz]
 refine⟨_,[(s1.heap.push { cls:=.type "dict_items",data:=.fields #[.ref d] }).objs.size],_,_,_,rfl,I2.kept (t':=s1.toks) fun b o e=>yg _ e,rq _ d ob c2,⟨_,_,yC _ rfl⟩,fun b hb=>?_,q ob (I1.nf hd)⟩
 have e:b=(s1.heap.push { cls:=.type "dict_items",data:=.fields #[.ref d] }).objs.size:=by simpa using hb
 subst e
 exact I2.fpOk (yi _) (I2.hok.fresh (yi _))
end
section
variable {prog : Program}{w : World}{A : Around}{E : Value -> Shared -> Prop}{s : Shared}
theorem xB {id:String}{b:Builtin}{us:List Value}{kw:List (Str×Value)}{Q:Value->Shared->Prop} (k1:builtinKind id=none) (k2:plainId id=true) (k3:entryFor table id=some b) (k4:argsOk id ⟨us,kw⟩)
  (go:wpAny (model prog w) A.in1 (b ⟨us,kw⟩) (fun fin s'=>match fin with
   | .done f=>(match (Except.ok f:Result) with|.ok (.ret v)=>Q v s'|.ok _=>False|.error e=>E e s')
   | .again c'=>c'.quiet=true/\codeAny (model prog w) A c' (fun r s'=>match r with|.ok (.ret v)=>Q v s'|.ok _=>False|.error e=>E e s') s') E s):
  wpAny (model prog w) A (call (.builtin id) us kw) Q E s:=by
 refine AB (AC k2 k3 ?_)
 simp only[checkBuiltinCall,k1]
 cases hs:Manifest.signature? id with
 | none=>exact yp go
 | some sig=>
  have k5:Bind.checkArgs id sig ⟨us,kw⟩=pure ():=by simpa only [argsOk,hs] using k4
  simp only[k5]
  exact yp go
end
section
variable {prog : Program}{w : World}{A : Around}{R : Result -> Shared -> Prop}{I : Addr}{fp wr : List Addr}{n : Nat}{P : Nat -> Value -> Prop}{St : Nat -> Heap -> Prop}{kw : List (Str×Value)}
theorem jc:(toString "min"++toString ".loop":String)="min.loop":=by decide
theorem uq (W:Walks prog w A.in1 I fp wr n P St)(bt:Nat->Nat->Bool)(cm:CmpOf prog w A.in1 .Lt P bt)(S:Addr)(nS:S∉fp):
  ∀ (k j:Nat)(s:Shared)(v0:Value)(e0:Nat),n - (j+1)=k->j+1<=n->St (j+1) s.heap->P (argBest bt j) v0->
  s.heap.get? S=some { cls:=.type "list",dict:=none,data:=.seq #[v0,v0] e0,slots:=#[] }->
  (∀ v h' tk,P (argBest bt (n - 1)) v->(∀ b o,b∉wr->b≠S->s.heap.get? b=some o->h'.get? b=some o)->R (.ok (.ret v)) { s with heap:=h',toks:=tk })->
  codeAny (model prog w) A (.builtin "min.loop" ⟨[.ref I,.none,.ref S],kw⟩) R s:=by
 have nW:S∉wr:=fun h=>nS (W.sub _ h)
 intro k
 induction k with
 | zero=>
  intro j s v0 e0 hk hj g0 g1 g2 g3
  have en:j+1=n:=by omega
  refine AK F.entry_min_loop ?_
  rw[Around.under_plainId Al _]
  show wpAny _ A.in1 (seqItems? (.ref S) >>= _) _ _ s
  refine yc (wpAny_seqItems g2 rfl ?_)
  show wpAny _ A.in1 (tryCatch (pyNext (.ref I)) _ >>= _) _ _ s
  refine yc (AS (W.done s _ _ (en▸g0) fun h' tk k'=>?_))
  have g2':=k' S _ nW g2
  show wpAny _ A.in1 (updateSeq S (fun _=>#[]) >>= _) _ _ _
  refine yc ?_
  refine wpAny_updateSeq g2' rfl (yc (wpAny_letGo (yp ?_)))
  exact g3 v0 _ tk (by rw[<- en];exact g1) fun b o b1 b2 e=>(zg _ _ (Ne.symm b2)).trans (k' b o b1 e)
 | succ k ih=>
  intro j s v0 e0 hk hj g0 g1 g2 g3
  have lt:j+1<n:=by omega
  refine AK F.entry_min_loop ?_
  rw[Around.under_plainId Al _]
  show wpAny _ A.in1 (seqItems? (.ref S) >>= _) _ _ s
  refine yc (wpAny_seqItems g2 rfl ?_)
  show wpAny _ A.in1 (tryCatch (pyNext (.ref I)) _ >>= _) _ _ s
  refine yc (AS (W.item (j+1) s _ _ lt g0 fun v h' tk gP g0' k'=>?_))
  have g2':=k' S _ nW g2
  show wpAny _ A.in1 (tryCatch (holding [v,v] (richCompare .Lt v v0 >>= _)) _ >>= _) _ _ _
  refine yc (AS (zu (yc (cm (j+1) (argBest bt j) v v0 _ _ _ gP g1 ?_))))
  refine yc (zu (zE ?_))
  refine yc (wpAny_letGo (yp ?_))
  cases hb:bt (j+1) (argBest bt j) with
  | true=>
   simp only[AV]
   refine yc ?_
   refine wpAny_updateSeq g2' rfl (yc (wpAny_letGo ?_))
   rw[jc]
   refine yp ⟨plainId_quiet Al _,ih (j+1) _ v _ (by omega) lt (W.frame _ _ _ g0' fun b bf o e=>?_) (by simp only[argBest,hb,AV];exact gP) (zP _ g2' rfl) fun v' h2 tk2 gP' k2=>?_⟩
   ·exact (zg _ _ (fun h:S=b=>nS (by rw[h];exact bf))).trans e
   ·exact g3 v' h2 tk2 gP' fun b o b1 b2 e=>k2 b o b1 b2 ((zg _ _ (Ne.symm b2)).trans (k' b o b1 e))
  | false=>
   simp only[zI,As]
   refine yc (wpAny_letGo ?_)
   rw[jc]
   refine yp ⟨plainId_quiet Al _,ih (j+1) _ v0 e0 (by omega) lt g0' (by simp only[argBest,hb,zI,As];exact g1) g2' fun v' h2 tk2 gP' k2=>?_⟩
   exact g3 v' h2 tk2 gP' fun b o b1 b2 e=>k2 b o b1 b2 (k' b o b1 e)
theorem sd (W:Walks prog w A.in1 I fp wr n P St)(bt:Nat->Nat->Bool)(cm:CmpOf prog w A.in1 .Lt P bt)(S:Addr)(nS:S∉fp){x:Str}{d:Value}{s:Shared}{e0:Nat} (g0:St 0 s.heap)
  (g2:s.heap.get? S=some { cls:=.type "list",dict:=none,data:=.seq #[] e0,slots:=#[] })
  (gN:n=0->∀ h' tk,(∀ b o,b∉wr->b≠S->s.heap.get? b=some o->h'.get? b=some o)->R (.ok (.ret d)) { s with heap:=h',toks:=tk })
  (g3:0<n->∀ v h' tk,P (argBest bt (n - 1)) v->(∀ b o,b∉wr->b≠S->s.heap.get? b=some o->h'.get? b=some o)->R (.ok (.ret v)) { s with heap:=h',toks:=tk }):
  codeAny (model prog w) A (.builtin "min.loop" ⟨[.ref I,.none,.ref S],[(x,d)]⟩) R s:=by
 have nW:S∉wr:=fun h=>nS (W.sub _ h)
 refine AK F.entry_min_loop ?_
 rw[Around.under_plainId Al _]
 show wpAny _ A.in1 (seqItems? (.ref S) >>= _) _ _ s
 refine yc (wpAny_seqItems g2 rfl ?_)
 show wpAny _ A.in1 (tryCatch (pyNext (.ref I)) _ >>= _) _ _ s
 by_cases hn:0<n
 ·refine yc (AS (W.item 0 s _ _ hn g0 fun v h' tk gP g0' k'=>?_))
  have g2':=k' S _ nW g2
  show wpAny _ A.in1 (updateSeq S (fun _=>#[v,v]) >>= _) _ _ _
  refine yc ?_
  refine wpAny_updateSeq g2' rfl ?_
  rw[jc]
  refine yp ⟨plainId_quiet Al _,uq W bt cm S nS _ 0 _ v _ rfl hn (W.frame _ _ _ g0' fun b bf o e=>?_) gP (zP _ g2' rfl) fun v' h2 tk2 gP' k2=>?_⟩
  ·exact (zg _ _ (fun h:S=b=>nS (by rw[h];exact bf))).trans e
  ·exact g3 hn v' h2 tk2 gP' fun b o b1 b2 e=>k2 b o b1 b2 ((zg _ _ (Ne.symm b2)).trans (k' b o b1 e))
 ·have en:n=0:=by omega
  refine yc (AS (W.done s _ _ (en▸g0) fun h' tk k'=>?_))
  show wpAny _ A.in1 (rule _ >>= _) _ _ _
  refine yc (wpAny_rule (yp ?_))
  exact gN en h' tk fun b o b1 _ e=>k' b o b1 e
end
section
variable {prog : Program}{w : World}{A : Around}{E : Value -> Shared -> Prop}{s : Shared}{l : Addr}{xs : Array (Int×Tok)}
theorem uS (a d:Value):argsOk "min" ⟨[a],[("default",d)]⟩:=by unfold argsOk;kernel_rfl
theorem vG {d:Value}{Q:Value->Shared->Prop} (hh:A.handled=none) (hl:s.heap.IsList l (intItems xs))
  (g0:xs.size=0->∀ h' tk,(∀ b o,s.heap.get? b=some o->h'.get? b=some o)->Q d { s with heap:=h',toks:=tk })
  (g1:0<xs.size->∀ v h' tk,(intItems xs)[argBest (fun i j=>decide (numAt xs i<numAt xs j)) (xs.size - 1)]?=some v->(∀ b o,s.heap.get? b=some o->h'.get? b=some o)->Q v { s with heap:=h',toks:=tk }):
  wpAny (model prog w) A (call (.builtin "min") [.ref l] [("default",d)]) Q E s:=by
 refine xB F.kind_min F.plain_min F.entry_min (uS _ _) ?_
 show wpAny _ A.in1 (Builtin.Builtins.bindParams "min" ["key","default"] 0 ⟨[],[("default",d)]⟩ >>= _) _ _ s
 refine yc (wpAny_of_eq (show Builtin.Builtins.bindParams "min" ["key","default"] 0 ⟨[],[("default",d)]⟩=pure [none,some d] from rfl) ?_)
 refine yc (yp ?_)
 refine yc (iter_intList hl fun s₂ e st hfp hlI=>?_)
 subst e
 refine yc (zZ ?_)
 rw[jc]
 refine yp ⟨plainId_quiet Al _,?_⟩
 have W:=Walks.list (A:=A.in1) (prog:=prog) (w:=w) hh _ l hlI (intItems xs)
 refine sd W (fun i j=>decide (numAt xs i<numAt xs j)) (CmpOf.ints_lt (numAt xs) (fun _ _=>intItems_at)) _ (fun hm=>zC _ (hfp _ hm)) (W.frame _ _ _ st fun b _ o e=>yg _ e) (yC _ rfl) (fun en h' tk hk=>?_) (fun hn v h' tk hP hk=>?_)
 ·exact g0 (by simpa [intItems] using en) h' tk (old_kept fun b o hb e=>hk b o hb (yS (yt e)) (yg _ e))
 ·exact g1 (by simpa [intItems] using hn) v h' tk (by simpa [intItems] using hP) (old_kept fun b o hb e=>hk b o hb (yS (yt e)) (yg _ e))
end
section
variable {X : Cx}{e : Expr}{es : List Expr}{kws : List Keyword}{t tk : TA}{p pos : Pos}
def tMinD (K:PySem.W.Frag)(t tk:TA):TE:=fun σ H Q=>t σ H fun vs H1=>tk σ H1 fun zs H2=>∃ (a:Addr)(ns:List Int)(y:V),vs=[.ref a]/\zs=[y]/\SqL K H2 a (ns.map V.int)/\(ns=[]->Q y H2)/\∀ m∈ns,(∀ j∈ns,m<=j)->Q (.int m) H2
theorem wZ (K:PySem.W.Frag)(hc:X.calm=true)(hg:Gl X "min")(hm:X.mg "min"=none)(hv:bootBuiltins "min"=some (.builtin "min"))(ha:PA X (e::es) t)(hk:PK X kws tk)(hK:X.K=K:=by rfl)(hks:(backToKw pos (keywordEach kws X.env)).filterMap (·.1)=(["default"]:List Str):=by rfl)
  (he:backTo pos (starEach (e::es) X.env)=(false,eval e X.env)::backTo pos (starEach es X.env):=by rfl)
  (hplain:(backTo pos (starEach (e::es) X.env)).any (·.1)=false:=by rfl)
  (hall:(backToKw pos (keywordEach kws X.env)).all (·.1.isSome)=true:=by rfl)
  (hkw:(backToKw pos (keywordEach kws X.env)).any (·.1.isNone)=false:=by rfl):PE X (.Call (.Name "min" p) (e::es) kws pos) (tMinD K t tk):=by
 subst hK
 intro pins s σ H Q I h
 refine zB (iG I hg hm hv ?_ (by decide) (by decide))
 refine callWith_kw (thn (ha pos pins s σ H _ I h) fun us s1 ⟨vs,H1,I1,r1,q1⟩=>thn (hk pos pins s1 σ H1 _ I1 q1) fun ws s2 ⟨zs,H2,I2,r2,q2⟩=>?_) he hplain hall hkw
 rw[hks]
 obtain⟨a,ns,y,rfl,rfl,hq,q0,q3⟩:=q2
 obtain⟨u,rfl,ru⟩:=fP r1
 cases ru
 obtain⟨d,rfl,rd⟩:=fP r2
 obtain⟨its,rv,pl,hz⟩:=I2.list hq
 have hi:IntsAre its ns:=iJ rv
 obtain⟨xs,hx⟩:=hi.allInts.items
 have hl':s2.heap.IsList a (intItems xs):=hx▸pl.isList
 have e1:ns=xs.toList.map (·.1):=by
  rw[<- nums_intItems,<- hx]
  exact (show numsOf its.toArray.toList=ns from hi.numsOf).symm
 have el:ns.length=xs.size:=by rw[e1,y9,zx]
 refine vG (I2.ok.hd hc) hl' (fun hn h' tk hk=>?_) (fun hn v h' tk hv hk=>?_)
 ·exact⟨y,H2,I2.kept hk,rd,q0 (List.length_eq_zero_iff.mp (by omega))⟩
 ·obtain⟨t',rfl⟩:=intItems_at hv
  obtain⟨h1,h2⟩:=argBest_lt (numAt xs) (xs.size - 1)
  refine⟨.int _,H2,I2.kept hk,⟨_,rfl⟩,q3 _ ?_ fun b hb=>?_⟩
  ·rw[numAt_eq,e1]
   exact getD_mem (by rw[y9,zx];omega)
  ·rw[e1]at hb
   obtain⟨j,hj,rfl⟩:=mem_getD hb
   rw[y9,zx]at hj
   rw[<- numAt_eq]
   exact h2 j (by omega)
end
end L2
namespace My
structure NoDiv (n d : Int) : Prop where
  is : ∀ e : Int, 2 <= e -> e < d -> Int.fmod n e ≠ 0
noncomputable def isP (n:Int):Bool:=@decide (2<=n/\∀ e:Int,2<=e->e * e<=n->Int.fmod n e≠0) (Classical.propDecidable _)
theorem isP_iff (n:Int):isP n=true ↔ (2<=n/\∀ e:Int,2<=e->e * e<=n->Int.fmod n e≠0):=by
 unfold isP
 exact @zH _ (Classical.propDecidable _)
theorem vO {p r:Int}(hp:isP p=true)(h2:2<=r)(hr:r<p):Int.fmod p r≠0:=by
 intro h0
 obtain⟨_,h⟩:=(isP_iff p).mp hp
 have hq:p=r * Int.fdiv p r:=by
  have:=Int.fmod_def p r
  omega
 generalize Int.fdiv p r=q at hq
 have hq2:2<=q:=by
  rcases Int.lt_or_le q 2 with c|c
  ·exfalso
   have:r * q<=r * 1:=Bd (by omega) (by omega)
   omega
  ·exact c
 rcases Int.le_total r q with c|c
 ·have:r * r<=r * q:=Bd c (by omega)
  exact h r h2 (by omega) h0
 ·have:q * q<=r * q:=Ba c (by omega)
  refine h q hq2 (by omega) ?_
  rw[hq,Int.mul_fmod_left]
def chk (p:Nat):Bool:=decide (2<=p)&&(List.range 1000).all fun e=>decide (e<2) || decide (p<e * e) || decide (p % e≠0)
theorem isP_chk {p:Nat}(h:chk p=true)(hp:p<1000000):isP (p:Int)=true:=by
 unfold chk at h
 rw[z7]at h
 obtain⟨h1,h2⟩:=h
 have h1:=yr h1
 rw[isP_iff]
 refine⟨by omega,fun e he hee h0=>?_⟩
 obtain⟨k,rfl⟩:∃ k:Nat,e=(k:Int):=⟨e.toNat,by omega⟩
 have hkk:k * k<=p:=by exact_mod_cast hee
 have hk:k<1000:=by
  rcases Nat.lt_or_ge k 1000 with c|c
  ·exact c
  ·have:1000 * 1000<=k * k:=Nat.mul_le_mul c c
   omega
 have:=(zJ.mp h2) k (Aj.mpr hk)
 simp only[Bool.or_eq_true,zU]at this
 rcases this with (c|c)|c
 ·omega
 ·omega
 ·apply c
  have:Int.fmod (p:Int) (k:Int)=((p % k:Nat):Int):=by
   rw[yZ _ (by omega)];rfl
  rw[this]at h0
  exact_mod_cast h0
theorem last_prime:isP 999983=true:=isP_chk (p:=999983) (by decide +kernel) (by decide)
structure Inv (p a rest made : Int) : Prop where
  eq : (made * a - rest) % p = 0
  lo : 0 <= made
  hi : made < p
theorem bk_start {p a r:Int}(hp:2<=p)(hr:Int.fmod a p=r):Inv p a r 1:=by
 refine⟨?_,by omega,by omega⟩
 rw[Int.one_mul,<- hr,yZ _ (by omega)]
 exact AG.mp (Int.emod_emod_of_dvd _ (Int.dvd_refl _)).symm
theorem tI {p a r m:Int}(h:Inv p a r m)(hp:2<=p)(hr:0<r):Inv p a (Int.fmod p r) (Int.fmod (m * (0 - Int.fdiv p r)) p):=by
 have e1:Int.fmod p r=p - r * Int.fdiv p r:=Int.fmod_def p r
 generalize Int.fdiv p r=q at *
 rw[e1]
 rw[yZ _ (by omega)]
 refine⟨?_,zd _ (by omega),yW _ (by omega)⟩
 have h0:=h.eq
 obtain⟨k,hk⟩:=Int.dvd_of_emod_eq_zero h0
 have e2:m * (0 - q) % p=m * (0 - q) - p * (m * (0 - q) / p):=Int.emod_def ..
 rw[e2]
 generalize m * (0 - q) / p=z
 apply Int.emod_eq_zero_of_dvd
 refine⟨- z * a - q * k - 1,?_⟩
 have e3:m * a=r+p * k:=by omega
 have:(m * (0 - q) - p * z) * a - (p - r * q)=- q * (m * a) - p * z * a - p+r * q:=by
  simp only[Int.sub_mul,Int.mul_sub,Int.mul_zero,Int.zero_sub,Int.neg_mul,Int.mul_neg]
  have:m * q * a=q * (m * a):=by rw[Ac m q,zw]
  omega
 rw[this,e3]
 simp only[Int.mul_sub,Int.mul_add,Int.mul_neg,Int.neg_mul,Int.mul_one]
 have a1:p * z * a=p * (z * a):=zw ..
 have a2:q * (p * k)=p * (q * k):=by rw[<- zw,Ac q p,zw]
 have a3:q * r=r * q:=Ac ..
 omega
theorem tJ {p r:Int}(hp:isP p=true)(h1:0<r)(h2:r≠1)(h3:r<p):0<Int.fmod p r/\Int.fmod p r<r:=by
 have:=vO hp (by omega) h3
 have a:=Int.fmod_nonneg_of_pos p h1
 have b:=Int.fmod_lt_of_pos p h1
 omega
end My
namespace Mx
def dot:List Int->List Int->Int
 | a::x,b::y=>a * b+dot x y
 | _,_=>0
def eR (p:Int):Int->List (Int×Int)->Int
 | t,[]=>t
 | t,(a,b)::r=>eR p ((t+a * b % p) % p) r
def rowSum (p:Int)(x y:List Int):Int:=eR p 0 (x.zip y)
theorem jT (p:Int):∀ (x y:List Int)(t:Int),t % p=t->eR p t (x.zip y)=(t+dot x y) % p
 | [],_,t,h=>by simp[eR,dot,h]
 | _::_,[],t,h=>by simp[eR,dot,h]
 | a::x,b::y,t,_=>by
  show eR p ((t+a * b % p) % p) (x.zip y)=_
  rw[jT p x y _ (Int.emod_emod_of_dvd _ (Int.dvd_refl _))]
  show ((t+a * b % p) % p+dot x y) % p=(t+(a * b+dot x y)) % p
  rw[Int.emod_add_emod,Int.add_assoc,Int.add_comm t,Int.add_assoc,Int.emod_add_emod]
  congr 1
  omega
theorem rowSum_eq (p:Int)(x y:List Int):rowSum p x y=dot x y % p:=by
 unfold rowSum
 rw[jT p x y 0 (by simp),Int.zero_add]
def onesRow (n i:Nat):List Int:=(List.range n).map fun j=>if j=i then 1 else 0
def ones (n:Nat):List (List Int):=(List.range n).map (onesRow n)
theorem map_mod_fit {p:Int}{r:List Int} (h:∀ x∈r,0<=x/\x<p):r.map (· % p)=r:=by
 have:r.map (· % p)=r.map id:=zn fun x hx=>zL (h x hx).1 (h x hx).2
 rw[this,AD]
abbrev e (r:List Int)(j:Nat):Int:=r.getD j 0
def FitR (p:Int)(r:List Int):Prop:=∀ x∈r,0<=x/\x<p
theorem FitR.at {p:Int}{r:List Int} (hp:0<p) (h:FitR p r) (j:Nat):0<=e r j/\e r j<p:=by
 unfold e
 rw[yk]
 cases hj:r[j]? with
 | none=>exact⟨Int.le_refl _,hp⟩
 | some x=>exact h x (yh hj)
def scaled (p:Int)(r:List Int)(k:Int):List Int:=r.map fun x=>k * x % p
def without (p:Int)(r lead:List Int)(q:Nat):List Int:=if e r q=0 then r else List.zipWith (fun m t=>(m - e r q * t % p) % p) r lead
def rowWith (rows:List (List Int))(start q:Nat):Option Nat:=(List.range' start (rows.length - start)).find? fun a=>decide (e (rows.getD a []) q≠0)
def cleared (p:Int)(bk:Int->Int)(rows:List (List Int))(start a q:Nat):List (List Int):=
 let lead:=scaled p (rows.getD a []) (bk (e (rows.getD a []) q))
 let others:=(rows.take a++rows.drop (a+1)).map fun r=>without p r lead q
 others.take start++[lead]++others.drop start
def step (p:Int)(bk:Int->Int)(st:List (List Int)×Nat)(q:Nat):List (List Int)×Nat:=
 match rowWith st.1 st.2 q with
 | none=>st
 | some a=>(cleared p bk st.1 st.2 a q,st.2+1)
def run (p:Int)(bk:Int->Int)(rows:List (List Int))(k:Nat):List (List Int)×Nat:=(List.range k).foldl (step p bk) (rows,0)
theorem run_succ (p:Int)(bk:Int->Int)(rows:List (List Int))(k:Nat):run p bk rows (k+1)=step p bk (run p bk rows k) k:=by
 unfold run
 rw[At,List.foldl_append]
 rfl
theorem qP {p:Int}{r:List Int}{k:Int} (j:Nat):e (scaled p r k) j=k * e r j % p:=by
 unfold e scaled
 rw[yk,yk,yf]
 cases r[j]? with
 | none=>simp
 | some x=>simp
theorem nO {p:Int}{r lead:List Int}{q:Nat} (hp:0<p) (hr:FitR p r) (hl:lead.length=r.length) (j:Nat):e (without p r lead q) j=(e r j - e r q * e lead j) % p:=by
 unfold without
 by_cases h:e r q=0
 ·rw[if_pos h,h,Int.zero_mul,Int.sub_zero]
  have:=hr.at hp j
  exact (zL this.1 this.2).symm
 ·rw[if_neg h]
  unfold e
  rw[yk,yk,List.getElem?_zipWith]
  rw[show lead.getD j 0=(lead[j]?).getD 0 from yk ..]
  by_cases hj:j<r.length
  ·have hj':j<lead.length:=by omega
   simp only[yb hj,yb hj',Option.getD_some]
   rw[Int.sub_emod_emod]
   simp[hj]
  ·have hj':¬ j<lead.length:=by omega
   have n1:r[j]?=none:=yo (by omega)
   have n2:lead[j]?=none:=yo (by omega)
   simp[n1,n2]
theorem jg (p x:Int):p ∣ x % p - x:=by
 refine⟨-(x / p),?_⟩
 rw[Int.emod_def,Int.mul_neg]
 omega
theorem ml (p k:Int):∀ (r v:List Int),p ∣ dot (scaled p r k) v - k * dot r v
 | [],v=>by simp[scaled,dot]
 | x::r,[]=>by simp[scaled,dot]
 | x::r,y::v=>by
  have ih:=ml p k r v
  have h:=jg p (k * x)
  show p ∣ (k * x % p * y+dot (scaled p r k) v) - k * (x * y+dot r v)
  have:(k * x % p * y+dot (scaled p r k) v) - k * (x * y+dot r v)=(k * x % p - k * x) * y+(dot (scaled p r k) v - k * dot r v):=by
   rw[Int.sub_mul,Int.mul_add,zw k x y]
   omega
  rw[this]
  exact Int.dvd_add (Int.dvd_mul_of_dvd_left h) ih
theorem tw (p c:Int):∀ (r lead v:List Int),lead.length=r.length->p ∣ dot (List.zipWith (fun m t=>(m - c * t % p) % p) r lead) v - (dot r v - c * dot lead v)
 | [],[],v,_=>by simp[dot]
 | x::r,y::lead,[],_=>by simp[dot]
 | x::r,y::lead,z::v,h=>by
  have ih:=tw p c r lead v (by simpa using h)
  have h1:p ∣ (x - c * y % p) % p - (x - c * y):=by
   rw[Int.sub_emod_emod];exact jg p _
  show p ∣ ((x - c * y % p) % p * z+dot _ v) - (x * z+dot r v - c * (y * z+dot lead v))
  have:((x - c * y % p) % p * z+dot (List.zipWith (fun m t=>(m - c * t % p) % p) r lead) v) - (x * z+dot r v - c * (y * z+dot lead v))=((x - c * y % p) % p - (x - c * y)) * z+(dot (List.zipWith (fun m t=>(m - c * t % p) % p) r lead) v - (dot r v - c * dot lead v)):=by
   rw[Int.sub_mul ((x - c * y % p) % p),Int.sub_mul x,Int.mul_add,zw c y z]
   omega
  rw[this]
  exact Int.dvd_add (Int.dvd_mul_of_dvd_left h1) ih
theorem k7 (p:Int)(r lead v:List Int)(q:Nat)(h:lead.length=r.length):p ∣ dot (without p r lead q) v - (dot r v - e r q * dot lead v):=by
 unfold without
 by_cases h0:e r q=0
 ·rw[if_pos h0,h0,Int.zero_mul,Int.sub_zero,Int.sub_self];exact Int.dvd_zero p
 ·rw[if_neg h0];exact tw p _ r lead v h
def Ker (p:Int)(v:List Int)(rows:List (List Int)):Prop:=∀ r∈rows,p ∣ dot r v
structure Sh (p : Int) (w : Nat) (rows : List (List Int)) : Prop where
  wid : ∀ r ∈ rows, r.length = w
  fit : ∀ r ∈ rows, FitR p r
def Bk (p:Int)(bk:Int->Int):Prop:=∀ a,0<a->a<p->p ∣ a * bk a - 1
theorem mem_cleared {p:Int}{bk:Int->Int}{rows:List (List Int)}{start a q:Nat}{r:List Int}:
  r∈cleared p bk rows start a q ↔ r=scaled p (rows.getD a []) (bk (e (rows.getD a []) q))\/∃ r0∈rows.take a++rows.drop (a+1),r=without p r0 (scaled p (rows.getD a []) (bk (e (rows.getD a []) q))) q:=by
 unfold cleared
 simp only[]
 generalize hl:scaled p (rows.getD a []) (bk (e (rows.getD a []) q))=lead
 generalize hm:(rows.take a++rows.drop (a+1)).map (fun r=>without p r lead q)=others
 have:r∈others.take start++[lead]++others.drop start ↔ r=lead\/r∈others:=by
  constructor
  ·intro h
   rcases yE.mp h with h|h
   ·rcases yE.mp h with h|h
    ·exact .inr (List.mem_of_mem_take h)
    ·exact .inl (by simpa using h)
   ·exact .inr (List.mem_of_mem_drop h)
  ·intro h
   rcases h with h|h
   ·subst h;simp
   ·have:r∈others.take start++others.drop start:=by rw[List.take_append_drop];exact h
    rcases yE.mp this with h|h
    ·exact z8 _ (z8 _ h)
    ·exact yT _ h
 rw[this,<- hm]
 constructor
 ·rintro (h|h)
  ·exact .inl h
  ·obtain⟨r0,h1,h2⟩:=yw.mp h
   exact .inr ⟨r0,h1,h2.symm⟩
 ·rintro (h|⟨r0,h1,h2⟩)
  ·exact .inl h
  ·exact .inr (yw.mpr ⟨r0,h1,h2.symm⟩)
theorem ur {rows:List (List Int)}{a:Nat} (ha:a<rows.length) {r:List Int} (h:r∈rows):r=rows.getD a []\/r∈rows.take a++rows.drop (a+1):=by
 obtain⟨i,hi,rfl⟩:=Ah h
 rcases Nat.lt_trichotomy i a with c|c|c
 ·right
  refine z8 _ ?_
  rw[zD]
  exact⟨i,by omega,rfl⟩
 ·left;subst c;simp[hi]
 ·right
  refine yT _ ?_
  rw[List.mem_drop_iff_getElem]
  exact⟨i - (a+1),by omega,by congr 1;omega⟩
theorem mem_of_split {rows:List (List Int)}{a:Nat}{r:List Int} (h:r∈rows.take a++rows.drop (a+1)):r∈rows:=by
 rcases yE.mp h with h|h
 ·exact List.mem_of_mem_take h
 ·exact List.mem_of_mem_drop h
theorem getD_mem {rows:List (List Int)}{a:Nat} (ha:a<rows.length):rows.getD a []∈rows:=by
 rw[yk,yb ha];exact AF ha
theorem rC {p k:Int}{r:List Int} (hp:0<p):FitR p (scaled p r k):=by
 intro x hx
 obtain⟨y,_,rfl⟩:=yw.mp hx
 exact⟨zd _ (by omega),yW _ hp⟩
theorem pF {p:Int}{r lead:List Int}{q:Nat} (hp:0<p) (h:FitR p r):FitR p (without p r lead q):=by
 unfold without
 split
 ·exact h
 ·intro x hx
  obtain⟨i,hi,rfl⟩:=Ah hx
  rw[List.getElem_zipWith]
  exact⟨zd _ (by omega),yW _ hp⟩
theorem pE {p:Int}{r lead:List Int}{q:Nat} (h:lead.length=r.length):(without p r lead q).length=r.length:=by
 unfold without
 split
 ·rfl
 ·rw[List.length_zipWith];omega
theorem Sh.cleared {p:Int}{bk:Int->Int}{w:Nat}{rows:List (List Int)}{start a q:Nat} (hp:0<p) (S:Sh p w rows) (ha:a<rows.length):Sh p w (cleared p bk rows start a q):=by
 have hl:(scaled p (rows.getD a []) (bk (e (rows.getD a []) q))).length=w:=by
  unfold scaled
  rw[y9];exact S.wid _ (getD_mem ha)
 refine⟨fun r hr=>?_,fun r hr=>?_⟩
 ·rcases mem_cleared.mp hr with rfl|⟨r0,h0,rfl⟩
  ·exact hl
  ·have:=S.wid r0 (mem_of_split h0)
   rw[pE (by omega)];exact this
 ·rcases mem_cleared.mp hr with rfl|⟨r0,h0,rfl⟩
  ·exact rC hp
  ·exact pF hp (S.fit r0 (mem_of_split h0))
theorem qH {p:Int}{bk:Int->Int}{w:Nat}{rows:List (List Int)}{start a q:Nat}{v:List Int} (hp:0<p) (hb:Bk p bk) (S:Sh p w rows) (ha:a<rows.length) (h0:e (rows.getD a []) q≠0):
  Ker p v (cleared p bk rows start a q) ↔ Ker p v rows:=by
 have hm:=getD_mem ha
 have hf:=(S.fit _ hm).at hp q
 generalize hx:e (rows.getD a []) q=x at *
 have hb':=hb x (by omega) hf.2
 have hl:=fun r (hr:r∈rows)=>show (scaled p (rows.getD a []) (bk x)).length=r.length by
  unfold scaled;rw[y9,S.wid _ hm,S.wid _ hr]
 have d1:=ml p (bk x) (rows.getD a []) v
 constructor
 ·intro K r hr
  have k1:p ∣ dot (scaled p (rows.getD a []) (bk x)) v:=K _ (mem_cleared.mpr (.inl (by rw[hx])))
  rcases ur ha hr with rfl|h
  ·
   have a1:p ∣ bk x * dot (rows.getD a []) v:=by
    have:=Int.dvd_sub k1 d1
    rwa [show dot (scaled p (rows.getD a []) (bk x)) v - (dot (scaled p (rows.getD a []) (bk x)) v - bk x * dot (rows.getD a []) v)=bk x * dot (rows.getD a []) v by omega]at this
   have a2:p ∣ (x * bk x - 1) * dot (rows.getD a []) v:=Int.dvd_mul_of_dvd_left hb'
   have a3:p ∣ x * (bk x * dot (rows.getD a []) v):=AJ a1
   have:=Int.dvd_sub a3 a2
   rwa [show x * (bk x * dot (rows.getD a []) v) - (x * bk x - 1) * dot (rows.getD a []) v=dot (rows.getD a []) v by rw[Int.sub_mul,zw];omega]at this
  ·have k2:p ∣ dot (without p r (scaled p (rows.getD a []) (bk x)) q) v:=K _ (mem_cleared.mpr (.inr ⟨r,h,by rw[hx]⟩))
   have d2:=k7 p r (scaled p (rows.getD a []) (bk x)) v q (hl r hr)
   have a1:=Int.dvd_sub k2 d2
   have a2:p ∣ e r q * dot (scaled p (rows.getD a []) (bk x)) v:=AJ k1
   have:=Int.dvd_add a1 a2
   rwa [show dot (without p r (scaled p (rows.getD a []) (bk x)) q) v - (dot (without p r (scaled p (rows.getD a []) (bk x)) q) v - (dot r v - e r q * dot (scaled p (rows.getD a []) (bk x)) v))+e r q * dot (scaled p (rows.getD a []) (bk x)) v=dot r v by omega]at this
 ·intro K r hr
  have k1:p ∣ dot (scaled p (rows.getD a []) (bk x)) v:=by
   have a1:p ∣ bk x * dot (rows.getD a []) v:=AJ (K _ hm)
   have:=Int.dvd_add d1 a1
   rwa [show dot (scaled p (rows.getD a []) (bk x)) v - bk x * dot (rows.getD a []) v+bk x * dot (rows.getD a []) v=dot (scaled p (rows.getD a []) (bk x)) v by omega]at this
  rcases mem_cleared.mp hr with rfl|⟨r0,h0,rfl⟩
  ·rw[hx];exact k1
  ·rw[hx]
   have hr0:=mem_of_split h0
   have d2:=k7 p r0 (scaled p (rows.getD a []) (bk x)) v q (hl r0 hr0)
   have a2:p ∣ dot r0 v - e r0 q * dot (scaled p (rows.getD a []) (bk x)) v:=Int.dvd_sub (K r0 hr0) (AJ k1)
   have:=Int.dvd_add d2 a2
   rwa [show dot (without p r0 (scaled p (rows.getD a []) (bk x)) q) v - (dot r0 v - e r0 q * dot (scaled p (rows.getD a []) (bk x)) v)+(dot r0 v - e r0 q * dot (scaled p (rows.getD a []) (bk x)) v)=dot (without p r0 (scaled p (rows.getD a []) (bk x)) q) v by omega]at this
structure RR (p : Int) (w k : Nat) (rows : List (List Int)) (ps : List Nat) : Prop where
  sh : Sh p w rows
  len : ps.length <= rows.length
  lt : ∀ q ∈ ps, q < k
  inc : ps.Pairwise (· < ·)
  one : ∀ (i q : Nat), ps[i]? = some q -> e (rows.getD i []) q = 1
  zer : ∀ (i j q : Nat), ps[j]? = some q -> i ≠ j -> e (rows.getD i []) q = 0
  lead : ∀ (i q q' : Nat), ps[i]? = some q -> q' < q -> e (rows.getD i []) q' = 0
  rest : ∀ (i q : Nat), ps.length <= i -> q < k -> e (rows.getD i []) q = 0
theorem wb (q:Nat):e [] q=0:=by simp[e]
theorem RR.start {p:Int}{w:Nat}{rows:List (List Int)} (S:Sh p w rows):RR p w 0 rows []:=
 ⟨S,yP _,(fun _ h=>nomatch h),List.Pairwise.nil,(fun i q h=>by simp at h),(fun i j q h=>by simp at h),(fun i q q' h=>by simp at h),fun i q _ h=>absurd h (Nat.not_lt_zero _)⟩
theorem oE {rows:List (List Int)}{start q:Nat} (h:rowWith rows start q=none):∀ i,start<=i->e (rows.getD i []) q=0:=by
 intro i hi
 by_cases hl:i<rows.length
 ·unfold rowWith at h
  rw[zc]at h
  have:=h i (by rw[List.mem_range'];exact⟨i - start,by omega,by omega⟩)
  simpa using this
 ·rw[yk,yo (by omega)];exact wb q
theorem rowWith_some {rows:List (List Int)}{start q a:Nat} (h:rowWith rows start q=some a):start<=a/\a<rows.length/\e (rows.getD a []) q≠0:=by
 unfold rowWith at h
 have h1:=zY h
 have h2:=zk h
 rw[List.mem_range']at h2
 obtain⟨i,hi,rfl⟩:=h2
 refine⟨by omega,by omega,by simpa using h1⟩
theorem gz {p:Int}{bk:Int->Int}{rows:List (List Int)}{start a q:Nat} (ha:a<rows.length) (hs:start<=a):(cleared p bk rows start a q).length=rows.length:=by
 unfold cleared
 simp only[yu,yO,B9,y9,zF,yY,Au]
 omega
theorem cN {p:Int}{bk:Int->Int}{rows:List (List Int)}{start a q:Nat} (ha:a<rows.length) (hs:start<=a) (i:Nat) (hi:i<rows.length):
  ∃ lead,lead=scaled p (rows.getD a []) (bk (e (rows.getD a []) q))/\
   ((i<start/\(cleared p bk rows start a q).getD i []=without p (rows.getD i []) lead q)\/(i=start/\(cleared p bk rows start a q).getD i []=lead) \/
    (start<i/\∃ i',start<=i'/\i'<rows.length/\i'≠a/\(cleared p bk rows start a q).getD i []=without p (rows.getD i' []) lead q)):=by
 refine⟨_,rfl,?_⟩
 unfold cleared
 simp only[]
 generalize scaled p (rows.getD a []) (bk (e (rows.getD a []) q))=lead
 have hol:((rows.take a++rows.drop (a+1)).map fun r=>without p r lead q).length=rows.length - 1:=by
  simp only[y9,yu,yO,B9];omega
 have hoa:∀ j,j<rows.length - 1->((rows.take a++rows.drop (a+1)).map fun r=>without p r lead q)[j]?=some (without p (rows.getD (if j<a then j else j+1) []) lead q):=by
  intro j hj
  rw[yf]
  by_cases c:j<a
  ·rw[yK (by rw[yO];omega),Bw c,if_pos c,yb (by omega),yk,yb (by omega)]
   rfl
  ·rw[yF (by rw[yO];omega),yO,List.getElem?_drop,if_neg c]
   have:a+1+(j - min a rows.length)=j+1:=by omega
   rw[this,yb (by omega),yk,yb (by omega)]
   rfl
 generalize ((rows.take a++rows.drop (a+1)).map fun r=>without p r lead q)=others at hol hoa
 rw[yk]
 rcases Nat.lt_trichotomy i start with c|c|c
 ·left
  refine⟨c,?_⟩
  rw[Ab,yK (by rw[yO];omega),Bw c,hoa i (by omega),if_pos (by omega)]
  rfl
 ·right;left
  refine⟨c,?_⟩
  subst c
  rw[Ab,yF (by rw[yO];omega),yO]
  have:i - min i others.length=0:=by omega
  rw[this]
  rfl
 ·right;right
  refine⟨c,if i - 1<a then i - 1 else i - 1+1,?_,?_,?_,?_⟩
  ·split <;> omega
  ·split <;> omega
  ·split <;> omega
  ·rw[yF (by rw[yu,yO,zF];omega),yu,yO,zF,List.getElem?_drop]
   have:start+(i - (min start others.length+1))=i - 1:=by omega
   rw[this,hoa (i - 1) (by omega)]
   rfl
theorem RR.step {p:Int}{bk:Int->Int}{w k:Nat}{rows:List (List Int)}{ps:List Nat} (hp:1<p) (hb:Bk p bk) (R:RR p w k rows ps):
  ∃ ps',Mx.step p bk (rows,ps.length) k=((Mx.step p bk (rows,ps.length) k).1,ps'.length)/\RR p w (k+1) (Mx.step p bk (rows,ps.length) k).1 ps'/\(Mx.step p bk (rows,ps.length) k).1.length=rows.length/\∀ v,Ker p v (Mx.step p bk (rows,ps.length) k).1 ↔ Ker p v rows:=by
 unfold Mx.step
 simp only[]
 cases h:rowWith rows ps.length k with
 | none=>
  have z:=oE h
  refine⟨ps,rfl,⟨R.sh,R.len,fun q hq=>Br (R.lt q hq),R.inc,R.one,R.zer,R.lead,fun i q hi hq=>?_⟩,rfl,fun v=>Iff.rfl⟩
  rcases Nat.lt_succ_iff_lt_or_eq.mp hq with c|c
  ·exact R.rest i q hi c
  ·subst c;exact z i hi
 | some a=>
  obtain⟨hs,ha,h0⟩:=rowWith_some h
  have hp0:0<p:=by omega
  have hm:=getD_mem ha
  have hf:=(R.sh.fit _ hm).at hp0 k
  refine⟨ps++[k],by simp,?_,gz ha hs,fun v=>qH hp0 hb R.sh ha h0⟩
  have hlen:=gz (p:=p) (bk:=bk) (q:=k) ha hs
  have hb':=hb (e (rows.getD a []) k) (by omega) hf.2
  have l1:e (scaled p (rows.getD a []) (bk (e (rows.getD a []) k))) k=1:=by
   rw[qP,Ac]
   have:(e (rows.getD a []) k * bk (e (rows.getD a []) k)) % p=1 % p:=(AG).mpr (Int.emod_eq_zero_of_dvd hb')
   rw[this];exact zL (by omega) hp
  have l0:∀ q,q<k->e (scaled p (rows.getD a []) (bk (e (rows.getD a []) k))) q=0:=fun q hq=>by
   rw[qP,R.rest a q hs hq,Int.mul_zero,Int.zero_emod]
  have wz:∀ (i:Nat)(lead:List Int),i<rows.length->lead=scaled p (rows.getD a []) (bk (e (rows.getD a []) k))->
    e (without p (rows.getD i []) lead k) k=0/\∀ q,q<k->e (without p (rows.getD i []) lead k) q=e (rows.getD i []) q:=by
   intro i lead hi hl
   have hmi:=getD_mem hi
   have hll:lead.length=(rows.getD i []).length:=by rw[hl];unfold scaled;rw[y9,R.sh.wid _ hm,R.sh.wid _ hmi]
   refine⟨?_,fun q hq=>?_⟩
   ·rw[nO hp0 (R.sh.fit _ hmi) hll,hl,l1,Int.mul_one,Int.sub_self,Int.zero_emod]
   ·rw[nO hp0 (R.sh.fit _ hmi) hll,hl,l0 q hq,Int.mul_zero,Int.sub_zero]
    have:=(R.sh.fit _ hmi).at hp0 q
    exact zL this.1 this.2
  have out:∀ i,¬ i<rows.length->(cleared p bk rows ps.length a k).getD i []=[]:=fun i hi=>by
   rw[yk,yo (by omega)];rfl
  have psk:∀ (i q:Nat),(ps++[k])[i]?=some q->(i<ps.length/\ps[i]?=some q)\/(i=ps.length/\q=k):=fun i q hq=>by
   by_cases c:i<ps.length
   ·rw[yK c]at hq;exact .inl ⟨c,hq⟩
   ·rw[yF (by omega)]at hq
    by_cases c2:i - ps.length=0
    ·rw[c2]at hq;simp at hq;exact .inr ⟨by omega,hq.symm⟩
    ·rw[yo (by simp;omega)]at hq;cases hq
  have plt:∀ (i q:Nat),ps[i]?=some q->q<k:=fun i q hq=>R.lt q (yh hq)
  refine⟨R.sh.cleared hp0 ha,by rw[hlen,yu,zF];omega,fun q hq=>?_,?_,fun i q hq=>?_,fun i j q hq hij=>?_,fun i q q' hq hq'=>?_,fun i q hi hq=>?_⟩
  ·rcases yE.mp hq with c|c
   ·exact Br (R.lt q c)
   ·have:q=k:=by simpa using c
    omega
  ·rw[List.pairwise_append]
   refine⟨R.inc,List.pairwise_singleton _ _,fun x hx y hy=>?_⟩
   have:y=k:=by simpa using hy
   rw[this];exact R.lt x hx
  ·
   rcases psk i q hq with⟨c,hq⟩|⟨c,rfl⟩
   ·obtain⟨lead,hl,d⟩:=cN (p:=p) (bk:=bk) (q:=k) ha hs i (by omega)
    rcases d with⟨_,d⟩|⟨d,_⟩|⟨d,_⟩
    ·rw[d,(wz i lead (by omega) hl).2 q (plt i q hq)];exact R.one i q hq
    ·omega
    ·omega
   ·obtain⟨lead,hl,d⟩:=cN (p:=p) (bk:=bk) (q:=q) ha hs i (by omega)
    rcases d with⟨d,_⟩|⟨_,d⟩|⟨d,_⟩
    ·omega
    ·rw[d,hl];exact l1
    ·omega
  ·
   by_cases hi:i<rows.length
   ·obtain⟨lead,hl,d⟩:=cN (p:=p) (bk:=bk) (q:=k) ha hs i hi
    rcases psk j q hq with⟨c,hq⟩|⟨c,rfl⟩
    ·have hk:=plt j q hq
     rcases d with⟨_,d⟩|⟨d1,d⟩|⟨_,i',d1,d2,_,d⟩
     ·rw[d,(wz i lead hi hl).2 q hk];exact R.zer i j q hq hij
     ·rw[d,hl];exact l0 q hk
     ·rw[d,(wz i' lead d2 hl).2 q hk];exact R.rest i' q d1 hk
    ·rcases d with⟨_,d⟩|⟨d1,d⟩|⟨_,i',d1,d2,_,d⟩
     ·rw[d];exact (wz i lead hi hl).1
     ·omega
     ·rw[d];exact (wz i' lead d2 hl).1
   ·rw[out i hi];exact wb q
  ·
   rcases psk i q hq with⟨c,hq⟩|⟨c,rfl⟩
   ·have hk:=plt i q hq
    obtain⟨lead,hl,d⟩:=cN (p:=p) (bk:=bk) (q:=k) ha hs i (by omega)
    rcases d with⟨_,d⟩|⟨d,_⟩|⟨d,_⟩
    ·rw[d,(wz i lead (by omega) hl).2 q' (by omega)];exact R.lead i q q' hq hq'
    ·omega
    ·omega
   ·obtain⟨lead,hl,d⟩:=cN (p:=p) (bk:=bk) (q:=q) ha hs i (by omega)
    rcases d with⟨d,_⟩|⟨_,d⟩|⟨d,_⟩
    ·omega
    ·rw[d,hl];exact l0 q' hq'
    ·omega
  ·
   rw[yu,zF]at hi
   by_cases hil:i<rows.length
   ·obtain⟨lead,hl,d⟩:=cN (p:=p) (bk:=bk) (q:=k) ha hs i hil
    rcases d with⟨d,_⟩|⟨d,_⟩|⟨_,i',d1,d2,_,d⟩
    ·omega
    ·omega
    ·rcases Nat.lt_succ_iff_lt_or_eq.mp hq with c|c
     ·rw[d,(wz i' lead d2 hl).2 q c];exact R.rest i' q d1 c
     ·subst c;rw[d];exact (wz i' lead d2 hl).1
   ·rw[out i hil];exact wb q
theorem RR.run {p:Int}{bk:Int->Int}{w:Nat}{rows:List (List Int)} (hp:1<p) (hb:Bk p bk) (S:Sh p w rows):∀ k,∃ ps,(Mx.run p bk rows k).2=ps.length/\RR p w k (Mx.run p bk rows k).1 ps/\(Mx.run p bk rows k).1.length=rows.length/\∀ v,Ker p v (Mx.run p bk rows k).1 ↔ Ker p v rows
 | 0=>⟨[],rfl,RR.start S,rfl,fun v=>Iff.rfl⟩
 | k+1=>by
  obtain⟨ps,h1,h2,h3,h4⟩:=RR.run (bk:=bk) hp hb S k
  rw[run_succ]
  have e1:Mx.run p bk rows k=((Mx.run p bk rows k).1,ps.length):=by rw[<- h1]
  rw[e1]
  obtain⟨ps',g1,g2,g3,g4⟩:=h2.step hp hb
  exact⟨ps',by rw[g1],g2,g3.trans h3,fun v=>(g4 v).trans (h4 v)⟩
def firstPlace (r:List Int)(m:Nat):Option Nat:=(List.range m).find? fun q=>decide (e r q≠0)
def leadPlaces (rows:List (List Int))(m:Nat):List Nat:=(rows.map fun r=>firstPlace r m).filterMap id
theorem firstPlace_some {r:List Int}{m q:Nat} (hq:q<m) (h1:e r q≠0) (h0:∀ q',q'<q->e r q'=0):firstPlace r m=some q:=by
 unfold firstPlace
 rw[List.find?_range_eq_some]
 exact⟨by simpa using h1,Aj.mpr hq,fun j hj=>by simpa using h0 j hj⟩
theorem firstPlace_none {r:List Int}{m:Nat} (h0:∀ q,q<m->e r q=0):firstPlace r m=none:=by
 unfold firstPlace
 rw[zc]
 intro q hq
 simpa using h0 q (Aj.mp hq)
theorem leadPlaces_eq {p:Int}{w m:Nat}{rows:List (List Int)}{ps:List Nat} (R:RR p w m rows ps):leadPlaces rows m=ps:=by
 have:rows.map (fun r=>firstPlace r m)=ps.map some++List.replicate (rows.length - ps.length) none:=by
  apply zz
  intro i
  rw[yf]
  have hl:=R.len
  by_cases hi:i<rows.length
  ·rw[yb hi]
   have eg:rows.getD i []=rows[i]:=by rw[yk,yb hi];rfl
   by_cases c:i<ps.length
   ·rw[yK (by simpa using c),yf,yb c]
    have hq:ps[i]?=some ps[i]:=yb c
    have:=firstPlace_some (r:=rows.getD i []) (R.lt _ (AF c)) (by rw[R.one i _ hq];decide) (fun q' hq'=>R.lead i _ q' hq hq')
    rw[eg]at this
    show some (firstPlace rows[i] m)=some (some ps[i])
    rw[this]
   ·rw[yF (by simp;omega),List.getElem?_replicate,if_pos (by simp;omega)]
    have:=firstPlace_none (r:=rows.getD i []) (m:=m) (fun q hq=>R.rest i q (by omega) hq)
    rw[eg]at this
    show some (firstPlace rows[i] m)=some none
    rw[this]
  ·rw[yo (by omega),yo (by simp;omega)]
   rfl
 unfold leadPlaces
 rw[this,List.filterMap_append]
 have a1:∀ l:List Nat,(l.map some).filterMap id=l:=fun l=>by
  rw[List.filterMap_map];simp
 have a2:∀ n,(List.replicate n (none:Option Nat)).filterMap id=[]:=fun n=>by
  induction n with
  | zero=>rfl
  | succ n ih=>rw[zO];exact ih
 rw[a1,a2,zp]
def joined (t:List (List Int)):List (List Int):=List.zipWith (fun r o=>r++o) t (ones t.length)
theorem onesRow_length (n i:Nat):(onesRow n i).length=n:=by simp[onesRow]
theorem qg {p:Int}(hp:1<p)(n i:Nat):FitR p (onesRow n i):=by
 intro x hx
 obtain⟨j,_,rfl⟩:=yw.mp hx
 split <;> omega
theorem joined_at (t:List (List Int))(i:Nat)(hi:i<t.length):(joined t)[i]?=some (t[i]++onesRow t.length i):=by
 unfold joined ones
 rw[List.getElem?_zipWith,yb hi,yf,zi hi]
 rfl
theorem joined_length (t:List (List Int)):(joined t).length=t.length:=by simp[joined,ones]
theorem lX {t:List (List Int)}{r:List Int} (h:r∈joined t):∃ i,∃ (hi:i<t.length),r=t[i]++onesRow t.length i:=by
 obtain⟨i,hi,rfl⟩:=Ah h
 have hi':i<t.length:=by rw[joined_length]at hi;exact hi
 refine⟨i,hi',?_⟩
 have:=joined_at t i hi'
 rw[yb hi]at this
 exact Option.some.inj this
theorem joined_sh {p:Int}{m:Nat}{t:List (List Int)} (hp:1<p) (S:Sh p m t):Sh p (m+t.length) (joined t):=by
 refine⟨fun r hr=>?_,fun r hr=>?_⟩
 ·obtain⟨i,hi,rfl⟩:=lX hr
  rw[yu,onesRow_length,S.wid _ (AF hi)]
 ·obtain⟨i,hi,rfl⟩:=lX hr
  intro x hx
  rcases yE.mp hx with h|h
  ·exact S.fit _ (AF hi) x h
  ·exact qg hp _ _ x h
def setAll (p:Int)(u:Nat):List (List Int×Nat)->List Int->List Int
 | [],v=>v
 | (r,q)::rest,v=>setAll p u rest (v.set q ((0 - e r u) % p))
theorem setAll_length (p:Int)(u:Nat):∀ (l:List (List Int×Nat))(v:List Int),(setAll p u l v).length=v.length
 | [],v=>rfl
 | (r,q)::rest,v=>by show (setAll p u rest _).length=_;rw[setAll_length p u rest,List.length_set]
def noughtRow (p:Int)(rows:List (List Int))(ps:List Nat)(m u:Nat):List Int:=setAll p u (rows.zip ps) (onesRow m u)
end Mx
namespace My
open Classical in
noncomputable def bk (p a:Int):Int:=if h:∃ z:Int,0<=z/\z<p/\p ∣ a * z - 1 then Classical.choose h else 0
theorem bk_eq {p a z:Int}(h0:0<=z)(h1:z<p)(h:p ∣ a * z - 1):bk p a=z:=by
 have hx:∃ z:Int,0<=z/\z<p/\p ∣ a * z - 1:=⟨z,h0,h1,h⟩
 unfold bk
 rw[dif_pos hx]
 obtain⟨y0,y1,y2⟩:=Classical.choose_spec hx
 generalize Classical.choose hx=y at *
 have d:p ∣ y - z:=by
  obtain⟨k,hk⟩:=h
  obtain⟨j,hj⟩:=y2
  refine⟨z * j - y * k,?_⟩
  have e1:a * z=p * k+1:=by omega
  have e2:a * y=p * j+1:=by omega
  have e3:y * (a * z)=z * (a * y):=by
   rw[<- zw,<- zw,Ac y a,Ac z a,zw,zw,Ac y z]
  rw[e1,e2,Int.mul_add,Int.mul_add,Int.mul_one,Int.mul_one]at e3
  rw[Int.mul_sub]
  have e4:p * (z * j)=z * (p * j):=by rw[<- zw,Ac p z,zw]
  have e5:p * (y * k)=y * (p * k):=by rw[<- zw,Ac p y,zw]
  omega
 have e:y % p=z % p:=AG.mpr (Int.emod_eq_zero_of_dvd d)
 rwa [zL y0 y1,zL h0 h1]at e
theorem inv_dvd {p a m:Int}(h:Inv p a 1 m):p ∣ a * m - 1:=by
 have:=Int.dvd_of_emod_eq_zero h.eq
 rwa [Ac m a]at this
theorem iI {p a:Int}(hP:isP p=true)(hp:2<=p):∀ (n:Nat)(r m:Int),r.toNat<=n->0<r->r<p->Inv p a r m->∃ z:Int,0<=z/\z<p/\p ∣ a * z - 1
 | 0,r,m,h,h0,_,_=>by omega
 | n+1,r,m,h,h0,h1,I=>by
  by_cases c:r=1
  ·subst c
   exact⟨m,I.lo,I.hi,inv_dvd I⟩
  ·have l:=tJ hP h0 c h1
   exact iI hP hp n _ _ (by omega) l.1 (by omega) (tI I hp h0)
theorem bk_is {p:Int}(hP:isP p=true):Mx.Bk p (bk p):=by
 intro a h0 h1
 have hp:2<=p:=((isP_iff p).mp hP).1
 have hf:Int.fmod a p=a:=by rw[yZ _ (by omega)];exact zL (by omega) h1
 obtain⟨z,z0,z1,z2⟩:=iI hP hp a.toNat a 1 (yi _) h0 h1 (bk_start hp hf)
 rw[bk_eq z0 z1 z2]
 exact z2
theorem bk_turn' {p a r m:Int}(h:Inv p a r m)(hp:2<=p)(hr:0<r):Inv p a (p % r) (m * (0 - p / r) % p):=by
 have:=tI h hp hr
 rwa [yZ _ (by omega),yZ _ (by omega),Int.fdiv_eq_ediv_of_nonneg _ (by omega)]at this
theorem bk_less' {p r:Int}(hp:isP p=true)(h1:0<r)(h2:r≠1)(h3:r<p):0<p % r/\p % r<r:=by
 have:=tJ hp h1 h2 h3
 rwa [yZ _ (by omega)]at this
theorem bk_in {p a:Int}(hP:isP p=true)(h0:0<a)(h1:a<p):0<=bk p a/\bk p a<p:=by
 have hp:2<=p:=((isP_iff p).mp hP).1
 have hf:Int.fmod a p=a:=by rw[yZ _ (by omega)];exact zL (by omega) h1
 obtain⟨z,z0,z1,z2⟩:=iI hP hp a.toNat a 1 (yi _) h0 h1 (bk_start hp hf)
 rw[bk_eq z0 z1 z2]
 exact⟨z0,z1⟩
end My
namespace Mw
theorem flat_perm {α β:Type}[DecidableEq β](g:α->β):∀ (xs:List β)(ts:List α),xs.Nodup->(∀ t∈ts,g t∈xs)->(xs.flatMap fun x=>ts.filter fun t=>decide (g t=x)).Perm ts
 | [],ts,_,h=>by
  cases ts with
  | nil=>exact .nil
  | cons t _=>exact absurd (h t (by simp)) (by simp)
 | x::xs,ts,nd,h=>by
  have nd:=zt.mp nd
  rw[Bs]
  have e:(xs.flatMap fun y=>ts.filter fun t=>decide (g t=y))=xs.flatMap fun y=>(ts.filter fun t=>!decide (g t=x)).filter fun t=>decide (g t=y):=by
   rw[List.flatMap_def,List.flatMap_def]
   congr 1
   refine zn fun y hy=>?_
   rw[List.filter_filter]
   refine List.filter_congr fun t _=>?_
   by_cases c:g t=y
   ·have:¬ g t=x:=fun z=>nd.1 (by rw[<- z,c];exact hy)
    simp[c,this]
    intro z;exact this (c.trans z)
   ·simp[c]
  rw[e]
  have ih:=flat_perm g xs (ts.filter fun t=>!decide (g t=x)) nd.2 fun t ht=>by
   obtain⟨h1,h2⟩:=zo.mp ht
   have h3:=h t h1
   rcases yB.mp h3 with z|z
   ·simp[z]at h2
   ·exact z
  exact (List.Perm.append_left _ ih).trans (List.filter_append_perm _ _)
theorem sub_full {β:Type}[DecidableEq β]:∀ (l1 l2:List β),l1.Nodup->(∀ x∈l1,x∈l2)->l2.length<=l1.length->∀ x∈l2,x∈l1
 | [],l2,_,_,hl,x,hx=>by
  cases l2 with
  | nil=>exact hx
  | cons _ _=>simp at hl
 | a::l1,l2,nd,sub,hl,x,hx=>by
  have nd:=zt.mp nd
  have ha:=sub a (by simp)
  by_cases c:x=a
  ·rw[c];simp
  ·refine yX _ (sub_full l1 (l2.erase a) nd.2 (fun y hy=>?_) ?_ x ?_)
   ·have ne:y≠a:=fun z=>nd.1 (z▸hy)
    exact (List.mem_erase_of_ne ne).mpr (sub y (by simp[hy]))
   ·rw[List.length_erase_of_mem ha]
    simp at hl
    omega
   ·exact (List.mem_erase_of_ne c).mpr hx
end Mw
namespace K52
open PySem L2
open PyProof.Rows (boot_list boot_int boot_bool boot_tuple boot_str boot_dict boot_all)
def top (i:Nat):Stmt:=PySem.Challenge.pw_mixposts_k52_judged_and_refused.main.body.getD i (.Pass ⟨0,0,0,0⟩)
inductive Kd where
  | house | listener | post
deriving DecidableEq
structure Cl where
  net : Addr
  post : Addr
  house : Addr
  lstn : Addr
def Cl.of (c:Cl):Kd->Addr
 | .house=>c.house
 | .listener=>c.lstn
 | .post=>c.post
structure Cl.Ok (K : PySem.W.Frag) (c : Cl) : Prop where
  cn : Cls K c.net
  cp : Cls K c.post
  ch : Cls K c.house
  cl : Cls K c.lstn
  fp : NoAttr K c.net "kept_posts"
  ft : NoAttr K c.net "kept_ties"
  fn : NoAttr K c.net "next_number"
  np : NoAttr K c.post "name"
  nh : NoAttr K c.house "name"
  nl : NoAttr K c.lstn "name"
  ph : c.post ≠ c.house
  pl : c.post ≠ c.lstn
  hl : c.house ≠ c.lstn
def jQ (c:Cl)(C:Addr):Prop:=∃ k,C=c.of k
theorem Cl.Ok.cls {K:PySem.W.Frag}{c:Cl} (o:Cl.Ok K c):∀ k,Cls K (c.of k)
 | .house=>o.ch
 | .listener=>o.cl
 | .post=>o.cp
theorem Cl.Ok.nam {K:PySem.W.Frag}{c:Cl} (o:Cl.Ok K c):∀ k,NoAttr K (c.of k) "name"
 | .house=>o.nh
 | .listener=>o.nl
 | .post=>o.np
abbrev Tie:=Int×Str×Str×Int
structure NS where
  posts : List (Str × Kd)
  ties : List Tie
  next : Int
def PostAt (c:Cl)(H:Hp)(v:V)(p:Str×Kd):Prop:=∃ a dx,v=.ref a/\H a=some (.ins (c.of p.2) dx [("name",.str p.1)])
def TieAt (H:Hp)(v:V)(t:Tie):Prop:=∃ a,v=.ref a/\H a=some (.tup [.int t.1,.str t.2.1,.str t.2.2.1,.int t.2.2.2])
structure NetAt (c : Cl) (H : Hp) (n dp dt : Addr) (S : NS) : Prop where
  ins : ∃ dx, H n = some (.ins c.net dx [("kept_posts", .ref dp), ("kept_ties", .ref dt), ("next_number", .int S.next)])
  posts : ∃ kvs, H dp = some (.dK kvs) /\ Paired (fun (kv : Key × V) p => kv.1 = Sum.inr p.1 /\ PostAt c H kv.2 p) kvs S.posts
  ties : ∃ kvs, H dt = some (.dK kvs) /\ Paired (fun (kv : Key × V) (t : Tie) => kv.1 = Sum.inl t.1 /\ TieAt H kv.2 t) kvs S.ties
  ne : dp ≠ dt
theorem PostAt.mono {c:Cl}{H H':Hp}{v:V}{p:Str×Kd} (e:Same H H') (h:PostAt c H v p):PostAt c H' v p:=let ⟨a,dx,q1,q2⟩:=h;⟨a,dx,q1,e _ _ q2⟩
theorem TieAt.mono {H H':Hp}{v:V}{t:Tie} (e:Same H H') (h:TieAt H v t):TieAt H' v t:=let ⟨a,q1,q2⟩:=h;⟨a,q1,e _ _ q2⟩
theorem NetAt.mono {c:Cl}{H H':Hp}{n dp dt:Addr}{S:NS} (e:Same H H') (h:NetAt c H n dp dt S):NetAt c H' n dp dt S:=by
 obtain⟨⟨dx,h1⟩,⟨kp,h2,p2⟩,⟨kt,h3,p3⟩,h4⟩:=h
 exact⟨⟨dx,e _ _ h1⟩,⟨kp,e _ _ h2,Paired.mapP p2 fun _ _ ⟨a,b⟩=>⟨a,b.mono e⟩⟩,⟨kt,e _ _ h3,Paired.mapP p3 fun _ _ ⟨a,b⟩=>⟨a,b.mono e⟩⟩,h4⟩
def LET:Str:="abcdefghijklmnopqrstuvwxyz"
def t4 (x:Str):Bool:=!(Builtin.Str.occurrences LET x 0 LET.length 1).isEmpty
def cL (x:Str):Bool:=decide (1<=x.length)&&decide (x.length<=8)&&(List.range x.cps.size).all fun i=>t4 (sgn x i)
structure TxtL (mg : Str -> Option Value) : Prop where
  n_len : mg "len" = none
  n_isinstance : mg "isinstance" = none
  n_str : mg "str" = none
  n_all : mg "all" = none
  n_list : mg "list" = none
structure TxtG (mg : Str -> Option Value) : Prop where
  let_ : ∃ t, mg "LETTERS" = some (.str LET t)
  lon : ∃ t, mg "LONGEST_NAME" = some (.int 8 t)
  mop : ∃ t, mg "MOST_POSTS" = some (.int 20 t)
  mol : ∃ t, mg "MOST_LISTENERS" = some (.int 8 t)
structure TxtK (K : PySem.W.Frag) : Prop where
  ss : PySem.W.kitOne K (.type "str") (.type "str") = some true
theorem uI {js:List Nat}{te:TE}{σ:St}{H:Hp}{F:Addr->Hp->Prop}{x:Str} (g:Nat->V) (hz:x.cps.size<=1000)
  (hs:∀ i H2,i<x.cps.size->Same H H2->te (some (.str (sgn x i))::bz σ js) H2 fun v H5=>v=g i/\Same H2 H5)
  (hd:∀ l H',H l=none->Same H H'->H' l=some (.lst ((List.range x.cps.size).map g))->F l H'):bi 1 js (bd 0) fU te σ F (Its x) H:=by
 intro l hl0
 refine⟨fun i m σ' H2=>m=x.cps.size - i/\i<=x.cps.size/\(∃ o,σ'=o::bz σ js)/\Same H H2/\H2 l=some (.lst ((List.range i).map g)),⟨x.cps.size,by simp,yP _,⟨none,rfl⟩,az (Same.refl _) hl0,a9⟩,?_⟩
 rintro i m σ' H2 ⟨rfl,hi,⟨o,rfl⟩,e,hl⟩
 by_cases hlt:i<x.cps.size
 ·refine .inr ⟨hlt,fun v H3 y=>?_⟩
  obtain⟨rfl,rfl⟩:=y
  refine⟨fun _=>False,fun v H5=>v=g i/\Same H3 H5,fun H4 p4=>p4.elim,fun v H5 ⟨ev,e5⟩=>?_,hs i H3 hlt e⟩
  subst ev
  refine⟨_,e5 _ _ hl,by simp only[y9,zq];exact yA hlt (yM hz (by decide)),_,?_,rfl,hlt,⟨_,rfl⟩,au (e.trans e5) hl0,?_⟩
  ·omega
  ·rw[a9,At,yI];rfl
 ·have ei:i=x.cps.size:=by omega
  subst ei
  exact .inl ⟨rfl,hd l H2 hl0 e hl⟩
section
variable {P : Program}{w : World}{K : PySem.W.Frag}{mg : Str -> Option Value}{base : Heap}
def hX:Sp:=fun vs H Q _=>∃ x:Str,vs=[.str x]/\x.length<=1000/\∀ H',Same H H'->Q (.bl (cL x)) H'
abbrev jA:Stmt:=top 22
theorem sc_is_name:am ["name"] ["name"] (ag jA):=⟨rfl,rfl,rfl,by decide +kernel,rfl,by decide +kernel,by decide +kernel⟩
theorem rT {f:Addr}{fd:FuncData} (F:Fun K "is_name" "is_name" jA f fd) (T:TxtL mg) (TG:TxtG mg) (TK:TxtK K):FnOk P w K mg base CX0 1 f fd ["name"] hX:=by
 obtain⟨tl,hg_LETTERS⟩:=TG.let_
 obtain⟨tn,hg_LONGEST_NAME⟩:=TG.lon
 refine F.ok sc_is_name (fun vs H Q E h=>?_) (fun cdv A outer s H vs Q E hr h=>?_)
 ·obtain⟨x,rfl,_⟩:=h
  rfl
 ·obtain⟨x,rfl,hx,q⟩:=h
  have ND:=sc_is_name.nd
  refine⟨_,(aa (ba (gk (d6 (aA (isiK K) rfl T.n_isinstance b4 (a8 (pv 0) (a8 (kE (v:=.ty "str") rfl T.n_str boot_str rfl) ad)))))
  (ae (ar gn))
  aE)
 (ae (ar (fF (lH n8 n8 ai (aA py rfl T.n_len boot_len (a8 (pv 0) ad)) (bX (v:=.int 8) rfl hg_LONGEST_NAME ⟨_,rfl⟩)) (gl (aA (jP K rfl) rfl T.n_all boot_all (a8 (aX rfl (ak (nT:=1) (js:=[]) (N':=["sign"]) rfl rfl (by kernel_rfl)) (pi_str (pv 0))
  (fun _ _ _ _ _=>(aj (i:=0) (show List.Nodup (["sign"]:List Str) by decide +kernel) rfl (by trivial)))
  (fun _ _ _ _ _=>aM)
  (fun _ _ _ _ _=>(fE ud (pv 0) (bX (v:=.str LET) rfl hg_LETTERS ⟨_,rfl⟩) (by with_unfolding_all rfl)))) ad))))))),?_⟩
  have hxs:x.cps.size=x.length:=rfl
  refine⟨_,rfl,.str x,_,_,_,rfl,.str x,TK.ss,_,rfl,bv ?_⟩
  have qb:cL x=(decide (1<=x.length)&&decide (x.length<=8)&&((List.range x.cps.size).map fun i=>t4 (sgn x i)).all id):=by
   unfold cL
   rw[List.all_map]
   rfl
  refine⟨_,rfl,x,rfl,yM hx (by decide),?_⟩
  refine⟨_,_,rfl,rfl,_,rfl,bB (fun h1=>?_) (fun h1=>?_)⟩
  ·have h1:1<=x.length:=by have:=yr h1;omega
   refine⟨_,_,rfl,rfl,_,rfl,bB (fun h2=>?_) (fun h2=>?_)⟩
   ·have h2:x.length<=8:=by have:=yr h2;omega
    refine⟨_,rfl,x,rfl,uI (fun i=>.bl (t4 (sgn x i))) (by omega) (fun i H2 hi e=>⟨_,rfl,_,LET,rfl,rfl,rfl,Same.refl _⟩) (fun l H' hl0 e hl=>?_)⟩
    refine⟨l,(List.range x.cps.size).map fun i=>t4 (sgn x i),rfl,SqL.of (by rw[yq];exact hl),?_⟩
    have:=q H' e
    rw[qb,ye h1,ye h2]at this
    exact this
   ·have h2:¬ x.length<=8:=fun z=>h2 (ye (by omega))
    have:=q H (Same.refl _)
    rw[qb,yj h2,Bool.and_false,Am]at this
    exact this
  ·have h1:¬ 1<=x.length:=fun z=>h1 (ye (by omega))
   have:=q H (Same.refl _)
   rw[qb,yj h1,Am,Am]at this
   exact⟨_,rfl,bv this⟩
def eQ (b:V):Sp:=fun vs H Q _=>∃ v,vs=[v]/\Q b H
abbrev dg:Stmt:=aS (top 27) 3
theorem mF:am ["self"] ["self"] (ag dg):=⟨rfl,rfl,rfl,by decide +kernel,rfl,by decide +kernel,by decide +kernel⟩
theorem gW {f:Addr}{fd:FuncData} (F:Fun K "reads" "Post.reads" dg f fd):FnOk P w K mg base CX0 1 f fd ["self"] (eQ (.bl false)):=by
 refine F.ok mF (fun vs H Q E h=>?_) (fun cdv A outer s H vs Q E hr h=>?_)
 ·obtain⟨v,rfl,_⟩:=h
  rfl
 ·obtain⟨v,rfl,q⟩:=h
  exact⟨_,(ae (ar gn)),q⟩
abbrev cI:Stmt:=aS (top 29) 1
theorem iU:am ["self"] ["self"] (ag cI):=⟨rfl,rfl,rfl,by decide +kernel,rfl,by decide +kernel,by decide +kernel⟩
theorem jb {f:Addr}{fd:FuncData} (F:Fun K "reads" "Listener.reads" cI f fd):FnOk P w K mg base CX0 1 f fd ["self"] (eQ (.bl true)):=by
 refine F.ok iU (fun vs H Q E h=>?_) (fun cdv A outer s H vs Q E hr h=>?_)
 ·obtain⟨v,rfl,_⟩:=h
  rfl
 ·obtain⟨v,rfl,q⟩:=h
  exact⟨_,(ae (ar gn)),q⟩
abbrev dh:Stmt:=aS (top 27) 4
theorem mG:am ["self"] ["self"] (ag dh):=⟨rfl,rfl,rfl,by decide +kernel,rfl,by decide +kernel,by decide +kernel⟩
theorem gX {f:Addr}{fd:FuncData} (F:Fun K "hears" "Post.hears" dh f fd):FnOk P w K mg base CX0 1 f fd ["self"] (eQ (.bl true)):=by
 refine F.ok mG (fun vs H Q E h=>?_) (fun cdv A outer s H vs Q E hr h=>?_)
 ·obtain⟨v,rfl,_⟩:=h
  rfl
 ·obtain⟨v,rfl,q⟩:=h
  exact⟨_,(ae (ar gn)),q⟩
abbrev eD:Stmt:=aS (top 28) 1
theorem kU:am ["self"] ["self"] (ag eD):=⟨rfl,rfl,rfl,by decide +kernel,rfl,by decide +kernel,by decide +kernel⟩
theorem lS {f:Addr}{fd:FuncData} (F:Fun K "hears" "House.hears" eD f fd):FnOk P w K mg base CX0 1 f fd ["self"] (eQ (.bl false)):=by
 refine F.ok kU (fun vs H Q E h=>?_) (fun cdv A outer s H vs Q E hr h=>?_)
 ·obtain⟨v,rfl,_⟩:=h
  rfl
 ·obtain⟨v,rfl,q⟩:=h
  exact⟨_,(ae (ar gn)),q⟩
def rdB:Kd->Bool
 | .listener=>true
 | _=>false
def hrB:Kd->Bool
 | .house=>false
 | _=>true
def bT (c:Cl)(C:Addr):Sp:=eQ (.bl (decide (C=c.lstn)))
def bU (c:Cl)(C:Addr):Sp:=eQ (.bl (!decide (C=c.house)))
theorem gh {c:Cl}(O:Cl.Ok K c):∀ k,decide (c.of k=c.lstn)=rdB k
 | .listener=>ye rfl
 | .house=>yj O.hl
 | .post=>yj O.pl
theorem gx {c:Cl}(O:Cl.Ok K c):∀ k,(!decide (c.of k=c.house))=hrB k
 | .house=>by rw[show decide (c.of .house=c.house)=true from ye rfl];rfl
 | .listener=>by rw[show decide (c.of .listener=c.house)=false from yj O.hl.symm];rfl
 | .post=>by rw[show decide (c.of .post=c.house)=false from yj O.ph];rfl
def dv (c:Cl):Sp:=fun vs H Q _=>∃ (x:Addr)(k:Kd)(dx:Addr)(n:Str),vs=[.ref x,.str n]/\H x=some (.ins (c.of k) dx [])/\Q .non (upd H x (.ins (c.of k) dx [("name",.str n)]))
abbrev bG:Stmt:=aS (top 27) 0
theorem jv:am ["self","name"] ["self","name"] (ag bG):=⟨rfl,rfl,rfl,by decide +kernel,rfl,by decide +kernel,by decide +kernel⟩
theorem fG {c:Cl}{f:Addr}{fd:FuncData} (F:Fun K "__init__" "Post.__init__" bG f fd) (O:Cl.Ok K c):FnOk P w K mg base CX0 1 f fd ["self","name"] (dv c):=by
 refine F.ok jv (fun vs H Q E h=>?_) (fun cdv A outer s H vs Q E hr h=>?_)
 ·obtain⟨x,k,dx,n,rfl,_⟩:=h
  rfl
 ·obtain⟨x,k,dx,n,rfl,hx,q⟩:=h
  refine⟨_,(ae (jD (pv 0) (pv 1) rfl)),?_⟩
  exact⟨_,rfl,_,rfl,x,c.of k,dx,_,rfl,hx,O.cls k,O.nam k,by decide,q⟩
def kP (c:Cl):Sp:=fun vs H Q _=>∃ (x dx:Addr),vs=[.ref x]/\H x=some (.ins c.net dx [])/\∀ d1 d2 H',H d1=none->H d2=none->d1≠d2->(∀ a o,a≠x->H a=some o->H' a=some o)->
 H' x=some (.ins c.net dx [("kept_posts",.ref d1),("kept_ties",.ref d2),("next_number",.int 0)])->H' d1=some (.dK [])->H' d2=some (.dK [])->Q .non H'
abbrev dE:Stmt:=aS (top 30) 0
theorem ki:am ["self"] ["self"] (ag dE):=⟨rfl,rfl,rfl,by decide +kernel,rfl,by decide +kernel,by decide +kernel⟩
theorem qt {c:Cl}{f:Addr}{fd:FuncData} (F:Fun K "__init__" "Net.__init__" dE f fd) (O:Cl.Ok K c):FnOk P w K mg base CX0 1 f fd ["self"] (kP c):=by
 refine F.ok ki (fun vs H Q E h=>?_) (fun cdv A outer s H vs Q E hr h=>?_)
 ·obtain⟨x,dx,rfl,_⟩:=h
  rfl
 ·obtain⟨x,dx,rfl,hx,q⟩:=h
  refine⟨_,(aa (jD (pv 0) gm rfl)
 (aa (jD (pv 0) gm rfl)
 (ae (jD (pv 0) ai rfl)))),?_⟩
  intro d1 h1
  have n1:x≠d1:=ah hx h1
  refine⟨_,rfl,x,c.net,dx,_,rfl,by rw[af n1];exact hx,O.cn,O.fp,by decide,?_⟩
  intro d2 h2
  have n2:x≠d2:=ah (o:=.ins c.net dx [("kept_posts",.ref d1)]) a9 h2
  have n3:d1≠d2:=ah (H:=upd (upd H d1 (.dK [])) x (.ins c.net dx [("kept_posts",.ref d1)])) (o:=.dK []) (by rw[af n1.symm];exact a9) h2
  refine⟨_,rfl,x,c.net,dx,_,rfl,by rw[af n2];exact a9,O.cn,O.ft,(by show 1<1000;decide),?_⟩
  refine⟨_,rfl,x,c.net,dx,_,rfl,a9,O.cn,O.fn,(by show 2<1000;decide),?_⟩
  have h2':H d2=none:=by
   rw[af n2.symm,af n3.symm]at h2
   exact h2
  refine q d1 d2 _ h1 h2' n3 (fun a o na ha=>?_) a9 ?_ ?_
  ·rw[af na,af na,af (ah ha h2'),af na,af (ah ha h1)]
   exact ha
  ·rw[af n1.symm,af n1.symm,af n3,af n1.symm]
   exact a9
  ·rw[af n2.symm,af n2.symm]
   exact a9
end
structure Xc where
  noName : Addr
  taken : Addr
  oneHouse : Addr
  tooMany : Addr
structure xY (K : PySem.W.Frag) (mg : Str -> Option Value) (x : Xc) : Prop where
  c_NoName : mg "NoName" = some (.ref x.noName)
  x_NoName : PySem.W.excIn K x.noName bQ "ValueError.__new__" = true
  c_Taken : mg "Taken" = some (.ref x.taken)
  x_Taken : PySem.W.excIn K x.taken bQ "ValueError.__new__" = true
  c_OneHouse : mg "OneHouse" = some (.ref x.oneHouse)
  x_OneHouse : PySem.W.excIn K x.oneHouse bQ "ValueError.__new__" = true
  c_TooMany : mg "TooMany" = some (.ref x.tooMany)
  x_TooMany : PySem.W.excIn K x.tooMany bQ "ValueError.__new__" = true
def NS.names (S:NS):List Str:=S.posts.map (·.1)
section
variable {P : Program}{w : World}{K : PySem.W.Frag}{mg : Str -> Option Value}{base : Heap}
theorem iN {c:Cl}{H:Hp}{x:Str}:∀ {kvs:List (Key×V)}{ps:List (Str×Kd)},Paired (fun (kv:Key×V) p=>kv.1=Sum.inr p.1/\PostAt c H kv.2 p) kvs ps->((b7 kvs (Sum.inr x)).isSome=true ↔ x∈ps.map (·.1))
 | _,_,.nil=>by simp[b7]
 | kv::kvs,p::ps,.cons ⟨e,_⟩ r=>by
  by_cases h:p.1=x
  ·rw[cv (by rw[e,h])]
   simp[h]
  ·rw[cw (by rw[e];exact fun z=>h (Sum.inr.inj z)),iN r]
   simp[Ne.symm h]
def kQ (c:Cl)(X:Xc):Sp:=fun vs H Q E=>∃ (n dp dt:Addr)(S:NS)(x:Str),vs=[.ref n,.str x]/\NetAt c H n dp dt S/\x.length<=1000/\
 (cL x=false->∀ H',Same H H'->E (.ref X.noName) none H')/\(cL x=true->x∈S.names->∀ H',Same H H'->E (.ref X.taken) none H')/\(cL x=true->¬ x∈S.names->∀ H',Same H H'->Q .non H')
abbrev bM:Stmt:=aS (top 30) 4
theorem sc_Net_check_new_name:am ["self","name"] ["self","name"] (ag bM):=⟨rfl,rfl,rfl,by decide +kernel,rfl,by decide +kernel,by decide +kernel⟩
theorem fS {c:Cl}{X:Xc}{f:Addr}{fd:FuncData} (F:Fun K "check_new_name" "Net.check_new_name" bM f fd) (O:Cl.Ok K c) (TX:xY K mg X) (D_is_name:Df P w K mg base 1 "is_name" ["name"] hX):FnOk P w K mg base (CXE P w) 2 f fd ["self","name"] (kQ c X):=by
 refine F.okX sc_Net_check_new_name (fun vs H Q E h=>?_) (fun cdv A outer s H vs Q E hr h=>?_)
 ·obtain⟨n,dp,dt,S,x,rfl,_⟩:=h
  rfl
 ·obtain⟨n,dp,dt,S,x,rfl,N,hx,q1,q2,q3⟩:=h
  have ND:=sc_Net_check_new_name.nd
  refine⟨_,(aa (ba (gk (d6 (aq D_is_name (hr.mono (by decide)) rfl (a8 (pv 1) ad))))
  (ae (bI rfl c7 rfl TX.c_NoName TX.x_NoName))
  aE)
 (ae (ba (fD (oH (bc hr) (pv 1) (eK K (pv 0) rfl)))
  (ae (bI rfl c7 rfl TX.c_Taken TX.x_Taken))
  aE))),?_⟩
  refine⟨_,rfl,x,rfl,hx,fun H1 e1=>⟨_,rfl,?_⟩⟩
  cases hn:cL x with
  | false=>exact bA (q1 hn H1 e1)
  | true=>
   refine bv ?_
   obtain⟨dx,h1⟩:=(N.mono e1).ins
   obtain⟨kvs,hd,hp⟩:=(N.mono e1).posts
   refine⟨_,rfl,_,rfl,n,c.net,dx,_,_,rfl,h1,O.cn,O.fp,rfl,dp,_,rfl,DGet.k (k:=Sum.inr x) hd,_,rfl,?_⟩
   have hv:=iN (x:=x) hp
   cases hs:(b7 kvs (Sum.inr x)).isSome with
   | true=>exact bA (q2 hn (hv.mp hs) H1 e1)
   | false=>exact bv (q3 hn (fun z=>by rw[hv.mpr z]at hs;cases hs) H1 e1)
def NS.lis (S:NS):List Str:=(S.posts.filter fun p=>rdB p.2).map (·.1)
def de (c:Cl):Sp:=fun vs H Q _=>∃ (n dp dt:Addr)(S:NS),vs=[.ref n]/\NetAt c H n dp dt S/\S.posts.length<=1000/\∀ l H',Same H H'->H l=none->H' l=some (.lst (S.lis.map V.str))->Q (.ref l) H'
abbrev cZ:Stmt:=aS (top 30) 12
theorem jw:am ["self"] ["self"] (ag cZ):=⟨rfl,rfl,rfl,by decide +kernel,rfl,by decide +kernel,by decide +kernel⟩
theorem jG {c:Cl}{f:Addr}{fd:FuncData} (F:Fun K "listeners" "Net.listeners" cZ f fd) (O:Cl.Ok K c) (D_reads:∀ C,jQ c C->Dm P w K mg base 1 C "reads" ["self"] (bT c C)):FnOk P w K mg base CX0 2 f fd ["self"] (de c):=by
 refine F.ok jw (fun vs H Q E h=>?_) (fun cdv A outer s H vs Q E hr h=>?_)
 ·obtain⟨n,dp,dt,S,rfl,_⟩:=h
  rfl
 ·obtain⟨n,dp,dt,S,rfl,N,hz,q⟩:=h
  refine⟨_,(ae (ar (eS rfl (ak (nT:=1) (js:=[]) (N':=["post"]) rfl rfl (by kernel_rfl)) (oG (eK K (pv 0) rfl))
  (fun _ _ _ _ _=>(aj (i:=0) (show List.Nodup (["post"]:List Str) by decide +kernel) rfl (by trivial)))
  (fun _ _ _ _ _=>(dQ (d6 (gM (pv 0) D_reads (hr.mono (by decide))))))
  (fun _ _ _ _ _=>(eK K (pv 0) rfl))))),?_⟩
  obtain⟨dx,h1⟩:=N.ins
  obtain⟨kvs,hd,hp⟩:=N.posts
  have hl:=Paired.length hp
  refine⟨_,rfl,n,c.net,dx,_,_,rfl,h1,O.cn,O.fp,rfl,dp,kvs,rfl,hd,fun o M hM=>?_⟩
  rw[sv]
  refine iL (fun i=>rdB (S.posts.getD i ("",.post)).2) (fun i=>.str (S.posts.getD i ("",.post)).1) a9 (by omega) (fun i kv H2 ek e2=>?_) (fun l H' h0 e' hl'=>?_)
  ·obtain⟨p,ep,_,a,dxa,ea,ha⟩:=Paired.at hp ek
   have gd:S.posts.getD i ("",.post)=p:=by rw[yk,ep];rfl
   have ha2:H2 a=some (.ins (c.of p.2) dxa [("name",.str p.1)]):=e2 _ _ (by rw[af (bn ha hd (fun z=>nomatch z))];exact ha)
   rw[gd]
   refine⟨_,rfl,a,c.of p.2,dxa,_,ea,⟨_,rfl⟩,ha2,rfl,_,rfl,_,rfl,?_⟩
   rw[gh O]
   refine bB (fun h=>?_) (fun h=>⟨by simpa using h,Same.refl _⟩)
   exact⟨_,rfl,a,c.of p.2,dxa,_,_,ea,ha2,O.cls _,O.nam _,rfl,h,rfl,Same.refl _⟩
  ·refine⟨dp,o,kvs,hM,e' _ _ a9,q l _ (bV hd e') ?_ ?_⟩
   ·have nl:l≠dp:=fun z=>by rw[z,a9]at h0;cases h0
    rw[af nl]at h0
    exact h0
   ·have nl:l≠dp:=fun z=>by rw[z,a9]at h0;cases h0
    rw[af nl,hl',hl]
    congr 2
    rw[cJ S.posts (fun p=>rdB p.2) (fun p=>V.str p.1) _ _ fun i p ep=>by
     have gd:S.posts.getD i ("",.post)=p:=by rw[yk,ep];rfl
     rw[gd];exact⟨rfl,rfl⟩]
    unfold NS.lis
    rw[yq]
    rfl
def NS.home (S:NS):Option (Str×Kd):=S.posts.find? fun p=>!hrB p.2
def fQ:Option (Str×Kd)->V
 | none=>.non
 | some p=>.str p.1
def kC (c:Cl):Sp:=fun vs H Q _=>∃ (n dp dt:Addr)(S:NS),vs=[.ref n]/\NetAt c H n dp dt S/\Q (fQ S.home) H
abbrev iy:Stmt:=aS (top 30) 13
theorem sc_Net_home:am ["self","post"] ["self"] (ag iy):=⟨rfl,rfl,rfl,by decide +kernel,rfl,by decide +kernel,by decide +kernel⟩
theorem qu {c:Cl}{f:Addr}{fd:FuncData} (F:Fun K "home" "Net.home" iy f fd) (O:Cl.Ok K c) (D_hears:∀ C,jQ c C->Dm P w K mg base 1 C "hears" ["self"] (bU c C)):FnOk P w K mg base CX0 2 f fd ["self"] (kC c):=by
 refine F.ok sc_Net_home (fun vs H Q E h=>?_) (fun cdv A outer s H vs Q E hr h=>?_)
 ·obtain⟨n,dp,dt,S,rfl,_⟩:=h
  rfl
 ·obtain⟨n,dp,dt,S,rfl,N,q⟩:=h
  have ND:=sc_Net_home.nd
  refine⟨_,(aa (oF yV rfl (oG (eK K (pv 0) rfl)) (aj (i:=1) ND rfl (by trivial))
  (ae (ba (gk (d6 (gM (pv 1) D_hears (hr.mono (by decide)))))
  (ae (ar (eK K (pv 1) rfl)))
  aE)))
 (ae (ar bD))),?_⟩
  obtain⟨dx,h1⟩:=N.ins
  obtain⟨kvs,hd,hp⟩:=N.posts
  have hl:=Paired.length hp
  refine⟨_,rfl,n,c.net,dx,_,_,rfl,h1,O.cn,O.fp,rfl,dp,kvs,rfl,hd,fun o M hM=>?_⟩
  rw[sv]
  refine md (kvs:=kvs) (fun i σ H2=>∃ ov,σ=[some (.ref n),ov]/\H2=upd H dp (.frz o (.dK kvs))/\∀ p∈S.posts.take i,hrB p.2=true) ⟨none,rfl,rfl,by simp⟩ (fun i σ H2 _ ⟨_,_,e,_⟩=>by rw[e];exact a9) (fun i kv σ H2 ek ⟨ov,es,e,hh⟩=>?_) (fun σ H2 ⟨ov,es,e,hh⟩=>?_)
  ·subst es e
   obtain⟨p,ep,_,a,dxa,ea,ha⟩:=Paired.at hp ek
   have ha2:upd H dp (.frz o (.dK kvs)) a=some (.ins (c.of p.2) dxa [("name",.str p.1)]):=by rw[af (bn ha hd (fun z=>nomatch z))];exact ha
   refine⟨_,rfl,a,c.of p.2,dxa,_,ea,⟨_,rfl⟩,ha2,rfl,_,rfl,_,rfl,?_⟩
   rw[gx O]
   cases hb:hrB p.2 with
   | false=>
    refine bA ⟨_,rfl,a,c.of p.2,dxa,_,_,ea,ha2,O.cls _,O.nam _,rfl,dp,o,kvs,hM,a9,?_⟩
    have:S.home=some p:=by
     unfold NS.home
     rw[Ak]
     obtain⟨hi,e2⟩:=yd.mp ep
     refine⟨by rw[hb];rfl,i,hi,e2,fun j hj=>?_⟩
     rw[hh _ (zD.mpr ⟨j,by omega,rfl⟩)]
     rfl
    rw[this]at q
    rw[mT hd]
    exact q
   | true=>
    refine bv ⟨_,rfl,rfl,fun p' hp'=>?_⟩
    rw[za,ep]at hp'
    rcases yE.mp hp' with z|z
    ·exact hh p' z
    ·have:p'=p:=by simpa using z
     rw[this];exact hb
  ·subst es e
   refine⟨dp,o,kvs,hM,a9,?_⟩
   have:S.home=none:=by
    unfold NS.home
    rw[zc]
    intro p hpm
    rw[hl,zh]at hh
    rw[hh p hpm]
    simp
   rw[this]at q
   rw[mT hd]
   exact q
end
def But (d:Addr)(H H':Hp):Prop:=∀ a o,a≠d->H a=some o->H' a=some o
theorem But.of {d:Addr}{H H':Hp} (e:Same H H'):But d H H':=fun a o _ h=>e a o h
theorem But.trans {d:Addr}{H H1 H2:Hp} (a:But d H H1) (b:But d H1 H2):But d H H2:=fun c o n h=>b c o n (a c o n h)
def NS.put (S:NS)(x:Str)(k:Kd):NS:={ S with posts:=S.posts++[(x,k)] }
theorem NetAt.put {c:Cl}{H H':Hp}{n dp dt a:Addr}{S:NS}{p:Str×Kd}{kvs:List (Key×V)} (N:NetAt c H n dp dt S) (hd:H dp=some (.dK kvs)) (hp:Paired (fun (kv:Key×V) p=>kv.1=Sum.inr p.1/\PostAt c H kv.2 p) kvs S.posts) (pa:PostAt c H (.ref a) p) (e:But dp H H')
  (hd':H' dp=some (.dK (kvs++[(Sum.inr p.1,.ref a)]))):NetAt c H' n dp dt (S.put p.1 p.2):=by
 obtain⟨⟨dx,h1⟩,_,⟨kt,h3,p3⟩,h4⟩:=N
 have keepP:∀ {v:V}{q:Str×Kd},PostAt c H v q->PostAt c H' v q:=fun⟨b,dxb,eb,hb⟩=>⟨b,dxb,eb,e _ _ (bn hb hd (fun z=>nomatch z)) hb⟩
 have keepT:∀ {v:V}{t:Tie},TieAt H v t->TieAt H' v t:=fun⟨b,eb,hb⟩=>⟨b,eb,e _ _ (bn hb hd (fun z=>nomatch z)) hb⟩
 exact⟨⟨dx,e _ _ (bn h1 hd (fun z=>nomatch z)) h1⟩,⟨_,hd',Paired.snoc' (Paired.mapP hp fun _ _ ⟨x,y⟩=>⟨x,keepP y⟩) ⟨rfl,keepP pa⟩⟩,⟨kt,e _ _ (Ne.symm h4) h3,Paired.mapP p3 fun _ _ ⟨x,y⟩=>⟨x,keepT y⟩⟩,h4⟩
section
variable {P : Program}{w : World}{K : PySem.W.Frag}{mg : Str -> Option Value}{base : Heap}
def ma (S:NS)(k:Kd):Bool:=decide (20<=S.posts.length) || (rdB k&&decide (8<=S.lis.length))
def dk (c:Cl)(X:Xc):Sp:=fun vs H Q E=>∃ (n dp dt a:Addr)(S:NS)(p:Str×Kd),vs=[.ref n,.ref a]/\NetAt c H n dp dt S/\PostAt c H (.ref a) p/\¬ p.1∈S.names/\S.posts.length<=1000/\
 (ma S p.2=true->∀ H',Same H H'->E (.ref X.tooMany) none H')/\(ma S p.2=false->∀ H',But dp H H'->NetAt c H' n dp dt (S.put p.1 p.2)->Q .non H')
abbrev fz:Stmt:=aS (top 30) 5
theorem sc_Net_put_in:am ["self","post"] ["self","post"] (ag fz):=⟨rfl,rfl,rfl,by decide +kernel,rfl,by decide +kernel,by decide +kernel⟩
theorem mM {c:Cl}{X:Xc}{f:Addr}{fd:FuncData} (F:Fun K "put_in" "Net.put_in" fz f fd) (O:Cl.Ok K c) (T:TxtL mg) (TG:TxtG mg) (TX:xY K mg X) (D_reads:∀ C,jQ c C->Dm P w K mg base 1 C "reads" ["self"] (bT c C))
  (D_Net_listeners:Dm P w K mg base 2 c.net "listeners" ["self"] (de c)):FnOk P w K mg base (CXE P w) 3 f fd ["self","post"] (dk c X):=by
 obtain⟨tl,hg_MOST_POSTS⟩:=TG.mop
 obtain⟨tn,hg_MOST_LISTENERS⟩:=TG.mol
 refine F.okX sc_Net_put_in (fun vs H Q E h=>?_) (fun cdv A outer s H vs Q E hr h=>?_)
 ·obtain⟨n,dp,dt,a,S,p,rfl,_⟩:=h
  rfl
 ·obtain⟨n,dp,dt,a,S,p,rfl,N,pa,hnew,hz,q1,q2⟩:=h
  have ND:=sc_Net_put_in.nd
  obtain⟨dx,h1⟩:=id N.ins
  obtain⟨kvs,hd,hp⟩:=id N.posts
  obtain⟨a',dxa,ea,ha⟩:=id pa
  cases ea
  have hl:=Paired.length hp
  refine⟨_,(aa (ba (aw t0 (aA gA rfl T.n_len boot_len (a8 (eK K (pv 0) rfl) ad)) (bX (v:=.int 20) rfl hg_MOST_POSTS ⟨_,rfl⟩) (aD _))
  (ae (bI rfl c7 rfl TX.c_TooMany TX.x_TooMany))
  aE)
 (aa (ba (PW.pt (iC (d6 (gM (pv 1) D_reads (hr.mono (by decide)))) (fC (aw t0 (aA (gU K) rfl T.n_len boot_len (a8 (bW (pv 0) D_Net_listeners (hr.mono (by decide))) ad)) (bX (v:=.int 8) rfl hg_MOST_LISTENERS ⟨_,rfl⟩) (aD _)))))
  (ae (bI rfl c7 rfl TX.c_TooMany TX.x_TooMany))
  aE)
 (ae (cO (bc hr) (eK K (pv 0) rfl) (eK K (pv 1) rfl) (pv 1) rfl)))),?_⟩
  have store:∀ H1,Same H H1->ma S p.2=false->∃ a_1 H4,V.ref dp=V.ref a_1/\DPut H1 a_1 (.str p.1) (.ref a) H4/\Q .non H4:=fun H1 e1 hf=>by
   have hv:b7 kvs (Sum.inr p.1)=none:=by
    cases hs:b7 kvs (Sum.inr p.1) with
    | none=>rfl
    | some v=>exact absurd ((iN (x:=p.1) hp).mp (by rw[hs];rfl)) hnew
   refine⟨dp,_,rfl,DPut.k (k:=Sum.inr p.1) (e1 _ _ hd) (by show kvs.length<2 ^ 24;omega),?_⟩
   have b1:But dp H (upd H1 dp (.dK (cT kvs (Sum.inr p.1) (.ref a)))):=fun b o nb hb=>by rw[af nb];exact e1 _ _ hb
   exact q2 hf _ b1 (N.put hd hp pa b1 (by rw[a9,dF _ hv]))
  refine⟨_,rfl,n,c.net,dx,_,_,rfl,h1,O.cn,O.fp,rfl,dp,kvs,rfl,hd,_,_,rfl,rfl,_,rfl,bB (fun g1=>?_) (fun g1=>?_)⟩
  ·have g1:20<=S.posts.length:=by have:=yr g1;omega
   exact q1 (by unfold ma;rw[ye g1];rfl) H (Same.refl _)
  ·have g1:¬ 20<=S.posts.length:=fun z=>g1 (ye (by omega))
   refine⟨_,rfl,a,c.of p.2,dxa,_,rfl,⟨_,rfl⟩,ha,rfl,_,rfl,_,rfl,?_⟩
   rw[gh O]
   cases hb:rdB p.2 with
   | false=>
    refine bv (bv ?_)
    refine⟨_,rfl,_,rfl,n,c.net,dx,_,_,rfl,h1,O.cn,O.fp,rfl,_,rfl,a,c.of p.2,dxa,_,_,rfl,ha,O.cls _,O.nam _,rfl,?_⟩
    exact store H (Same.refl _) (by unfold ma;rw[yj g1,hb];rfl)
   | true=>
    refine bA ⟨_,rfl,n,dx,_,rfl,h1,rfl,n,dp,dt,S,rfl,N,hz,fun l H1 e1 h0 hl1=>?_⟩
    refine⟨l,_,rfl,.inl (SqL.of hl1),_,_,rfl,rfl,_,rfl,bB (fun g2=>?_) (fun g2=>?_)⟩
    ·have g2:8<=S.lis.length:=by have:=yr g2;rw[y9]at this;omega
     exact q1 (by unfold ma;rw[hb,ye g2,Bool.and_self,Bool.or_true]) H1 e1
    ·have g2:¬ 8<=S.lis.length:=fun z=>g2 (ye (by rw[y9];omega))
     refine⟨_,rfl,_,rfl,n,c.net,dx,_,_,rfl,e1 _ _ h1,O.cn,O.fp,rfl,_,rfl,a,c.of p.2,dxa,_,_,rfl,e1 _ _ ha,O.cls _,O.nam _,rfl,?_⟩
     exact store H1 e1 (by unfold ma;rw[yj g1,yj g2,Bool.and_false];rfl)
def due (X:Xc)(S:NS)(x:Str)(k:Kd):Option Addr:=
 if cL x=false then some X.noName else if x∈S.names then some X.taken else if hrB k=false/\S.home.isSome=true then some X.oneHouse else if ma S k=true then some X.tooMany else none
def fk (c:Cl)(X:Xc)(k:Kd):Sp:=fun vs H Q E=>∃ (n dp dt:Addr)(S:NS)(x:Str),vs=[.ref n,.str x]/\NetAt c H n dp dt S/\x.length<=1000/\S.posts.length<=1000/\
 (∀ r,due X S x k=some r->∀ H',Same H H'->E (.ref r) none H')/\(due X S x k=none->∀ H',But dp H H'->NetAt c H' n dp dt (S.put x k)->Q .non H')
theorem made {c:Cl}{X:Xc}{H:Hp}{n dp dt:Addr}{S:NS}{x:Str}{k:Kd}{Q:VK}{E:XK} (N:NetAt c H n dp dt S) (hz:S.posts.length<=1000) (hi:cL x=true) (hx:¬ x∈S.names) (hh:¬ (hrB k=false/\S.home.isSome=true))
  (q1:∀ r,due X S x k=some r->∀ H',Same H H'->E (.ref r) none H') (q2:due X S x k=none->∀ H',But dp H H'->NetAt c H' n dp dt (S.put x k)->Q .non H') (y dy:Addr) (ny:H y=none) (ndy:H dy=none) (ne:dy≠y):
  dk c X [.ref n,.ref y] (upd (upd (upd H dy (.own y)) y (.ins (c.of k) dy [])) y (.ins (c.of k) dy [("name",.str x)])) Q E:=by
 have e1:Same H (upd (upd (upd H dy (.own y)) y (.ins (c.of k) dy [])) y (.ins (c.of k) dy [("name",.str x)])):=au (au (az (Same.refl _) ndy) ny) ny
 have du:due X S x k=if ma S k=true then some X.tooMany else none:=by
  unfold due
  rw[if_neg (by rw[hi];exact fun z=>nomatch z),if_neg hx,if_neg hh]
 refine⟨n,dp,dt,y,S,(x,k),rfl,N.mono e1,⟨y,dy,rfl,a9⟩,hx,hz,fun hf H' e'=>q1 _ (by rw[du,if_pos hf]) H' (e1.trans e'),fun hf H' b' N'=>q2 (by rw[du,if_neg (by rw[hf];exact fun z=>nomatch z)]) H' ((But.of e1).trans b') N'⟩
abbrev iu:Stmt:=aS (top 30) 2
theorem pR:am ["self","name"] ["self","name"] (ag iu):=⟨rfl,rfl,rfl,by decide +kernel,rfl,by decide +kernel,by decide +kernel⟩
theorem qp {c:Cl}{X:Xc}{f:Addr}{fd:FuncData} (F:Fun K "post" "Net.post" iu f fd) (O:Cl.Ok K c) (D_Net_check_new_name:DmX P w K mg base 2 c.net "check_new_name" ["self","name"] (kQ c X)) (D_Net_put_in:DmX P w K mg base 3 c.net "put_in" ["self","post"] (dk c X))
  (D_Post:Dk P w K mg base 1 "Post" c.post ["self","name"] (dv c)):FnOk P w K mg base (CXE P w) 4 f fd ["self","name"] (fk c X .post):=by
 refine F.okX pR (fun vs H Q E h=>?_) (fun cdv A outer s H vs Q E hr h=>?_)
 ·obtain⟨n,dp,dt,S,x,rfl,_⟩:=h
  rfl
 ·obtain⟨n,dp,dt,S,x,rfl,N,hx,hz,q1,q2⟩:=h
  obtain⟨dx,h1⟩:=id N.ins
  refine⟨_,(aa (aU (bO dI (pv 0) D_Net_check_new_name (hr.mono (by decide)) (a8 (pv 1) ad)))
 (ae (aU (bO dI (pv 0) D_Net_put_in (hr.mono (by decide)) (a8 (lE D_Post (hr.mono (by decide)) rfl (a8 (pv 1) ad)) ad))))),?_⟩
  refine⟨_,rfl,n,dx,_,rfl,h1,rfl,_,rfl,n,dp,dt,S,x,rfl,N,hx,fun hi H' e=>q1 _ (by unfold due;rw[if_pos hi]) H' e,fun hi ht H' e=>q1 _ (by unfold due;rw[if_neg (by rw[hi];exact fun z=>nomatch z),if_pos ht]) H' e,fun hi ht H1 e1=>?_⟩
  refine⟨_,rfl,n,dx,_,rfl,e1 _ _ h1,rfl,_,rfl,fun y dy ny ndy ne=>⟨y,.post,dy,x,rfl,a9,rfl,?_⟩⟩
  exact made (N.mono e1) hz hi ht (fun z=>absurd z.1 (by decide)) (fun r hr' H' e'=>q1 r hr' H' (e1.trans e')) (fun hn H' b' N'=>q2 hn H' ((But.of e1).trans b') N') y dy ny ndy ne
abbrev dD:Stmt:=aS (top 30) 3
theorem kh:am ["self","name"] ["self","name"] (ag dD):=⟨rfl,rfl,rfl,by decide +kernel,rfl,by decide +kernel,by decide +kernel⟩
theorem kq {c:Cl}{X:Xc}{f:Addr}{fd:FuncData} (F:Fun K "listener" "Net.listener" dD f fd) (O:Cl.Ok K c) (D_Net_check_new_name:DmX P w K mg base 2 c.net "check_new_name" ["self","name"] (kQ c X)) (D_Net_put_in:DmX P w K mg base 3 c.net "put_in" ["self","post"] (dk c X))
  (D_Listener:Dk P w K mg base 1 "Listener" c.lstn ["self","name"] (dv c)):FnOk P w K mg base (CXE P w) 4 f fd ["self","name"] (fk c X .listener):=by
 refine F.okX kh (fun vs H Q E h=>?_) (fun cdv A outer s H vs Q E hr h=>?_)
 ·obtain⟨n,dp,dt,S,x,rfl,_⟩:=h
  rfl
 ·obtain⟨n,dp,dt,S,x,rfl,N,hx,hz,q1,q2⟩:=h
  obtain⟨dx,h1⟩:=id N.ins
  refine⟨_,(aa (aU (bO dI (pv 0) D_Net_check_new_name (hr.mono (by decide)) (a8 (pv 1) ad)))
 (ae (aU (bO dI (pv 0) D_Net_put_in (hr.mono (by decide)) (a8 (lE D_Listener (hr.mono (by decide)) rfl (a8 (pv 1) ad)) ad))))),?_⟩
  refine⟨_,rfl,n,dx,_,rfl,h1,rfl,_,rfl,n,dp,dt,S,x,rfl,N,hx,fun hi H' e=>q1 _ (by unfold due;rw[if_pos hi]) H' e,fun hi ht H' e=>q1 _ (by unfold due;rw[if_neg (by rw[hi];exact fun z=>nomatch z),if_pos ht]) H' e,fun hi ht H1 e1=>?_⟩
  refine⟨_,rfl,n,dx,_,rfl,e1 _ _ h1,rfl,_,rfl,fun y dy ny ndy ne=>⟨y,.listener,dy,x,rfl,a9,rfl,?_⟩⟩
  exact made (N.mono e1) hz hi ht (fun z=>absurd z.1 (by decide)) (fun r hr' H' e'=>q1 r hr' H' (e1.trans e')) (fun hn H' b' N'=>q2 hn H' ((But.of e1).trans b') N') y dy ny ndy ne
abbrev gf:Stmt:=aS (top 30) 1
theorem ow:am ["self","name"] ["self","name"] (ag gf):=⟨rfl,rfl,rfl,by decide +kernel,rfl,by decide +kernel,by decide +kernel⟩
theorem oU {c:Cl}{X:Xc}{f:Addr}{fd:FuncData} (F:Fun K "house" "Net.house" gf f fd) (O:Cl.Ok K c) (TX:xY K mg X) (D_Net_check_new_name:DmX P w K mg base 2 c.net "check_new_name" ["self","name"] (kQ c X)) (D_Net_put_in:DmX P w K mg base 3 c.net "put_in" ["self","post"] (dk c X))
  (D_Net_home:Dm P w K mg base 2 c.net "home" ["self"] (kC c)) (D_House:Dk P w K mg base 1 "House" c.house ["self","name"] (dv c)):FnOk P w K mg base (CXE P w) 4 f fd ["self","name"] (fk c X .house):=by
 refine F.okX ow (fun vs H Q E h=>?_) (fun cdv A outer s H vs Q E hr h=>?_)
 ·obtain⟨n,dp,dt,S,x,rfl,_⟩:=h
  rfl
 ·obtain⟨n,dp,dt,S,x,rfl,N,hx,hz,q1,q2⟩:=h
  obtain⟨dx,h1⟩:=id N.ins
  refine⟨_,(aa (aU (bO dI (pv 0) D_Net_check_new_name (hr.mono (by decide)) (a8 (pv 1) ad)))
 (aa (ba (aw iY (bW (pv 0) D_Net_home (hr.mono (by decide))) bD (aD _))
  (ae (bI rfl c7 rfl TX.c_OneHouse TX.x_OneHouse))
  aE)
 (ae (aU (bO dI (pv 0) D_Net_put_in (hr.mono (by decide)) (a8 (lE D_House (hr.mono (by decide)) rfl (a8 (pv 1) ad)) ad)))))),?_⟩
  refine⟨_,rfl,n,dx,_,rfl,h1,rfl,_,rfl,n,dp,dt,S,x,rfl,N,hx,fun hi H' e=>q1 _ (by unfold due;rw[if_pos hi]) H' e,fun hi ht H' e=>q1 _ (by unfold due;rw[if_neg (by rw[hi];exact fun z=>nomatch z),if_pos ht]) H' e,fun hi ht H1 e1=>?_⟩
  refine⟨_,rfl,n,dx,_,rfl,e1 _ _ h1,rfl,n,dp,dt,S,rfl,N.mono e1,rfl,_,rfl,?_⟩
  cases hs:S.home with
  | some p=>
   refine vN (fun z=>nomatch z) (q1 _ ?_ H1 e1)
   unfold due
   rw[if_neg (by rw[hi];exact fun z=>nomatch z),if_neg ht,if_pos ⟨rfl,by rw[hs];rfl⟩]
  | none=>
   refine vM rfl ?_
   refine⟨_,rfl,n,dx,_,rfl,e1 _ _ h1,rfl,_,rfl,fun y dy ny ndy ne=>⟨y,.house,dy,x,rfl,a9,rfl,?_⟩⟩
   exact made (N.mono e1) hz hi ht (fun z=>by rw[hs]at z;cases z.2) (fun r hr' H' e'=>q1 r hr' H' (e1.trans e')) (fun hn H' b' N'=>q2 hn H' ((But.of e1).trans b') N') y dy ny ndy ne
end
structure xZ (mg : Str -> Option Value) : Prop where
  n_isinstance : mg "isinstance" = none
  n_int : mg "int" = none
  n_bool : mg "bool" = none
  n_len : mg "len" = none
structure TxtH (mg : Str -> Option Value) : Prop where
  mot : ∃ t, mg "MOST_TIES" = some (.int 40 t)
  lod : ∃ t, mg "LONGEST_DELAY" = some (.int 99 t)
structure TxtI (K : PySem.W.Frag) : Prop where
  ii : PySem.W.kitOne K (.type "int") (.type "int") = some true
  ib : PySem.W.kitOne K (.type "int") (.type "bool") = some false
section
variable {P : Program}{w : World}{K : PySem.W.Frag}{mg : Str -> Option Value}{base : Heap}
def cR:Sp:=fun vs H Q _=>∃ i:Int,vs=[.int i]/\Q (.bl true) H
abbrev im:Stmt:=top 23
theorem pN:am ["number"] ["number"] (ag im):=⟨rfl,rfl,rfl,by decide +kernel,rfl,by decide +kernel,by decide +kernel⟩
theorem qj {f:Addr}{fd:FuncData} (F:Fun K "is_whole" "is_whole" im f fd) (T:xZ mg) (TI:TxtI K):FnOk P w K mg base CX0 1 f fd ["number"] cR:=by
 refine F.ok pN (fun vs H Q E h=>?_) (fun cdv A outer s H vs Q E hr h=>?_)
 ·obtain⟨i,rfl,_⟩:=h
  rfl
 ·obtain⟨i,rfl,q⟩:=h
  refine⟨_,(ae (ar (fF (aA (isiK K) rfl T.n_isinstance b4 (a8 (pv 0) (a8 (kE (v:=.ty "int") rfl T.n_int boot_int rfl) ad))) (gl (rO (aA (isiK K) rfl T.n_isinstance b4 (a8 (pv 0) (a8 (kE (v:=.ty "bool") rfl T.n_bool boot_bool rfl) ad)))))))),?_⟩
  exact⟨_,rfl,.int i,_,_,_,rfl,.int i,TI.ii,_,rfl,bA ⟨_,rfl,.int i,_,_,_,rfl,.int i,TI.ib,_,rfl,q⟩⟩
def dW (i:Int):Bool:=decide (1<=i)&&decide (i<=99)
def fZ:Sp:=fun vs H Q _=>∃ i:Int,vs=[.int i]/\Q (.bl (dW i)) H
abbrev iq:Stmt:=top 24
theorem pO:am ["number"] ["number"] (ag iq):=⟨rfl,rfl,rfl,by decide +kernel,rfl,by decide +kernel,by decide +kernel⟩
theorem qm {f:Addr}{fd:FuncData} (F:Fun K "is_delay" "is_delay" iq f fd) (TH:TxtH mg) (D_is_whole:Df P w K mg base 1 "is_whole" ["number"] cR):FnOk P w K mg base CX0 2 f fd ["number"] fZ:=by
 obtain⟨tl,hg_LONGEST_DELAY⟩:=TH.lod
 refine F.ok pO (fun vs H Q E h=>?_) (fun cdv A outer s H vs Q E hr h=>?_)
 ·obtain⟨i,rfl,_⟩:=h
  rfl
 ·obtain⟨i,rfl,q⟩:=h
  refine⟨_,(ae (ar (fF (aq D_is_whole (hr.mono (by decide)) rfl (a8 (pv 0) ad)) (gl (lH n8 n8 ai (pv 0) (bX (v:=.int 99) rfl hg_LONGEST_DELAY ⟨_,rfl⟩)))))),?_⟩
  refine⟨_,rfl,i,rfl,_,rfl,bA ⟨_,rfl,_,_,rfl,rfl,_,rfl,bB (fun h1=>⟨_,_,rfl,rfl,?_⟩) (fun h1=>?_)⟩⟩
  ·have h1:1<=i:=yr h1
   unfold dW at q
   rw[ye h1,Bool.true_and]at q
   exact q
  ·have h1:¬ 1<=i:=fun z=>h1 (ye z)
   unfold dW at q
   rw[yj h1,Am]at q
   exact q
def wu (H:Hp)(l:Addr)(ts:List Tie):Prop:=∃ xs,H l=some (.lst xs)/\Paired (TieAt H) xs ts
theorem mZ {F:V->Tie->Prop}:∀ {vs:List V}{ts:List Tie},vs.length=ts.length->(∀ (i:Nat) v t,vs[i]?=some v->ts[i]?=some t->F v t)->Paired F vs ts
 | [],[],_,_=>.nil
 | v::vs,t::ts,h,k=>.cons (k 0 v t rfl rfl) (mZ (by simpa using h) fun i v' t' h1 h2=>k (i+1) v' t' (by simpa using h1) (by simpa using h2))
 | [],_::_,h,_=>by cases h
 | _::_,[],h,_=>by cases h
def gE (c:Cl):Sp:=fun vs H Q _=>∃ (n dp dt:Addr)(S:NS),vs=[.ref n]/\NetAt c H n dp dt S/\S.ties.length<=1000/\∀ l H',Same H H'->H l=none->wu H' l S.ties->Q (.ref l) H'
abbrev ir:Stmt:=aS (top 30) 14
theorem pQ:am ["self"] ["self"] (ag ir):=⟨rfl,rfl,rfl,by decide +kernel,rfl,by decide +kernel,by decide +kernel⟩
theorem qo {c:Cl}{f:Addr}{fd:FuncData} (F:Fun K "ties" "Net.ties" ir f fd) (O:Cl.Ok K c):FnOk P w K mg base CX0 1 f fd ["self"] (gE c):=by
 refine F.ok pQ (fun vs H Q E h=>?_) (fun cdv A outer s H vs Q E hr h=>?_)
 ·obtain⟨n,dp,dt,S,rfl,_⟩:=h
  rfl
 ·obtain⟨n,dp,dt,S,rfl,N,hz,q⟩:=h
  refine⟨_,(ae (ar (eS rfl (ak (nT:=4) (js:=[]) (N':=["number","one","other","delay"]) rfl rfl (by kernel_rfl)) (oG (eK K (pv 0) rfl))
  (fun _ _ _ _ _=>(gT K (n:=4) rfl (av (aj (i:=0) (show List.Nodup (["number","one","other","delay"]:List Str) by decide +kernel) rfl (by trivial)) (av (aj (i:=1) (show List.Nodup (["number","one","other","delay"]:List Str) by decide +kernel) rfl (by trivial)) (av (aj (i:=2) (show List.Nodup (["number","one","other","delay"]:List Str) by decide +kernel) rfl (by trivial)) (av (aj (i:=3) (show List.Nodup (["number","one","other","delay"]:List Str) by decide +kernel) rfl (by trivial)) bw))))))
  (fun _ _ _ _ _=>aM)
  (fun _ _ _ _ _=>(bC (a8 (pv 0) (a8 (pv 1) (a8 (pv 2) (a8 (pv 3) ad))))))))),?_⟩
  obtain⟨dx,h1⟩:=N.ins
  obtain⟨kvs,hd,hp⟩:=N.ties
  have hl:=Paired.length hp
  refine⟨_,rfl,n,c.net,dx,_,_,rfl,h1,O.cn,O.ft,rfl,dt,kvs,rfl,hd,fun o M hM=>?_⟩
  rw[sv]
  have row:∀ (i:Nat)(kv:Key×V),kvs[i]?=some kv->∃ t p,S.ties[i]?=some t/\kv.2=.ref p/\upd H dt (.frz o (.dK kvs)) p=some (.tup [.int t.1,.str t.2.1,.str t.2.2.1,.int t.2.2.2]):=fun i kv ek=>by
   obtain⟨t,et,_,p,ep,hp'⟩:=Paired.at hp ek
   exact⟨t,p,et,ep,by rw[af (bn hp' hd (fun z=>nomatch z))];exact hp'⟩
  refine r6 (fun i H v=>∃ t,S.ties[i]?=some t/\TieAt H v t) (fun i H H' v e ⟨t,a,b⟩=>⟨t,a,b.mono e⟩) a9 (by omega) (fun i kv ek=>?_) (fun i kv p x1 x2 x3 x4 H2 ek ep hp' e2=>?_) (fun l H' vs h0 e' hl' vl hv=>?_) (fun i H v l ⟨t,_,b,eb,hb⟩ ⟨ys,hy⟩ z=>?_) (fun i H v l ys ⟨t,a,b,eb,hb⟩ nv=>?_)
  ·obtain⟨t,p,_,ep,hp'⟩:=row i kv ek
   exact⟨p,_,_,_,_,ep,hp'⟩
  ·obtain⟨t,p',et,ep',hp''⟩:=row i kv ek
   rw[ep]at ep'
   cases ep'
   rw[hp']at hp''
   cases hp''
   refine⟨_,rfl,_,rfl,_,rfl,_,rfl,(by show 4<=sizeLine;decide),fun a H5 e5 h05 ha=>⟨⟨t,et,a,rfl,ha⟩,e5⟩⟩
  ·refine⟨dt,o,kvs,hM,e' _ _ a9,q l _ (bV hd e') ?_ ?_⟩
   ·have nl:l≠dt:=fun z=>by rw[z,a9]at h0;cases h0
    rw[af nl]at h0
    exact h0
   ·have nl:l≠dt:=fun z=>by rw[z,a9]at h0;cases h0
    refine⟨vs,by rw[af nl];exact hl',mZ (by omega) fun i v t hv' ht=>?_⟩
    obtain⟨⟨t',et,b,eb,hb⟩,_⟩:=hv i v hv'
    rw[ht]at et
    cases et
    exact⟨b,eb,by rw[af (bn hb (e' _ _ a9) (fun z=>nomatch z))];exact hb⟩
  ·rw[eb]at z
   cases z
   rw[hb]at hy
   cases hy
  ·exact⟨t,a,b,eb,by rw[af (fun z=>nv (by rw[eb,z]))];exact hb⟩
end
inductive dc (ts : List Tie) (x : Str) : Str -> Prop
  | refl : dc ts x x
  | step {t : Tie} : t ∈ ts -> dc ts x t.2.1 -> dc ts x t.2.2.1
def gr (R:List Str):HO:=.dK (R.map fun y=>((Sum.inr y:Key),V.bl true))
theorem eW (R:List Str)(y:Str):(b7 (R.map fun y=>((Sum.inr y:Key),V.bl true)) (Sum.inr y)).isSome=true ↔ y∈R:=by
 induction R with
 | nil=>simp[b7]
 | cons r R ih=>
  rw[yN]
  by_cases h:r=y
  ·rw[cv (by rw[h])]
   simp[h]
  ·rw[cw (fun z=>h (Sum.inr.inj z)),ih]
   simp[Ne.symm h]
theorem rY {R:List Str}{y:Str} (h:¬ y∈R):b7 (R.map fun y=>((Sum.inr y:Key),V.bl true)) (Sum.inr y)=none:=by
 cases hs:b7 (R.map fun y=>((Sum.inr y:Key),V.bl true)) (Sum.inr y) with
 | none=>rfl
 | some v=>exact absurd ((eW R y).mp (by rw[hs];rfl)) h
def eV (ts:List Tie)(R:List Str):Nat:=(ts.filter fun t=>decide (¬ t.2.2.1∈R)).length
theorem xf (ts:List Tie)(R:List Str)(y:Str):eV ts (R++[y])<=eV ts R:=by
 unfold eV
 induction ts with
 | nil=>exact yi _
 | cons t ts ih=>
  simp only[zS,yE,yL]
  by_cases h:t.2.2.1∈R
  ·simp only[h,true_or,AU,decide_false,zI,As]
   simpa using ih
  ·by_cases h2:t.2.2.1=y
   ·simp only[h,h2,or_true,AU,decide_false,zI,As,Ax,Bq,AV]
    rw[<- h2]
    simp only[h,Ax,Bq,AV,yY]
    simp only[yE,yL]at ih
    rw[<- h2]at ih
    omega
   ·simp only[h,h2,or_self,Ax,Bq,AV,yY]
    simp only[yE,yL]at ih
    omega
theorem xc {ts:List Tie}{R:List Str}{t:Tie} (ht:t∈ts) (h:¬ t.2.2.1∈R):eV ts (R++[t.2.2.1])+1<=eV ts R:=by
 induction ts with
 | nil=>cases ht
 | cons u ts ih=>
  have keep:=xf ts R t.2.2.1
  by_cases hu:u=t
  ·subst hu
   unfold eV at keep ⊢
   simp only[zS,yE,yL,or_true,AU,decide_false,zI,As,h,Ax,Bq,AV,yY]at keep ⊢
   omega
  ·have ht':t∈ts:=by
    rcases yB.mp ht with z|z
    ·exact absurd z.symm hu
    ·exact z
   have ih:=ih ht'
   unfold eV at ih ⊢
   simp only[zS,yE,yL]at ih ⊢
   by_cases h1:u.2.2.1∈R
   ·simp only[h1,true_or,AU,decide_false,zI,As]
    exact ih
   ·by_cases h2:u.2.2.1=t.2.2.1
    ·simp only[h2,h,or_true,AU,decide_false,zI,As,Ax,Bq,AV,yY]
     omega
    ·simp only[h1,h2,or_self,Ax,Bq,AV,yY]
     omega
section
variable {P : Program}{w : World}{K : PySem.W.Frag}{mg : Str -> Option Value}{base : Heap}
def jr:Sp:=fun vs H Q _=>∃ (l:Addr)(ts:List Tie)(x:Str),vs=[.ref l,.str x]/\wu H l ts/\ts.length<=1000/\∀ d H' R,Same H H'->H d=none->H' d=some (gr R)->(∀ y,y∈R ↔ dc ts x y)->Q (.ref d) H'
abbrev l6:Stmt:=top 25
theorem sc_led_to:am ["ties","start","reached","waiting","name","number","one","other","delay"] ["ties","start"] (ag l6):=⟨rfl,rfl,rfl,by decide +kernel,rfl,by decide +kernel,by decide +kernel⟩
theorem ui {f:Addr}{fd:FuncData} (F:Fun K "led_to" "led_to" l6 f fd) (T:xZ mg):FnOk P w K mg base CX0 1 f fd ["ties","start"] jr:=by
 refine F.ok sc_led_to (fun vs H Q E h=>?_) (fun cdv A outer s H vs Q E hr h=>?_)
 ·obtain⟨l,ts,x,rfl,_⟩:=h
  rfl
 ·obtain⟨l,ts,x,rfl,⟨xs,hl,hp⟩,hz,q⟩:=h
  have ND:=sc_led_to.nd
  have hxl:=Paired.length hp
  refine⟨_,(aa (ax (i:=2) ND rfl (by trivial) (x8 (vg (pv 1) gn wV) rfl rfl (fun z=>nomatch z) (by decide)))
 (aa (ax (i:=3) ND rfl (by trivial) (pe_lst (a8 (pv 1) ad)))
 (aa (iV yV (aw sZ (aA (gU K) rfl T.n_len boot_len (a8 (pv 3) ad)) ai (aD _))
  (aa (ax (i:=4) ND rfl (by trivial) (bm0K K zA PySem.F.slot_list_pop PySem.F.type_list_pop mt_pop (pv 3)))
 (ae (bN yV rfl (c6 K (pv 0)) (gT K (n:=4) rfl (av (aj (i:=5) ND rfl (by trivial)) (av (aj (i:=6) ND rfl (by trivial)) (av (aj (i:=7) ND rfl (by trivial)) (av (aj (i:=8) ND rfl (by trivial)) bw)))))
  (ae (eE (PW.pt (iC (aw ci (pv 6) (pv 4) (aD _)) (fC (fD (eU (bc hr) (pv 7) (pv 2))))))
  (aa (cO (bc hr) (pv 2) (pv 7) gn rfl)
 (ae (aU (bmK K zA Ae Ad dm (pv 3) (a8 (pv 7) ad)))))
  aE))))))
 (ae (ar (pv 2)))))),?_⟩
  intro d hd
  refine⟨_,rfl,a9,[(Sum.inr x,.bl true)],rfl,(by show 1<=15;decide),?_⟩
  have e0:upd (upd H d (.dK [])) d (.dK (eF [] [(Sum.inr x,.bl true)]))=upd H d (gr [x]):=by rw[wD];rfl
  rw[e0]
  refine⟨_,rfl,(by show 1<=sizeLine;decide),fun wl hwl=>?_⟩
  have nwd:wl≠d:=fun z=>by rw[z,a9]at hwl;cases hwl
  have hwl0:H wl=none:=by rw[af nwd]at hwl;exact hwl
  have s0:Same H (upd (upd H d (gr [x])) wl (.lst [.str x])):=au (az (Same.refl _) hd) hwl0
  refine⟨fun m σ H2=>∃ (R Wt:List Str)(o4 o5 o6 o7 o8:Option V),σ=[some (.ref l),some (.str x),some (.ref d),some (.ref wl),o4,o5,o6,o7,o8]/\Same H H2/\H2 d=some (gr R)/\H2 wl=some (.lst (Wt.map V.str))/\
   x∈R/\(∀ y∈R,dc ts x y)/\(∀ y∈Wt,y∈R)/\(∀ t∈ts,t.2.1∈R->¬ t.2.1∈Wt->t.2.2.1∈R)/\R.length+eV ts R<=1+ts.length/\Wt.length<=R.length/\m=2 * eV ts R+Wt.length,
   ⟨_,[x],[x],none,none,none,none,none,rfl,s0,by rw[af nwd.symm];exact a9,a9,by simp,fun y hy=>by rw[yL.mp hy];exact .refl,fun y hy=>hy,fun t _ h1 h2=>absurd h1 h2,?_,yi _,rfl⟩,?_⟩
  ·have:eV ts [x]<=ts.length:=z9 _ _
   show 1+eV ts [x]<=1+ts.length
   omega
  rintro m σ H2 ⟨R,Wt,o4,o5,o6,o7,o8,rfl,e2,hd2,hw2,xR,ld,wR,cls,bnd,wle,rfl⟩
  refine⟨_,rfl,wl,_,rfl,.inl (SqL.of hw2),_,_,rfl,rfl,_,rfl,bB (fun hc=>?_) (fun hc=>?_)⟩
  ·have hc:0<Wt.length:=by have:=yr hc;rw[y9]at this;omega
   obtain⟨W',nm,rfl⟩:∃ W' nm,Wt=W'++[nm]:=⟨Wt.dropLast,Wt.getLast (List.ne_nil_of_length_pos hc),(List.dropLast_concat_getLast _).symm⟩
   have nmR:nm∈R:=wR nm (by simp)
   refine⟨fun σ' H'=>∃ m',m'<2 * eV ts R+(W'++[nm]).length/\∃ (R Wt:List Str)(o4 o5 o6 o7 o8:Option V),σ'=[some (.ref l),some (.str x),some (.ref d),some (.ref wl),o4,o5,o6,o7,o8]/\Same H H'/\H' d=some (gr R)/\H' wl=some (.lst (Wt.map V.str))/\
    x∈R/\(∀ y∈R,dc ts x y)/\(∀ y∈Wt,y∈R)/\(∀ t∈ts,t.2.1∈R->¬ t.2.1∈Wt->t.2.2.1∈R)/\R.length+eV ts R<=1+ts.length/\Wt.length<=R.length/\m'=2 * eV ts R+Wt.length,fun σ' H' h=>h,?_⟩
   refine⟨_,rfl,.inl ⟨rfl,_,SqL.of hw2⟩,wl,_,.str nm,rfl,rfl,hw2,?_,?_⟩
   ·rw[yI,yu]
    simp
   have hdrop:((W'++[nm]).map V.str).dropLast=W'.map V.str:=by rw[yI];simp
   rw[hdrop]
   have e3:Same H (upd H2 wl (.lst (W'.map V.str))):=au e2 hwl0
   refine⟨_,rfl,l,rfl,⟨_,SqL.of (e3 _ _ hl)⟩,c8 (K:=K) (xs:=xs) (fun j σ H3=>∃ (R' W1:List Str)(o5 o6 o7 o8:Option V),σ=[some (.ref l),some (.str x),some (.ref d),some (.ref wl),some (.str nm),o5,o6,o7,o8]/\Same H H3/\H3 d=some (gr R')/\H3 wl=some (.lst (W1.map V.str))/\
    x∈R'/\nm∈R'/\(∀ y∈R',dc ts x y)/\(∀ y∈W1,y∈R')/\(∀ t∈ts,t.2.1∈R'->¬ t.2.1∈W1->t.2.1≠nm->t.2.2.1∈R')/\(∀ t∈ts.take j,t.2.1=nm->t.2.2.1∈R')/\R'.length+eV ts R'<=1+ts.length/\W1.length<=R'.length/\2 * eV ts R'+W1.length<2 * eV ts R+(W'++[nm]).length)
    ⟨R,W',_,_,_,_,rfl,e3,by rw[af nwd.symm];exact hd2,a9,xR,nmR,ld,fun y hy=>wR y (by simp[hy]),fun t ht h1 h2 h3=>cls t ht h1 (fun z=>by rcases yE.mp z with z|z;exact h2 z;exact h3 (by simpa using z)),fun t ht=>by simp at ht,bnd,?_,?_⟩ (fun j σ H3 _ h=>?_) (fun j v σ H3 ex h=>?_) (fun σ H3 h=>?_)⟩
   ·rw[yu]at wle
    simp at wle
    omega
   ·rw[yu];simp
   ·obtain⟨_,_,_,_,_,_,_,e3',_⟩:=h
    exact SqL.of (e3' _ _ hl)
   ·obtain⟨R',W1,o5,o6,o7,o8,rfl,e4,hd4,hw4,xR4,nm4,ld4,wR4,cls4,done4,bnd4,wle4,ms4⟩:=h
    obtain⟨t,et,p,rfl,hp'⟩:=Paired.at hp ex
    have tm:t∈ts:=yh et
    have tk:ts.take (j+1)=ts.take j++[t]:=by rw[za,et];rfl
    refine⟨p,_,rfl,SqT.of (e4 _ _ hp'),rfl,_,_,rfl,_,_,rfl,_,_,rfl,_,[],rfl,rfl,?_⟩
    have stay:∀ H5,H5=H3->(t.2.1=nm->t.2.2.1∈R')->∃ (R' W1:List Str)(o5 o6 o7 o8:Option V),([some (.ref l),some (.str x),some (.ref d),some (.ref wl),some (.str nm),some (.int t.1),some (.str t.2.1),some (.str t.2.2.1),some (.int t.2.2.2)]:St)=[some (.ref l),some (.str x),some (.ref d),some (.ref wl),some (.str nm),o5,o6,o7,o8]/\Same H H5/\H5 d=some (gr R')/\H5 wl=some (.lst (W1.map V.str))/\
      x∈R'/\nm∈R'/\(∀ y∈R',dc ts x y)/\(∀ y∈W1,y∈R')/\(∀ t∈ts,t.2.1∈R'->¬ t.2.1∈W1->t.2.1≠nm->t.2.2.1∈R')/\(∀ t∈ts.take (j+1),t.2.1=nm->t.2.2.1∈R')/\R'.length+eV ts R'<=1+ts.length/\W1.length<=R'.length/\2 * eV ts R'+W1.length<2 * eV ts R+(W'++[nm]).length:=fun H5 eH ht=>by
     subst eH
     refine⟨R',W1,_,_,_,_,rfl,e4,hd4,hw4,xR4,nm4,ld4,wR4,cls4,fun u hu hun=>?_,bnd4,wle4,ms4⟩
     rw[tk]at hu
     rcases yE.mp hu with z|z
     ·exact done4 u z hun
     ·rw[yL.mp z]at hun ⊢
      exact ht hun
    refine⟨_,fun σ' H' h=>h,?_⟩
    refine⟨_,rfl,_,rfl,rfl,_,rfl,bB (fun h1=>?_) (fun h1=>bv (stay H3 rfl fun z=>absurd (ye (by rw[z])) h1))⟩
    have h1:t.2.1=nm:=by have:=yr h1;injection this
    refine⟨_,rfl,_,rfl,d,_,rfl,DGet.k (k:=Sum.inr t.2.2.1) hd4,_,rfl,?_⟩
    cases hs:(b7 (R'.map fun y=>((Sum.inr y:Key),V.bl true)) (Sum.inr t.2.2.1)).isSome with
    | true=>exact bv (stay H3 rfl fun _=>(eW R' _).mp hs)
    | false=>
     have nin:¬ t.2.2.1∈R':=fun z=>by rw[(eW R' _).mpr z]at hs;cases hs
     refine bA ?_
     refine⟨_,rfl,_,rfl,d,_,rfl,DPut.k (k:=Sum.inr t.2.2.1) hd4 (by rw[y9];show R'.length<2 ^ 24;omega),?_⟩
     rw[dF _ (rY nin)]
     have hw5:upd H3 d (.dK ((R'.map fun y=>((Sum.inr y:Key),V.bl true))++[(Sum.inr t.2.2.1,.bl true)])) wl=some (.lst (W1.map V.str)):=by rw[af nwd];exact hw4
     refine⟨_,rfl,.inl ⟨rfl,_,SqL.of hw5⟩,_,rfl,wl,_,_,rfl,rfl,hw5,by rw[y9];show W1.length<2 ^ 24;omega,?_⟩
     have ol:=xc tm nin
     refine⟨R'++[t.2.2.1],W1++[t.2.2.1],_,_,_,_,rfl,au (au e4 hd) hwl0,?_,?_,by simp[xR4],by simp[nm4],fun y hy=>?_,fun y hy=>?_,fun u hu hu1 hu2 hu3=>?_,fun u hu hun=>?_,?_,?_,?_⟩
     ·rw[af nwd.symm,a9]
      unfold gr
      rw[yI]
      rfl
     ·rw[a9,yI]
      rfl
     ·rcases yE.mp hy with z|z
      ·exact ld4 y z
      ·rw[yL.mp z]
       exact .step tm (h1▸ld4 nm nm4)
     ·rcases yE.mp hy with z|z
      ·exact z8 _ (wR4 y z)
      ·exact yT _ z
     ·have hu1':u.2.1∈R':=by
       rcases yE.mp hu1 with z|z
       ·exact z
       ·exact absurd (yT _ z) hu2
      exact z8 _ (cls4 u hu hu1' (fun z=>hu2 (z8 _ z)) hu3)
     ·rw[tk]at hu
      rcases yE.mp hu with z|z
      ·exact z8 _ (done4 u z hun)
      ·rw[yL.mp z]
       simp
     ·rw[yu]
      show R'.length+1+_<=_
      omega
     ·rw[yu,yu]
      show W1.length+1<=R'.length+1
      omega
     ·have:(W1++[t.2.2.1]).length=W1.length+1:=by simp
      rw[this]
      omega
   ·obtain⟨R',W1,o5,o6,o7,o8,rfl,e4,hd4,hw4,xR4,nm4,ld4,wR4,cls4,done4,bnd4,wle4,ms4⟩:=h
    rw[hxl,zh]at done4
    refine⟨_,ms4,R',W1,_,_,_,_,_,rfl,e4,hd4,hw4,xR4,ld4,wR4,fun t ht h1 h2=>?_,bnd4,wle4,rfl⟩
    by_cases h3:t.2.1=nm
    ·exact done4 t ht h3
    ·exact cls4 t ht h1 h2 h3
  ·have hc:Wt=[]:=by
    cases Wt with
    | nil=>rfl
    | cons y Wt=>exact absurd (ye (by rw[y9,yY];omega)) hc
   subst hc
   refine⟨_,rfl,q d H2 R e2 hd hd2 fun y=>⟨ld y,fun h=>?_⟩⟩
   induction h with
   | refl=>exact xR
   | step ht _ ih=>exact cls _ ht ih (by simp)
end
structure Xt where
  intoHouse : Addr
  ringMade : Addr
  noNumber : Addr
  tooMany : Addr
structure TxtY (K : PySem.W.Frag) (mg : Str -> Option Value) (x : Xt) : Prop where
  c_IntoHouse : mg "IntoHouse" = some (.ref x.intoHouse)
  x_IntoHouse : PySem.W.excIn K x.intoHouse bQ "ValueError.__new__" = true
  c_RingMade : mg "RingMade" = some (.ref x.ringMade)
  x_RingMade : PySem.W.excIn K x.ringMade bQ "ValueError.__new__" = true
  c_NoNumber : mg "NoNumber" = some (.ref x.noNumber)
  x_NoNumber : PySem.W.excIn K x.noNumber bQ "ValueError.__new__" = true
  c_TooMany : mg "TooMany" = some (.ref x.tooMany)
  x_TooMany : PySem.W.excIn K x.tooMany bQ "ValueError.__new__" = true
section
variable {P : Program}{w : World}{K : PySem.W.Frag}{mg : Str -> Option Value}{base : Heap}
def fW (c:Cl):Sp:=fun vs H Q _=>∃ (n dp dt:Addr)(S:NS)(x:Str),vs=[.ref n,.str x]/\NetAt c H n dp dt S/\x∈S.names/\Q .non H
abbrev cA:Stmt:=aS (top 30) 8
theorem ig:am ["self","name"] ["self","name"] (ag cA):=⟨rfl,rfl,rfl,by decide +kernel,rfl,by decide +kernel,by decide +kernel⟩
theorem iE {c:Cl}{f:Addr}{fd:FuncData} (F:Fun K "check_there" "Net.check_there" cA f fd) (O:Cl.Ok K c):FnOk P w K mg base CX0 1 f fd ["self","name"] (fW c):=by
 refine F.ok ig (fun vs H Q E h=>?_) (fun cdv A outer s H vs Q E hr h=>?_)
 ·obtain⟨n,dp,dt,S,x,rfl,_⟩:=h
  rfl
 ·obtain⟨n,dp,dt,S,x,rfl,N,hx,q⟩:=h
  obtain⟨dx,h1⟩:=N.ins
  obtain⟨kvs,hd,hp⟩:=N.posts
  refine⟨_,(ae (ba (fD (eU (bc hr) (pv 1) (eK K (pv 0) rfl)))
  (ae lB)
  aE)),?_⟩
  refine⟨_,rfl,_,rfl,n,c.net,dx,_,_,rfl,h1,O.cn,O.fp,rfl,dp,_,rfl,DGet.k (k:=Sum.inr x) hd,_,rfl,?_⟩
  rw[(iN (x:=x) hp).mpr hx]
  exact bv q
theorem pH {c:Cl}{H:Hp}{x:Str}:∀ {kvs:List (Key×V)}{ps:List (Str×Kd)},Paired (fun (kv:Key×V) p=>kv.1=Sum.inr p.1/\PostAt c H kv.2 p) kvs ps->x∈ps.map (·.1)->∃ v p,b7 kvs (Sum.inr x)=some v/\p∈ps/\p.1=x/\PostAt c H v p/\ps.find? (fun p=>decide (p.1=x))=some p
 | _,_,.nil,h=>by simp at h
 | kv::kvs,p::ps,.cons ⟨e,pa⟩ r,h=>by
  by_cases hx:p.1=x
  ·exact⟨kv.2,p,cv (by rw[e,hx]),by simp,hx,pa,by rw[yQ,ye hx]⟩
  ·have h':x∈ps.map (·.1):=by
    rcases yw.mp h with⟨q,hq,e2⟩
    rcases yB.mp hq with z|z
    ·rw[z]at e2;exact absurd e2 hx
    ·exact yw.mpr ⟨q,z,e2⟩
   obtain⟨v,q,a1,a2,a3,a4,a5⟩:=pH r h'
   exact⟨v,q,by rw[cw (by rw[e];exact fun z=>hx (Sum.inr.inj z))];exact a1,by simp[a2],a3,a4,by rw[yQ,yj hx];exact a5⟩
def NS.kind (S:NS)(x:Str):Kd:=((S.posts.find? fun p=>decide (p.1=x)).map (·.2)).getD .post
def oh (c:Cl)(X:Xt):Sp:=fun vs H Q E=>∃ (n dp dt:Addr)(S:NS)(x y:Str),vs=[.ref n,.str x,.str y]/\NetAt c H n dp dt S/\x∈S.names/\y∈S.names/\S.ties.length<=1000/\
 (hrB (S.kind y)=false->∀ H',Same H H'->E (.ref X.intoHouse) none H')/\(hrB (S.kind y)=true->dc S.ties y x->∀ H',Same H H'->E (.ref X.ringMade) none H')/\(hrB (S.kind y)=true->¬ dc S.ties y x->∀ H',Same H H'->Q .non H')
abbrev cH:Stmt:=aS (top 30) 7
theorem iT:am ["self","one","other"] ["self","one","other"] (ag cH):=⟨rfl,rfl,rfl,by decide +kernel,rfl,by decide +kernel,by decide +kernel⟩
theorem ja {c:Cl}{X:Xt}{f:Addr}{fd:FuncData} (F:Fun K "check_ends" "Net.check_ends" cH f fd) (O:Cl.Ok K c) (TX:TxtY K mg X) (D_hears:∀ C,jQ c C->Dm P w K mg base 1 C "hears" ["self"] (bU c C))
  (D_Net_check_there:Dm P w K mg base 1 c.net "check_there" ["self","name"] (fW c)) (D_Net_ties:Dm P w K mg base 1 c.net "ties" ["self"] (gE c)) (D_led_to:Df P w K mg base 1 "led_to" ["ties","start"] jr):FnOk P w K mg base (CXE P w) 2 f fd ["self","one","other"] (oh c X):=by
 refine F.okX iT (fun vs H Q E h=>?_) (fun cdv A outer s H vs Q E hr h=>?_)
 ·obtain⟨n,dp,dt,S,x,y,rfl,_⟩:=h
  rfl
 ·obtain⟨n,dp,dt,S,x,y,rfl,N,hx,hy,hz,q1,q2,q3⟩:=h
  obtain⟨dx,h1⟩:=id N.ins
  obtain⟨kvs,hd,hp⟩:=id N.posts
  refine⟨_,(aa (aU (aZ (pv 0) D_Net_check_there (hr.mono (by decide)) (a8 (pv 1) ad)))
 (aa (aU (aZ (pv 0) D_Net_check_there (hr.mono (by decide)) (a8 (pv 2) ad)))
 (aa (ba (gk (d6 (gM (bL (bc hr) (eK K (pv 0) rfl) (pv 2) (fun _ _=>rfl)) D_hears (hr.mono (by decide)))))
  (ae (bI rfl c7 rfl TX.c_IntoHouse TX.x_IntoHouse))
  aE)
 (ae (ba (fD (oH (bc hr) (pv 1) (aq D_led_to (hr.mono (by decide)) rfl (a8 (bW (pv 0) D_Net_ties (hr.mono (by decide))) (a8 (pv 2) ad)))))
  (ae (bI rfl c7 rfl TX.c_RingMade TX.x_RingMade))
  aE))))),?_⟩
  refine⟨_,rfl,n,dx,_,rfl,h1,rfl,_,rfl,n,dp,dt,S,x,rfl,N,hx,?_⟩
  refine⟨_,rfl,n,dx,_,rfl,h1,rfl,_,rfl,n,dp,dt,S,y,rfl,N,hy,?_⟩
  obtain⟨v,p,hv,_,_,⟨a,dxa,rfl,ha⟩,hf⟩:=pH hp hy
  have hk:S.kind y=p.2:=by unfold NS.kind;rw[hf];rfl
  refine⟨_,rfl,n,c.net,dx,_,_,rfl,h1,O.cn,O.fp,rfl,_,rfl,dp,_,rfl,hv▸DGet.k (k:=Sum.inr y) hd,a,c.of p.2,dxa,_,rfl,⟨_,rfl⟩,ha,rfl,_,rfl,_,rfl,?_⟩
  rw[gx O,<- hk]
  cases hb:hrB (S.kind y) with
  | false=>exact bA (q1 hb H (Same.refl _))
  | true=>
   refine bv ?_
   refine⟨_,rfl,_,rfl,n,dx,_,rfl,h1,rfl,n,dp,dt,S,rfl,N,hz,fun l H1 e1 h01 hl1=>?_⟩
   refine⟨_,rfl,l,S.ties,y,rfl,hl1,hz,fun d H2 R e2 h02 hd2 hR=>?_⟩
   refine⟨d,_,rfl,DGet.k (k:=Sum.inr x) hd2,_,rfl,?_⟩
   cases hs:(b7 (R.map fun y=>((Sum.inr y:Key),V.bl true)) (Sum.inr x)).isSome with
   | true=>exact bA (q2 hb ((hR x).mp ((eW R x).mp hs)) H2 (e1.trans e2))
   | false=>exact bv (q3 hb (fun z=>by rw[(eW R x).mpr ((hR x).mpr z)]at hs;cases hs) H2 (e1.trans e2))
end
def NS.tie (S:NS)(x y:Str)(d:Int):NS:={ S with ties:=S.ties++[(S.next,x,y,d)],next:=S.next+1 }
def NS.cut (S:NS)(k:Int):NS:={ S with ties:=S.ties.filter fun t=>decide (t.1≠k) }
def But2 (n d:Addr)(H H':Hp):Prop:=∀ a o,a≠n->a≠d->H a=some o->H' a=some o
theorem nZ {H:Hp}{k:Int}:∀ {kvs:List (Key×V)}{ts:List Tie},Paired (fun (kv:Key×V) (t:Tie)=>kv.1=Sum.inl t.1/\TieAt H kv.2 t) kvs ts->((b7 kvs (Sum.inl k)).isSome=true ↔ k∈ts.map (·.1))
 | _,_,.nil=>by simp[b7]
 | kv::kvs,t::ts,.cons ⟨e,_⟩ r=>by
  by_cases h:t.1=k
  ·rw[cv (by rw[e,h])]
   simp[h]
  ·rw[cw (by rw[e];exact fun z=>h (Sum.inl.inj z)),nZ r]
   simp[Ne.symm h]
section
variable {P : Program}{w : World}{K : PySem.W.Frag}{mg : Str -> Option Value}{base : Heap}
def o0 (c:Cl)(X:Xt):Sp:=fun vs H Q E=>∃ (n dp dt:Addr)(S:NS)(x y:Str)(d:Int),vs=[.ref n,.str x,.str y,.int d]/\NetAt c H n dp dt S/\x∈S.names/\y∈S.names/\S.ties.length<=1000/\(∀ t∈S.ties,t.1<S.next)/\
 (hrB (S.kind y)=false->∀ H',Same H H'->E (.ref X.intoHouse) none H')/\(hrB (S.kind y)=true->dc S.ties y x->∀ H',Same H H'->E (.ref X.ringMade) none H')/\
 (hrB (S.kind y)=true->¬ dc S.ties y x->dW d=false->∀ H',Same H H'->E (.ref X.noNumber) none H')/\(hrB (S.kind y)=true->¬ dc S.ties y x->dW d=true->40<=S.ties.length->∀ H',Same H H'->E (.ref X.tooMany) none H')/\
 (hrB (S.kind y)=true->¬ dc S.ties y x->dW d=true->S.ties.length<40->∀ H',But2 n dt H H'->NetAt c H' n dp dt (S.tie x y d)->Q (.int S.next) H')
abbrev gJ:Stmt:=aS (top 30) 6
theorem sc_Net_tie:am ["self","one","other","delay","number"] ["self","one","other","delay"] (ag gJ):=⟨rfl,rfl,rfl,by decide +kernel,rfl,by decide +kernel,by decide +kernel⟩
theorem lP {c:Cl}{X:Xt}{f:Addr}{fd:FuncData} (F:FunD K "tie" "Net.tie" gJ f fd) (O:Cl.Ok K c) (T:xZ mg) (TH:TxtH mg) (TX:TxtY K mg X) (D_Net_check_ends:DmX P w K mg base 2 c.net "check_ends" ["self","one","other"] (oh c X)) (D_is_delay:Df P w K mg base 2 "is_delay" ["number"] fZ):
  FnOk P w K mg base (CXE P w) 3 f fd ["self","one","other","delay"] (o0 c X):=by
 obtain⟨tl,hg_MOST_TIES⟩:=TH.mot
 refine F.okX sc_Net_tie (fun vs H Q E h=>?_) (fun cdv A outer s H vs Q E hr h=>?_)
 ·obtain⟨n,dp,dt,S,x,y,d,rfl,_⟩:=h
  rfl
 ·obtain⟨n,dp,dt,S,x,y,d,rfl,N,hx,hy,hz,hnum,q1,q2,q3,q4,q5⟩:=h
  have ND:=sc_Net_tie.nd
  obtain⟨dx,h1⟩:=id N.ins
  obtain⟨kvs,hd,hp⟩:=id N.ties
  have hl:=Paired.length hp
  refine⟨_,(aa (aU (bO dI (pv 0) D_Net_check_ends (hr.mono (by decide)) (a8 (pv 1) (a8 (pv 2) ad))))
 (aa (ba (gk (d6 (aq D_is_delay (hr.mono (by decide)) rfl (a8 (pv 3) ad))))
  (ae (bI rfl c7 rfl TX.c_NoNumber TX.x_NoNumber))
  aE)
 (aa (ba (aw t0 (aA gA rfl T.n_len boot_len (a8 (eK K (pv 0) rfl) ad)) (bX (v:=.int 40) rfl hg_MOST_TIES ⟨_,rfl⟩) (aD _))
  (ae (bI rfl c7 rfl TX.c_TooMany TX.x_TooMany))
  aE)
 (aa (ax (i:=4) ND rfl (by trivial) (eK K (pv 0) rfl))
 (aa (cO (bc hr) (eK K (pv 0) rfl) (pv 4) (bC (a8 (pv 4) (a8 (pv 1) (a8 (pv 2) (a8 (pv 3) ad))))) rfl)
 (aa (jD (pv 0) (aF dH (pv 4) ai) rfl)
 (ae (ar (pv 4))))))))),?_⟩
  refine⟨_,rfl,n,dx,_,rfl,h1,rfl,_,rfl,_,rfl,n,dp,dt,S,x,y,rfl,N,hx,hy,hz,q1,q2,fun hb hL H1 e1=>?_⟩
  refine⟨_,rfl,d,rfl,_,rfl,?_⟩
  cases hi:dW d with
  | false=>exact bA (q3 hb hL hi H1 e1)
  | true=>
   refine bv ?_
   refine⟨_,rfl,n,c.net,dx,_,_,rfl,e1 _ _ h1,O.cn,O.ft,rfl,dt,kvs,rfl,e1 _ _ hd,_,_,rfl,rfl,_,rfl,bB (fun g=>?_) (fun g=>?_)⟩
   ·exact q4 hb hL hi (by have:=yr g;omega) H1 e1
   ·have g:S.ties.length<40:=by
     have:¬ (40:Int)<=(kvs.length:Int):=fun z=>g (ye z)
     omega
    refine⟨_,rfl,n,c.net,dx,_,_,rfl,e1 _ _ h1,O.cn,O.fn,rfl,?_⟩
    refine⟨_,rfl,_,rfl,_,rfl,_,rfl,(by show 4<=sizeLine;decide),fun tp H2 e2 h02 htp=>?_⟩
    have e12:=e1.trans e2
    have hv:b7 kvs (Sum.inl S.next)=none:=by
     cases hs:b7 kvs (Sum.inl S.next) with
     | none=>rfl
     | some v=>
      obtain⟨t,ht,et⟩:=yw.mp ((nZ (k:=S.next) hp).mp (by rw[hs];rfl))
      have:=hnum t ht
      omega
    have nnt:n≠dt:=bn h1 hd (fun z=>nomatch z)
    refine⟨_,rfl,n,c.net,dx,_,_,rfl,e12 _ _ h1,O.cn,O.ft,rfl,_,rfl,dt,_,rfl,DPut.k (k:=Sum.inl S.next) (e12 _ _ hd) (by show kvs.length<2 ^ 24;omega),?_⟩
    rw[dF _ hv]
    refine⟨_,rfl,_,_,rfl,rfl,_,rfl,n,c.net,dx,_,rfl,by rw[af nnt];exact e12 _ _ h1,O.cn,O.fn,(by show 3<1000;decide),?_⟩
    have b2:But2 n dt H (upd (upd H2 dt (.dK (kvs++[(Sum.inl S.next,.ref tp)]))) n (.ins c.net dx [("kept_posts",.ref dp),("kept_ties",.ref dt),("next_number",.int (S.next+1))])):=fun a o na nd ha=>by
     rw[af na,af nd];exact e12 _ _ ha
    refine⟨_,rfl,q5 hb hL hi g _ b2 ?_⟩
    obtain⟨_,⟨kp,h2,p2⟩,_,h4⟩:=N
    have keepP:∀ {v:V}{q:Str×Kd},PostAt c H v q->v≠.ref n->PostAt c _ v q:=fun {v q} ⟨b,dxb,eb,hb⟩ hne=>⟨b,dxb,eb,b2 b _ (fun z=>hne (by rw[eb,z])) (bn hb hd (fun z=>nomatch z)) hb⟩
    have keepT:∀ {v:V}{t:Tie},TieAt H v t->TieAt _ v t:=fun {v t} ⟨b,eb,hb⟩=>⟨b,eb,b2 b _ (bn hb h1 (fun z=>nomatch z)) (bn hb hd (fun z=>nomatch z)) hb⟩
    have ntp:tp≠n:=(ah (e1 _ _ h1) h02).symm
    have ntd:tp≠dt:=(ah (e1 _ _ hd) h02).symm
    refine⟨⟨dx,a9⟩,⟨kp,b2 dp _ (bn h2 h1 (fun z=>nomatch z)) h4 h2,Paired.mapP p2 fun kv p ⟨a1,a2⟩=>⟨a1,keepP a2 ?_⟩⟩,⟨kvs++[(Sum.inl S.next,.ref tp)],by rw[af nnt.symm];exact a9,Paired.snoc' (Paired.mapP hp fun _ _ ⟨a1,a2⟩=>⟨a1,keepT a2⟩) ⟨rfl,tp,rfl,?_⟩⟩,h4⟩
    ·obtain⟨b,dxb,eb,hb'⟩:=a2
     rintro z
     rw[z]at eb
     cases eb
     rw[h1]at hb'
     injection hb' with hb'
     injection hb' with _ _ hb'
     cases hb'
    ·rw[af ntp,af ntd]
     exact htp
end
section
variable {P : Program}{w : World}{K : PySem.W.Frag}{mg : Str -> Option Value}{base : Heap}
theorem jN {H:Hp}{k:Int}:∀ {kvs:List (Key×V)}{ts:List Tie},Paired (fun (kv:Key×V) (t:Tie)=>kv.1=Sum.inl t.1/\TieAt H kv.2 t) kvs ts->Paired (fun (kv:Key×V) (t:Tie)=>kv.1=Sum.inl t.1/\TieAt H kv.2 t) (ff kvs (Sum.inl k)) (ts.filter fun t=>decide (t.1≠k))
 | _,_,.nil=>.nil
 | kv::kvs,t::ts,.cons ⟨e,h⟩ r=>by
  unfold ff
  rw[zS,zS]
  by_cases c:t.1=k
  ·rw[if_neg (by rw[e,c];simp),if_neg (by simp[c])]
   exact jN r
  ·rw[if_pos (by rw[e];exact ye fun z=>c (Sum.inl.inj z)),if_pos (ye c)]
   exact .cons ⟨e,h⟩ (jN r)
def i0 (c:Cl):Sp:=fun vs H Q _=>∃ (n dp dt:Addr)(S:NS)(k:Int),vs=[.ref n,.int k]/\NetAt c H n dp dt S/\k∈S.ties.map (·.1)/\∀ H',But dt H H'->NetAt c H' n dp dt (S.cut k)->Q .non H'
abbrev eC:Stmt:=aS (top 30) 9
theorem kT:am ["self","number"] ["self","number"] (ag eC):=⟨rfl,rfl,rfl,by decide +kernel,rfl,by decide +kernel,by decide +kernel⟩
theorem lR {c:Cl}{f:Addr}{fd:FuncData} (F:Fun K "cut_tie" "Net.cut_tie" eC f fd) (O:Cl.Ok K c) (D_is_whole:Df P w K mg base 1 "is_whole" ["number"] cR):FnOk P w K mg base CX0 2 f fd ["self","number"] (i0 c):=by
 refine F.ok kT (fun vs H Q E h=>?_) (fun cdv A outer s H vs Q E hr h=>?_)
 ·obtain⟨n,dp,dt,S,k,rfl,_⟩:=h
  rfl
 ·obtain⟨n,dp,dt,S,k,rfl,N,hk,q⟩:=h
  obtain⟨dx,h1⟩:=id N.ins
  obtain⟨kvs,hd,hp⟩:=id N.ties
  refine⟨_,(aa (ba (PW.pt (qa (gk (d6 (aq D_is_whole (hr.mono (by decide)) rfl (a8 (pv 1) ad)))) (lA (fD (eU (bc hr) (pv 1) (eK K (pv 0) rfl))))))
  (ae lB)
  aE)
 (ae (aU (vn (eK K (pv 0) rfl) (pv 1) ⟨rfl,rfl,rfl,rfl⟩)))),?_⟩
  have hs:=(nZ (k:=k) hp).mpr hk
  refine⟨_,rfl,k,rfl,_,rfl,bv ?_⟩
  refine⟨_,rfl,_,rfl,n,c.net,dx,_,_,rfl,h1,O.cn,O.ft,rfl,dt,_,rfl,DGet.k (k:=Sum.inl k) hd,_,rfl,?_⟩
  rw[hs]
  refine bv ?_
  obtain⟨v,hv⟩:=Bv.mp hs
  refine⟨_,rfl,n,c.net,dx,_,_,rfl,h1,O.cn,O.ft,rfl,dt,rfl,.inl ⟨kvs,.inl hd⟩,_,rfl,kvs,Sum.inl k,v,hd,rfl,hv,?_⟩
  have b1:But dt H (upd H dt (.dK (ff kvs (Sum.inl k)))):=fun a o na ha=>by rw[af na];exact ha
  refine q _ b1 ?_
  obtain⟨_,⟨kp,h2,p2⟩,_,h4⟩:=N
  have keepP:∀ {v:V}{q:Str×Kd},PostAt c H v q->PostAt c (upd H dt (.dK (ff kvs (Sum.inl k)))) v q:=fun⟨b,dxb,eb,hb⟩=>⟨b,dxb,eb,b1 _ _ (bn hb hd (fun z=>nomatch z)) hb⟩
  have keepT:∀ {v:V}{t:Tie},TieAt H v t->TieAt (upd H dt (.dK (ff kvs (Sum.inl k)))) v t:=fun⟨b,eb,hb⟩=>⟨b,eb,b1 _ _ (bn hb hd (fun z=>nomatch z)) hb⟩
  exact⟨⟨dx,b1 _ _ (bn h1 hd (fun z=>nomatch z)) h1⟩,⟨kp,b1 _ _ h4 h2,Paired.mapP p2 fun _ _ ⟨x,y⟩=>⟨x,keepP y⟩⟩,⟨_,a9,Paired.mapP (jN hp) fun _ _ ⟨x,y⟩=>⟨x,keepT y⟩⟩,h4⟩
end
section
variable {P : Program}{w : World}{K : PySem.W.Frag}{mg : Str -> Option Value}{base : Heap}
def NS.into (S:NS)(x:Str):List Int:=(S.ties.filter fun t=>decide (t.2.2.1=x)).map (·.1)
def NS.outOf (S:NS)(x:Str):List Int:=(S.ties.filter fun t=>decide (t.2.1=x)).map (·.1)
theorem jM {α β:Type}{d:α} (f:α->Bool) (g:α->β) (xs:List α):((List.range xs.length).filter fun i=>f (xs.getD i d)).map (fun i=>g (xs.getD i d))=(xs.filter f).map g:=by
 have e:(List.range xs.length).map (fun i=>xs.getD i d)=xs:=by
  have:=iB (xs:=xs) (d:=d) (f:=id)
  simpa using this
 conv=>rhs;rw[<- e,AL,yq]
 rfl
def dP (c:Cl)(f:NS->Str->List Int):Sp:=fun vs H Q _=>∃ (n dp dt:Addr)(S:NS)(x:Str),vs=[.ref n,.str x]/\NetAt c H n dp dt S/\x∈S.names/\S.ties.length<=1000/\∀ l H',Same H H'->H l=none->H' l=some (.lst ((f S x).map V.int))->Q (.ref l) H'
abbrev iw:Stmt:=aS (top 30) 15
theorem pS:am ["self","name"] ["self","name"] (ag iw):=⟨rfl,rfl,rfl,by decide +kernel,rfl,by decide +kernel,by decide +kernel⟩
theorem qr {c:Cl}{f:Addr}{fd:FuncData} (F:Fun K "into" "Net.into" iw f fd) (O:Cl.Ok K c) (D_Net_check_there:Dm P w K mg base 1 c.net "check_there" ["self","name"] (fW c)) (D_Net_ties:Dm P w K mg base 1 c.net "ties" ["self"] (gE c)):
  FnOk P w K mg base CX0 2 f fd ["self","name"] (dP c NS.into):=by
 refine F.ok pS (fun vs H Q E h=>?_) (fun cdv A outer s H vs Q E hr h=>?_)
 ·obtain⟨n,dp,dt,S,x,rfl,_⟩:=h
  rfl
 ·obtain⟨n,dp,dt,S,x,rfl,N,hx,hz,q⟩:=h
  obtain⟨dx,h1⟩:=id N.ins
  refine⟨_,(aa (aU (aZ (pv 0) D_Net_check_there (hr.mono (by decide)) (a8 (pv 1) ad)))
 (ae (ar (aX rfl (ak (nT:=4) (js:=[1]) (N':=["number","one","other","delay","name"]) rfl rfl (by kernel_rfl)) (c6 K (bW (pv 0) D_Net_ties (hr.mono (by decide))))
  (fun _ _ _ _ _=>(gT K (n:=4) rfl (av (aj (i:=0) (show List.Nodup (["number","one","other","delay","name"]:List Str) by decide +kernel) rfl (by trivial)) (av (aj (i:=1) (show List.Nodup (["number","one","other","delay","name"]:List Str) by decide +kernel) rfl (by trivial)) (av (aj (i:=2) (show List.Nodup (["number","one","other","delay","name"]:List Str) by decide +kernel) rfl (by trivial)) (av (aj (i:=3) (show List.Nodup (["number","one","other","delay","name"]:List Str) by decide +kernel) rfl (by trivial)) bw))))))
  (fun _ _ _ _ _=>(dQ (aw ci (pv 2) (pv 4) (aD _))))
  (fun _ _ _ _ _=>(pv 0)))))),?_⟩
  refine⟨_,rfl,n,dx,_,rfl,h1,rfl,_,rfl,n,dp,dt,S,x,rfl,N,hx,?_⟩
  refine⟨_,rfl,n,dx,_,rfl,h1,rfl,n,dp,dt,S,rfl,N,hz,fun l1 H1 e1 h01 t1=>?_⟩
  obtain⟨xs,a1,a2⟩:=t1
  have hl:=Paired.length a2
  refine⟨l1,rfl,⟨_,SqL.of a1⟩,ke (fun i=>decide ((S.ties.getD i (0,"","",0)).2.2.1=x)) (fun i=>.int (S.ties.getD i (0,"","",0)).1) a1 (by omega) (fun i v ev=>?_) (fun i p x1 x2 x3 x4 H2 ev hp e2=>?_) (fun l H' h0 e' hl'=>?_)⟩
  ·obtain⟨t,et,b,rfl,hb⟩:=Paired.at a2 ev
   exact⟨b,_,_,_,_,rfl,hb⟩
  ·obtain⟨t,et,b,eb,hb⟩:=Paired.at a2 ev
   cases eb
   rw[hb]at hp
   injection hp with hp
   injection hp with hp
   injection hp with g1 hp
   injection hp with g2 hp
   injection hp with g3 hp
   subst g1 g2 g3
   have eg:S.ties.getD i (0,"","",0)=t:=by rw[yk,et];rfl
   rw[eg]
   refine⟨_,rfl,_,rfl,rfl,_,rfl,bB (fun g=>?_) (fun g=>?_)⟩
   ·exact⟨_,rfl,ye (by have:=yr g;injection this),rfl,Same.refl _⟩
   ·exact⟨yj (fun z=>g (ye (by rw[z]))),Same.refl _⟩
  ·refine q l H' (e1.trans e') ?_ ?_
   ·cases hx':H l with
    | none=>rfl
    | some o=>rw[e1 _ _ hx']at h0;cases h0
   ·rw[hl',hl]
    unfold NS.into
    rw[yq]
    exact congrArg (fun z=>some (HO.lst z)) (jM (fun t=>decide (t.2.2.1=x)) (fun t=>V.int t.1) S.ties)
abbrev fA:Stmt:=aS (top 30) 16
theorem mH:am ["self","name"] ["self","name"] (ag fA):=⟨rfl,rfl,rfl,by decide +kernel,rfl,by decide +kernel,by decide +kernel⟩
theorem mO {c:Cl}{f:Addr}{fd:FuncData} (F:Fun K "out_of" "Net.out_of" fA f fd) (O:Cl.Ok K c) (D_Net_check_there:Dm P w K mg base 1 c.net "check_there" ["self","name"] (fW c)) (D_Net_ties:Dm P w K mg base 1 c.net "ties" ["self"] (gE c)):
  FnOk P w K mg base CX0 2 f fd ["self","name"] (dP c NS.outOf):=by
 refine F.ok mH (fun vs H Q E h=>?_) (fun cdv A outer s H vs Q E hr h=>?_)
 ·obtain⟨n,dp,dt,S,x,rfl,_⟩:=h
  rfl
 ·obtain⟨n,dp,dt,S,x,rfl,N,hx,hz,q⟩:=h
  obtain⟨dx,h1⟩:=id N.ins
  refine⟨_,(aa (aU (aZ (pv 0) D_Net_check_there (hr.mono (by decide)) (a8 (pv 1) ad)))
 (ae (ar (aX rfl (ak (nT:=4) (js:=[1]) (N':=["number","one","other","delay","name"]) rfl rfl (by kernel_rfl)) (c6 K (bW (pv 0) D_Net_ties (hr.mono (by decide))))
  (fun _ _ _ _ _=>(gT K (n:=4) rfl (av (aj (i:=0) (show List.Nodup (["number","one","other","delay","name"]:List Str) by decide +kernel) rfl (by trivial)) (av (aj (i:=1) (show List.Nodup (["number","one","other","delay","name"]:List Str) by decide +kernel) rfl (by trivial)) (av (aj (i:=2) (show List.Nodup (["number","one","other","delay","name"]:List Str) by decide +kernel) rfl (by trivial)) (av (aj (i:=3) (show List.Nodup (["number","one","other","delay","name"]:List Str) by decide +kernel) rfl (by trivial)) bw))))))
  (fun _ _ _ _ _=>(dQ (aw ci (pv 1) (pv 4) (aD _))))
  (fun _ _ _ _ _=>(pv 0)))))),?_⟩
  refine⟨_,rfl,n,dx,_,rfl,h1,rfl,_,rfl,n,dp,dt,S,x,rfl,N,hx,?_⟩
  refine⟨_,rfl,n,dx,_,rfl,h1,rfl,n,dp,dt,S,rfl,N,hz,fun l1 H1 e1 h01 t1=>?_⟩
  obtain⟨xs,a1,a2⟩:=t1
  have hl:=Paired.length a2
  refine⟨l1,rfl,⟨_,SqL.of a1⟩,ke (fun i=>decide ((S.ties.getD i (0,"","",0)).2.1=x)) (fun i=>.int (S.ties.getD i (0,"","",0)).1) a1 (by omega) (fun i v ev=>?_) (fun i p x1 x2 x3 x4 H2 ev hp e2=>?_) (fun l H' h0 e' hl'=>?_)⟩
  ·obtain⟨t,et,b,rfl,hb⟩:=Paired.at a2 ev
   exact⟨b,_,_,_,_,rfl,hb⟩
  ·obtain⟨t,et,b,eb,hb⟩:=Paired.at a2 ev
   cases eb
   rw[hb]at hp
   injection hp with hp
   injection hp with hp
   injection hp with g1 hp
   injection hp with g2 hp
   subst g1 g2
   have eg:S.ties.getD i (0,"","",0)=t:=by rw[yk,et];rfl
   rw[eg]
   refine⟨_,rfl,_,rfl,rfl,_,rfl,bB (fun g=>?_) (fun g=>?_)⟩
   ·exact⟨_,rfl,ye (by have:=yr g;injection this),rfl,Same.refl _⟩
   ·exact⟨yj (fun z=>g (ye (by rw[z]))),Same.refl _⟩
  ·refine q l H' (e1.trans e') ?_ ?_
   ·cases hx':H l with
    | none=>rfl
    | some o=>rw[e1 _ _ hx']at h0;cases h0
   ·rw[hl',hl]
    unfold NS.outOf
    rw[yq]
    exact congrArg (fun z=>some (HO.lst z)) (jM (fun t=>decide (t.2.1=x)) (fun t=>V.int t.1) S.ties)
end
section
variable {P : Program}{w : World}{K : PySem.W.Frag}{mg : Str -> Option Value}{base : Heap}
def gH (C:Addr)(f:Str):Sp:=fun vs H Q _=>∃ (ea:Addr)(y:V),vs=[.ref ea,y]/\H ea=some (sB ea C)/\∀ dx,H dx=none->dx≠ea->Q .non (upd (upd H dx (.xd [(f,y)])) ea (uD ea C dx))
end
section
variable {P : Program}{w : World}{K : PySem.W.Frag}{mg : Str -> Option Value}{base : Heap}
end
end K52
namespace L2
open PySem PySem.Spec PyProof.Rows
section
variable {K : PySem.W.Frag}{js : List Nat}{te : TE}{σ : St}{F : Addr -> Hp -> Prop}{H : Hp}
end
end L2
namespace K52
open PySem L2
open PyProof.Rows (boot_list boot_int boot_bool boot_tuple boot_str boot_dict boot_all)
theorem lZ (x:Str):∀ zs:List Str,inV (.str x) (zs.map V.str)=decide (x∈zs)
 | []=>by simp[inV]
 | z::zs=>by
  have ih:=lZ x zs
  unfold inV at ih ⊢
  rw[yN,Af,ih]
  have:eqV (V.str x) (V.str z)=(x==z):=rfl
  rw[ze]
  simp[eqV]
  exact⟨fun h=>h.imp Eq.symm id,fun h=>h.imp Eq.symm id⟩
theorem nH (zs:List Str):(zs.map V.str).all fR=true:=by
 rw[List.all_map,zJ]
 intro z _
 rfl
structure TxtO (mg : Str -> Option Value) : Prop where
  n_len : mg "len" = none
  n_all : mg "all" = none
  n_dict : mg "dict" = none
def cB (ts:List Str)(b:Str×List Str):Bool:=!decide (b.1∈ts)&&b.2.all fun y=>decide (y∈ts)
def br (bs:List (Str×List Str))(ts:List Str):Option Str:=(bs.find? (cB ts)).map (·.1)
def readyV:Option Str->V
 | none=>.non
 | some x=>.str x
def rj (H:Hp)(d:Addr)(bs:List (Str×List Str)):Prop:=∃ kvs,H d=some (.dK kvs)/\Paired (fun (kv:Key×V) (b:Str×List Str)=>kv.1=Sum.inr b.1/\∃ l,kv.2=.ref l/\H l=some (.lst (b.2.map V.str))) kvs bs
theorem kK {H:Hp}{x:Str}:∀ {kvs:List (Key×V)}{bs:List (Str×List Str)},Paired (fun (kv:Key×V) (b:Str×List Str)=>kv.1=Sum.inr b.1/\∃ l,kv.2=.ref l/\H l=some (.lst (b.2.map V.str))) kvs bs->(bs.map (·.1)).Nodup->∀ {i:Nat}{b:Str×List Str},bs[i]?=some b->b.1=x->∃ l,b7 kvs (Sum.inr x)=some (.ref l)/\kvs[i]?=some (Sum.inr x,.ref l)/\H l=some (.lst (b.2.map V.str))
 | _,_,.nil,_,i,b,h,_=>by simp at h
 | kv::kvs,b0::bs,.cons ⟨e,l,el,hl⟩ r,nd,i,b,h,hx=>by
  have nd:=zt.mp (show (b0.1::bs.map (·.1)).Nodup from nd)
  cases i with
  | zero=>
   have h:b0=b:=by simpa using h
   subst h
   refine⟨l,by rw[cv (by rw[e,hx]),el],?_,hl⟩
   show some kv=_
   rw[<- hx,<- e,<- el]
  | succ i=>
   have h:bs[i]?=some b:=by simpa using h
   obtain⟨l',h1,h2,h3⟩:=kK r nd.2 h hx
   refine⟨l',?_,by simpa using h2,h3⟩
   rw[cw (by rw[e];exact fun z=>nd.1 (by rw[Sum.inr.inj z,<- hx];exact yD (yh h)))]
   exact h1
section
variable {P : Program}{w : World}{K : PySem.W.Frag}{mg : Str -> Option Value}{base : Heap}
def dw:Sp:=fun vs H Q _=>∃ (d t:Addr)(bs:List (Str×List Str))(ts:List Str),vs=[.ref d,.ref t]/\rj H d bs/\H t=some (.lst (ts.map V.str))/\(bs.map (·.1)).Nodup/\(∀ b∈bs,b.2.length<=1000)/\∀ H',Same H H'->Q (readyV (br bs ts)) H'
abbrev eh:Stmt:=top 26
theorem sc_first_ready:am ["begins","told","name"] ["begins","told"] (ag eh):=⟨rfl,rfl,rfl,by decide +kernel,rfl,by decide +kernel,by decide +kernel⟩
theorem lL {f:Addr}{fd:FuncData} (F:Fun K "first_ready" "first_ready" eh f fd) (T:TxtO mg):FnOk P w K mg base CX0 1 f fd ["begins","told"] dw:=by
 refine F.ok sc_first_ready (fun vs H Q E h=>?_) (fun cdv A outer s H vs Q E hr h=>?_)
 ·obtain⟨d,t,bs,ts,rfl,_⟩:=h
  rfl
 ·obtain⟨d,t,bs,ts,rfl,⟨kvs,hd,hp⟩,ht,nd,hb,q⟩:=h
  have ND:=sc_first_ready.nd
  have hl:=Paired.length hp
  refine⟨_,(aa (oF yV rfl (gL (pv 0)) (aj (i:=2) ND rfl (by trivial))
  (ae (ba (PW.pt (iC (aw (rX K) (pv 2) (pv 1) (by with_unfolding_all rfl)) (fC (d6 (aA (jP K rfl) rfl T.n_all boot_all (a8 (aX rfl (ak (nT:=1) (js:=[1]) (N':=["one","told"]) rfl rfl (by kernel_rfl)) (c6 K (bL (bc hr) (pv 0) (pv 2) (fun _ _=>rfl)))
  (fun _ _ _ _ _=>(aj (i:=0) (show List.Nodup (["one","told"]:List Str) by decide +kernel) rfl (by trivial)))
  (fun _ _ _ _ _=>aM)
  (fun _ _ _ _ _=>(fE (inK K) (pv 0) (pv 1) (by with_unfolding_all rfl)))) ad))))))
  (ae (ar (pv 2)))
  aE)))
 (ae (ar bD))),?_⟩
  refine⟨_,rfl,d,kvs,rfl,hd,fun o M hM=>?_⟩
  rw[sw]
  refine md (kvs:=kvs) (fun i σ H2=>∃ ov,σ=[some (.ref d),some (.ref t),ov]/\Same (upd H d (.frz o (.dK kvs))) H2/\∀ b∈bs.take i,cB ts b=false) ⟨none,rfl,Same.refl _,by simp⟩ (fun i σ H2 _ ⟨_,_,e,_⟩=>e _ _ a9) (fun i kv σ H2 ek ⟨ov,es,e,hh⟩=>?_) (fun σ H2 ⟨ov,es,e,hh⟩=>?_)
  ·subst es
   obtain⟨b,eb,ekv,l,el,hl'⟩:=Paired.at hp ek
   obtain⟨l2,hv,hkv,hl2⟩:=kK hp nd eb rfl
   have nlt:∀ {x:Addr}{xs:List V},H x=some (.lst xs)->upd H d (.frz o (.dK kvs)) x=some (.lst xs):=fun {x xs} hx=>by rw[af (bn hx hd (fun z=>nomatch z))];exact hx
   have ht2:=e _ _ (nlt ht)
   have hb2:=e _ _ (nlt hl2)
   have bl:=hb b (yh eb)
   have kvk:kV kv.1=.str b.1:=by rw[ekv];rfl
   rw[kvk]
   have tk:bs.take (i+1)=bs.take i++[b]:=by rw[za,eb];rfl
   have skip:∀ H3,Same H2 H3->cB ts b=false->∃ ov,([some (.ref d),some (.ref t),some (.str b.1)]:St)=[some (.ref d),some (.ref t),ov]/\Same (upd H d (.frz o (.dK kvs))) H3/\∀ b∈bs.take (i+1),cB ts b=false:=fun H3 e3 hr'=>by
    refine⟨_,rfl,e.trans e3,fun b' hb'=>?_⟩
    rw[tk]at hb'
    rcases yE.mp hb' with z|z
    ·exact hh b' z
    ·rw[yL.mp z];exact hr'
   refine⟨_,rfl,_,rfl,t,_,rfl,.inl (SqL.of ht2),rfl,nH ts,_,rfl,?_⟩
   rw[if_pos rfl,lZ]
   by_cases hin:b.1∈ts
   ·rw[ye hin]
    exact bv (bv (skip H2 (Same.refl _) (by unfold cB;rw[ye hin];rfl)))
   ·rw[yj hin]
    refine bA ?_
    refine⟨_,rfl,_,rfl,d,.ref l2,rfl,?_,l2,rfl,⟨_,SqL.of hb2⟩,fO (fun j=>.bl (decide (b.2.getD j ""∈ts))) hb2 (by rw[y9];exact bl) (fun j x H3 ex e3=>?_) (fun lp H3 h03 e3 hlp=>?_)⟩
    ·exact hv▸.inl ⟨kvs,Sum.inr b.1,.inr ⟨o,e _ _ a9⟩,rfl,rfl⟩
    ·obtain⟨y,ey,rfl⟩:∃ y,b.2[j]?=some y/\x=.str y:=by
      rw[yf]at ex
      cases hm:b.2[j]? with
      | none=>rw[hm]at ex;cases ex
      | some m=>rw[hm]at ex;exact⟨m,rfl,by simpa using ex.symm⟩
     have gd:b.2.getD j ""=y:=by rw[yk,ey];rfl
     refine⟨_,rfl,_,rfl,t,_,rfl,.inl (SqL.of (e3 _ _ ht2)),rfl,nH ts,?_,Same.refl _⟩
     rw[if_neg yv,lZ,gd]
    ·have hall:(List.range (b.2.map V.str).length).map (fun j=>V.bl (decide (b.2.getD j ""∈ts)))=(b.2.map fun y=>decide (y∈ts)).map V.bl:=by
      rw[y9,yq]
      apply List.ext_getElem
      ·simp
      ·intro j h1 h2
       simp at h1
       simp[yk,h1]
     rw[hall]at hlp
     refine⟨lp,_,rfl,SqL.of hlp,_,rfl,?_⟩
     have hrb:cB ts b=((b.2.map fun y=>decide (y∈ts)).all id):=by
      unfold cB
      rw[yj hin,List.all_map]
      rfl
     cases hr2:(b.2.map fun y=>decide (y∈ts)).all id with
     | false=>exact bv (skip H3 e3 (by rw[hrb,hr2]))
     | true=>
      refine bA ⟨_,rfl,d,o,kvs,hM,e3 _ _ (e _ _ a9),?_⟩
      have:br bs ts=some b.1:=by
       unfold br
       have:bs.find? (cB ts)=some b:=by
        rw[Ak]
        obtain⟨hi,e2⟩:=yd.mp eb
        refine⟨by rw[hrb,hr2],i,hi,e2,fun j hj=>?_⟩
        rw[hh _ (zD.mpr ⟨j,by omega,rfl⟩)]
        rfl
       rw[this]
       rfl
      have q':=q _ (bV hd (e.trans e3))
      rw[this]at q'
      exact q'
  ·subst es
   refine⟨d,o,kvs,hM,e _ _ a9,?_⟩
   have:br bs ts=none:=by
    unfold br
    have:bs.find? (cB ts)=none:=by
     rw[zc]
     intro b hbm
     rw[hl,zh]at hh
     rw[hh b hbm]
     exact yv
    rw[this]
    rfl
   have q':=q _ (bV hd e)
   rw[this]at q'
   exact q'
end
end K52
namespace L2
open PySem PySem.Spec PyProof.Rows
section
variable {K : PySem.W.Frag}{js : List Nat}{te : TE}{σ : St}{F : Addr -> Hp -> Prop}{H : Hp}
theorem sI {pr:Key×V->V}{o:Obj}{d:Addr}{kvs:List (Key×V)} (hfr:H d=some (.frz o (.dK kvs))) (hz:kvs.length<=1000)
  (hs:∀ (i:Nat)(kv:Key×V) H2,kvs[i]?=some kv->Same H H2->te (some (pr kv)::bz σ js) H2 fun v H5=>Same H2 H5/\∃ t e,v=.ref t/\H2 t=none/\H2 e=none/\H5 t=some (.tup [pr kv,.ref e])/\H5 e=some (.lst []))
  (hd:∀ l H' (ts ls:List Addr),H l=none->Same H H'->H' l=some (.lst (ts.map V.ref))->ts.length=kvs.length->ls.length=kvs.length->ls.Nodup->(∀ (i:Nat) kv t e,kvs[i]?=some kv->ts[i]?=some t->ls[i]?=some e->H' t=some (.tup [pr kv,.ref e])/\H' e=some (.lst [])/\H e=none/\e≠l)->F l H'):bi 1 js (bd 0) fU te σ F (Itp pr o d) H:=by
 intro l hl0
 refine⟨fun i m σ' H2=>m=kvs.length - i/\i<=kvs.length/\(∃ o1,σ'=o1::bz σ js)/\Same H H2/\∃ ts ls:List Addr,ts.length=i/\ls.length=i/\H2 l=some (.lst (ts.map V.ref))/\ls.Nodup/\∀ (j:Nat) kv t e,kvs[j]?=some kv->ts[j]?=some t->ls[j]?=some e->H2 t=some (.tup [pr kv,.ref e])/\H2 e=some (.lst [])/\H e=none/\e≠l,
  ⟨kvs.length,by simp,yP _,⟨none,rfl⟩,az (Same.refl _) hl0,[],[],rfl,rfl,a9,List.nodup_nil,fun j kv t e _ h=>by simp at h⟩,?_⟩
 rintro i m σ' H2 ⟨rfl,hi,⟨o1,rfl⟩,e,ts,ls,htl,hll,hl,nd,hp⟩
 have q:=e _ _ hfr
 by_cases hlt:i<kvs.length
 ·refine .inr ⟨⟨kvs,kvs[i],q,by simp[hlt]⟩,fun x H3 y=>?_⟩
  obtain⟨rfl,y⟩:=y
  obtain⟨kv,e1,rfl⟩:=y kvs q
  refine⟨fun _=>False,fun v H5=>Same H3 H5/\∃ t e,v=.ref t/\H3 t=none/\H3 e=none/\H5 t=some (.tup [pr kv,.ref e])/\H5 e=some (.lst []),fun H4 p4=>p4.elim,fun v H5 ⟨e5,t,ea,ev,ht0,he0,ht,he⟩=>?_,hs i kv H3 e1 e⟩
  subst ev
  have ntl:t≠l:=(ah hl ht0).symm
  have nel:ea≠l:=(ah hl he0).symm
  have nin:ea∉ls:=fun hm=>by
   obtain⟨j,hj⟩:=zW.mp hm
   have hjl:=(yd.mp hj).1
   obtain⟨h1,h2,_⟩:=hp j kvs[j] ts[j] ea (yb (by omega)) (yb (by omega)) hj
   rw[he0]at h2
   cases h2
  refine⟨_,e5 _ _ hl,by rw[y9,htl];exact yH hi (yH hz (by decide)),_,?_,rfl,hlt,⟨_,rfl⟩,au (e.trans e5) hl0,ts++[t],ls++[ea],by simp[htl],by simp[hll],by rw[a9,yI];rfl,?_,fun j kv' t' e' h1 h2 h3=>?_⟩
  ·omega
  ·rw[Az]
   exact⟨nd,by simp,fun a ha b hb=>by rw[yL.mp hb];exact fun z=>nin (z▸ha)⟩
  ·by_cases c:j<i
   ·rw[yK (by omega)]at h2
    rw[yK (by omega)]at h3
    obtain⟨g1,g2,g3,g4⟩:=hp j kv' t' e' h1 h2 h3
    refine⟨?_,?_,g3,g4⟩
    ·rw[af (fun z=>by rw[z,hl]at g1;cases g1)];exact e5 _ _ g1
    ·rw[af g4];exact e5 _ _ g2
   ·have hj:j=i:=by
     have:=(yd.mp h2).1
     rw[yu,htl]at this
     simp at this
     omega
    subst hj
    rw[yF (by omega),htl,Nat.sub_self]at h2
    rw[yF (by omega),hll,Nat.sub_self]at h3
    have h2:t=t':=by simpa using h2
    have h3:ea=e':=by simpa using h3
    subst h2 h3
    rw[e1]at h1
    cases h1
    refine⟨by rw[af ntl];exact ht,by rw[af nel];exact he,e.free he0,nel⟩
 ·have ei:i=kvs.length:=by omega
  subst ei
  exact .inl ⟨⟨kvs,q,yi _⟩,hd l H2 ts ls hl0 e hl htl hll nd hp⟩
end
theorem ce:∀ (more acc:List (Key×V)),((acc++more).map (·.1)).Nodup->eF acc more=acc++more
 | [],acc,_=>by rw[zp];rfl
 | p::r,acc,h=>by
  have h0:b7 acc p.1=none:=by
   cases hs:b7 acc p.1 with
   | none=>rfl
   | some v=>
    unfold b7 at hs
    obtain⟨q,hq,_⟩:=yG.mp hs
    have hm:=zk hq
    have hk:q.1=p.1:=yr (by have:=zY hq;exact this)
    rw[yI,Az]at h
    exact absurd hk (h.2.2 q.1 (yD hm) p.1 (by simp))
  show eF (cT acc p.1 p.2) r=_
  rw[dF _ h0,ce r _ (by rw[Ab];exact h),Ab]
  rfl
end L2
namespace K52
open PySem L2
open PyProof.Rows (boot_list boot_int boot_bool boot_tuple boot_str boot_dict boot_all)
theorem qy:∀ {xs ys:List Str},xs.Nodup->(∀ x∈xs,x∈ys)->xs.length<=ys.length
 | [],ys,_,_=>yP _
 | x::xs,ys,nd,h=>by
  have nd:=zt.mp nd
  have hx:=h x (by simp)
  have:=qy (ys:=ys.erase x) nd.2 fun y hy=>(List.mem_erase_of_ne (fun z:y=x=>nd.1 (by rw[<- z];exact hy))).mpr (h y (by simp[hy]))
  rw[List.length_erase_of_mem hx]at this
  have h1:0<ys.length:=List.length_pos_of_mem hx
  rw[yY]
  omega
def bP (bs:List (Str×List Str)):Nat->List Str
 | 0=>[]
 | k+1=>bP bs k++[(br bs (bP bs k)).getD ""]
structure mQ (bs : List (Str × List Str)) : Prop where
  nd : (bs.map (·.1)).Nodup
  ends : ∀ b ∈ bs, ∀ y ∈ b.2, y ∈ bs.map (·.1)
  rk : ∃ rank : Str -> Nat, ∀ b ∈ bs, ∀ y ∈ b.2, rank y < rank b.1
theorem fB {bs:List (Str×List Str)}(A:mQ bs){ts:List Str}(hlt:ts.length<bs.length):∃ x,br bs ts=some x/\x∈bs.map (·.1)/\x∉ts:=by
 obtain⟨rank,hrk⟩:=A.rk
 have one:∃ b∈bs,b.1∉ts:=by
  by_cases h:∃ b∈bs,b.1∉ts
  ·exact h
  ·have hs:∀ x∈bs.map (·.1),x∈ts:=fun x hx=>by
    obtain⟨b,hb,rfl⟩:=yw.mp hx
    by_cases hh:b.1∈ts
    ·exact hh
    ·exact absurd ⟨b,hb,hh⟩ h
   have:=qy A.nd hs
   rw[y9]at this
   omega
 have key:∀ n,∀ b∈bs,b.1∉ts->rank b.1=n->∃ b'∈bs,cB ts b'=true:=by
  intro n
  induction n using Nat.strongRecOn with
  | ind n ih=>
   intro b hb hbt hn
   by_cases hall:∀ y∈b.2,y∈ts
   ·refine⟨b,hb,?_⟩
    unfold cB
    rw[yj hbt]
    simpa using hall
   ·obtain⟨y,hy⟩:=Classical.not_forall.mp hall
    obtain⟨hy1,hy2⟩:=Classical.not_imp.mp hy
    obtain⟨b',hb',e'⟩:=yw.mp (A.ends b hb y hy1)
    exact ih (rank y) (by rw[<- hn];exact hrk b hb y hy1) b' hb' (by rw[e'];exact hy2) (by rw[e'])
 obtain⟨b,hb,hbt⟩:=one
 obtain⟨b',hb',hr'⟩:=key _ b hb hbt rfl
 cases hf:bs.find? (cB ts) with
 | none=>exact absurd hr' (by have:=zc.mp hf b' hb';simpa using this)
 | some c=>
  have hc:=zY hf
  refine⟨c.1,by unfold br;rw[hf];rfl,yD (zk hf),fun z=>?_⟩
  unfold cB at hc
  rw[ye z]at hc
  cases hc
theorem jF {bs:List (Str×List Str)}(A:mQ bs):∀ k,k<=bs.length->(bP bs k).Nodup/\(bP bs k).length=k
 | 0,_=>⟨List.nodup_nil,rfl⟩
 | k+1,h=>by
  obtain⟨h1,h2⟩:=jF A k (by omega)
  obtain⟨x,e,hx,hn⟩:=fB A (ts:=bP bs k) (by omega)
  refine⟨?_,by simp[bP,h2]⟩
  show (bP bs k++[(br bs (bP bs k)).getD ""]).Nodup
  rw[e,Az]
  exact⟨h1,by simp,fun a ha b hb=>by rw[yL.mp hb];exact fun z=>hn (by have z:a=x:=z;rw[<- z];exact ha)⟩
def cE (ts:List Tie)(x:Str):List Str:=(ts.filter fun t=>decide (t.2.2.1=x)).map (·.2.1)
def bE (S:NS):List (Str×List Str):=S.names.map fun x=>(x,cE S.ties x)
theorem rg (ts:List Tie)(t:Tie)(x:Str):cE (ts++[t]) x=cE ts x++(if t.2.2.1=x then [t.2.1] else []):=by
 unfold cE
 rw[AO,yI]
 congr 1
 by_cases h:t.2.2.1=x
 ·simp[h]
 ·simp[h]
structure BegL (H : Hp) (d : Addr) (names : List Str) (ls : List Addr) (f : Str -> List Str) : Prop where
  dict : H d = some (.dK ((names.zip ls).map fun p => (Sum.inr p.1, V.ref p.2)))
  lists : ∀ (i : Nat) x e, names[i]? = some x -> ls[i]? = some e -> H e = some (.lst ((f x).map V.str))
theorem BegL.at {H:Hp}{d:Addr}{names:List Str}{ls:List Addr}{f:Str->List Str} (h:BegL H d names ls f) (hl:ls.length=names.length):rj H d (names.map fun x=>(x,f x)):=by
 refine⟨_,h.dict,?_⟩
 have:∀ (ns:List Str)(as:List Addr),as.length=ns.length->(∀ (i:Nat) x e,ns[i]?=some x->as[i]?=some e->H e=some (.lst ((f x).map V.str)))->Paired (fun (kv:Key×V) (b:Str×List Str)=>kv.1=Sum.inr b.1/\∃ l,kv.2=.ref l/\H l=some (.lst (b.2.map V.str))) ((ns.zip as).map fun p=>(Sum.inr p.1,V.ref p.2)) (ns.map fun x=>(x,f x)):=by
  intro ns
  induction ns with
  | nil=>intro as _ _;exact .nil
  | cons x ns ih=>
   intro as hl h
   cases as with
   | nil=>cases hl
   | cons e as=>exact .cons ⟨rfl,e,rfl,h 0 x e rfl rfl⟩ (ih as (by simpa using hl) fun i x' e' h1 h2=>h (i+1) x' e' (by simpa using h1) (by simpa using h2))
 exact this names ls hl h.lists
theorem wA {names:List Str}{ls:List Addr} (nd:names.Nodup) {i:Nat}{x:Str}{e:Addr} (hx:names[i]?=some x) (he:ls[i]?=some e):b7 ((names.zip ls).map fun p=>((Sum.inr p.1:Key),V.ref p.2)) (Sum.inr x)=some (.ref e):=by
 induction names generalizing ls i with
 | nil=>simp at hx
 | cons y names ih=>
  have nd:=zt.mp nd
  cases ls with
  | nil=>simp at he
  | cons a ls=>
   cases i with
   | zero=>
    have hx:y=x:=by simpa using hx
    have he:a=e:=by simpa using he
    subst hx he
    exact cv rfl
   | succ i=>
    have hx:names[i]?=some x:=by simpa using hx
    rw[List.zip_cons_cons,yN,cw (fun z=>nd.1 (by have z:y=x:=Sum.inr.inj z;rw[z];exact yh hx))]
    exact ih nd.2 hx (by simpa using he)
theorem jE {α β:Type}{F:α->β->Prop}:∀ {vs:List α}{ts:List β},vs.length=ts.length->(∀ (i:Nat) v t,vs[i]?=some v->ts[i]?=some t->F v t)->Paired F vs ts
 | [],[],_,_=>.nil
 | v::vs,t::ts,h,k=>.cons (k 0 v t rfl rfl) (jE (by simpa using h) fun i v' t' h1 h2=>k (i+1) v' t' (by simpa using h1) (by simpa using h2))
 | [],_::_,h,_=>by cases h
 | _::_,[],h,_=>by cases h
theorem mz (ts:List Tie)(x:Str):(cE ts x).length<=ts.length:=by
 unfold cE
 rw[y9]
 exact z9 _ _
section
variable {P : Program}{w : World}{K : PySem.W.Frag}{mg : Str -> Option Value}{base : Heap}
def hV (c:Cl):Sp:=fun vs H Q _=>∃ (n dp dt:Addr)(S:NS),vs=[.ref n]/\NetAt c H n dp dt S/\mQ (bE S)/\(∀ t∈S.ties,t.2.2.1∈S.names)/\S.ties.length<=1000/\S.posts.length<=1000/\∀ l H',Same H H'->H l=none->H' l=some (.lst ((bP (bE S) S.names.length).map V.str))->Q (.ref l) H'
abbrev eB:Stmt:=aS (top 30) 17
theorem sc_Net_ordered:am ["self","begins","number","one","other","delay","told"] ["self"] (ag eB):=⟨rfl,rfl,rfl,by decide +kernel,rfl,by decide +kernel,by decide +kernel⟩
theorem lQ {c:Cl}{f:Addr}{fd:FuncData} (F:Fun K "ordered" "Net.ordered" eB f fd) (O:Cl.Ok K c) (T:TxtO mg) (D_Net_ties:Dm P w K mg base 1 c.net "ties" ["self"] (gE c)) (D_first_ready:Df P w K mg base 1 "first_ready" ["begins","told"] dw):FnOk P w K mg base CX0 2 f fd ["self"] (hV c):=by
 refine F.ok sc_Net_ordered (fun vs H Q E h=>?_) (fun cdv A outer s H vs Q E hr h=>?_)
 ·obtain⟨n,dp,dt,S,rfl,_⟩:=h
  rfl
 ·obtain⟨n,dp,dt,S,rfl,N,ac,hends,htz,hpz,q⟩:=h
  have ND:=sc_Net_ordered.nd
  obtain⟨dx,h1⟩:=id N.ins
  obtain⟨kvs,hd,hp⟩:=id N.posts
  have hl:=Paired.length hp
  have nlen:S.names.length=S.posts.length:=by unfold NS.names;rw[y9]
  have bnm:(bE S).map (·.1)=S.names:=by
   unfold bE
   rw[yq]
   exact (AD _)
  have nnd:S.names.Nodup:=by rw[<- bnm];exact ac.nd
  refine⟨_,(aa (ax (i:=1) ND rfl (by trivial) (bY (bu rfl) rfl T.n_dict boot_dict (a8 (eS rfl (ak (nT:=1) (js:=[]) (N':=["name"]) rfl rfl (by kernel_rfl)) (gL (eK K (pv 0) rfl))
  (fun _ _ _ _ _=>(aj (i:=0) (show List.Nodup (["name"]:List Str) by decide +kernel) rfl (by trivial)))
  (fun _ _ _ _ _=>aM)
  (fun _ _ _ _ _=>(bC (a8 (pv 0) (a8 (bg ad) ad))))) ad)))
 (aa (bN yV rfl (c6 K (bW (pv 0) D_Net_ties (hr.mono (by decide)))) (gT K (n:=4) rfl (av (aj (i:=2) ND rfl (by trivial)) (av (aj (i:=3) ND rfl (by trivial)) (av (aj (i:=4) ND rfl (by trivial)) (av (aj (i:=5) ND rfl (by trivial)) bw)))))
  (ae (aU (bmK K zA Ae Ad dm (bL (bc hr) (pv 1) (pv 4) (fun _ _=>rfl)) (a8 (pv 3) ad)))))
 (aa (ax (i:=6) ND rfl (by trivial) (bg ad))
 (aa (iV yV (aw n5 (aA (gU K) rfl T.n_len boot_len (a8 (pv 6) ad)) (aA gA rfl T.n_len boot_len (a8 (pv 1) ad)) (aD _))
  (ae (aU (bmK K zA Ae Ad dm (pv 6) (a8 (aq D_first_ready (hr.mono (by decide)) rfl (a8 (pv 1) (a8 (pv 6) ad))) ad)))))
 (ae (ar (pv 6))))))),?_⟩
  refine⟨_,rfl,n,c.net,dx,_,_,rfl,h1,O.cn,O.fp,rfl,dp,kvs,rfl,hd,fun o M hM=>?_⟩
  rw[sw]
  refine sI a9 (by omega) (fun i kv H2 ek e2=>?_) (fun l H' ts ls h0 e' hl' tl ll lnd hv=>?_)
  ·exact⟨_,rfl,(by show 0<=sizeLine;decide),fun e H3 e3 h3 he=>⟨(by show 2<=sizeLine;decide),fun t H4 e4 h4 ht=>⟨e3.trans e4,t,e,rfl,e3.free h4,h3,ht,e4 _ _ he⟩⟩⟩
  ·have nl:l≠dp:=fun z=>by rw[z,a9]at h0;cases h0
   refine⟨dp,o,kvs,hM,e' _ _ a9,?_⟩
   have eG:Same H (upd H' dp (.dK kvs)):=bV hd e'
   have zl:(S.names.zip ls).length=S.names.length:=by rw[List.length_zip];omega
   have kvk:∀ (i:Nat) kv,kvs[i]?=some kv->∃ x,S.names[i]?=some x/\kV kv.1=.str x:=fun i kv ek=>by
    obtain⟨p,ep,e1,_⟩:=Paired.at hp ek
    exact⟨p.1,by unfold NS.names;rw[yf,ep];rfl,by rw[e1];rfl⟩
   have lsN:∀ e∈ls,H' e=some (.lst [])/\upd H dp (.frz o (.dK kvs)) e=none/\e≠l:=fun e hm=>by
    obtain⟨i,hi⟩:=zW.mp hm
    have hil:=(yd.mp hi).1
    obtain⟨_,g2,g3,g4⟩:=hv i kvs[i] ts[i] e (yb (by omega)) (yb (by omega)) hi
    exact⟨g2,g3,g4⟩
   have lsd:∀ e∈ls,e≠dp/\H e=none:=fun e hm=>by
    obtain⟨_,g3,_⟩:=lsN e hm
    have ne:e≠dp:=fun z=>by rw[z,a9]at g3;cases g3
    exact⟨ne,by rw[af ne]at g3;exact g3⟩
   refine⟨l,(S.names.zip ls).map fun p=>(Sum.inr p.1,V.ref p.2),rfl,⟨ts.map V.ref,by rw[af nl];exact hl',jE (by rw[y9,y9,zl];omega) fun i v kv2 h2 h3=>?_⟩,by rw[y9,zl];omega,fun d G1 e1 h1' hd1=>?_⟩
   ·rw[yf]at h2 h3
    obtain⟨t,et,rfl⟩:=yG.mp h2
    obtain⟨⟨x,e⟩,exe,rfl⟩:=yG.mp h3
    obtain⟨hx,he⟩:=AH.mp exe
    have hil:=(yd.mp et).1
    obtain⟨g1,_⟩:=hv i kvs[i] t e (yb (by omega)) et he
    obtain⟨x',hx',ekv⟩:=kvk i kvs[i] (yb (by omega))
    rw[hx]at hx'
    cases hx'
    refine⟨t,rfl,?_⟩
    rw[af (fun z=>by rw[z,e' _ _ a9]at g1;cases g1),g1]
    show some (HO.tup [kV kvs[i].1,V.ref e])=_
    rw[ekv]
    rfl
   rw[ce _ [] (by
    rw[zb,yq]
    have:((fun x:Key×V=>x.1) ∘ fun p:Str×Addr=>((Sum.inr p.1:Key),V.ref p.2))=(fun x:Str=>(Sum.inr x:Key)) ∘ Prod.fst:=rfl
    rw[this,<- yq,List.map_fst_zip (by omega)]
    rw[yU,zV]
    exact (yU.mp nnd).imp fun h z=>h (Sum.inr.inj z)),zb]at hd1
   have e01:=eG.trans e1
   have B1:BegL G1 d S.names ls (cE []):=⟨hd1,fun i x e hx he=>e1 _ _ (by rw[af (lsd e (yh he)).1];exact (lsN e (yh he)).1)⟩
   have hN1:=e01 _ _ h1
   refine⟨_,rfl,n,dx,_,rfl,hN1,rfl,n,dp,dt,S,rfl,N.mono e01,htz,fun lt G2 e2 h2 tt=>?_⟩
   obtain⟨xs,hxs,hxp⟩:=tt
   have hxl:=Paired.length hxp
   have B2:BegL G2 d S.names ls (cE []):=⟨e2 _ _ B1.dict,fun i x e hx he=>e2 _ _ (B1.lists i x e hx he)⟩
   have lsG:∀ e∈ls,∃ ys,G1 e=some (.lst ys):=fun e hm=>by
    obtain⟨i,hi⟩:=zW.mp hm
    have hil:=(yd.mp hi).1
    exact⟨_,B1.lists i S.names[i] e (yb (by omega)) hi⟩
   have ltn:lt∉ls:=fun hm=>by
    obtain⟨ys,hy⟩:=lsG lt hm
    rw[h2]at hy
    cases hy
   have oth:∀ {a:Addr}{u:HO},G2 a=some u->(∀ ys,u≠.lst ys)->a∉ls:=fun {a u} ha hu hm=>by
    obtain⟨ys,hy⟩:=lsG a hm
    rw[e2 _ _ hy]at ha
    cases ha
    exact hu ys rfl
   have dnl:d∉ls:=oth B2.dict (fun ys z=>nomatch z)
   have sameH:∀ Gj:Hp,(∀ a u,a∉ls->G2 a=some u->Gj a=some u)->Same H Gj:=fun Gj k a u ha=>k a u (fun hm=>by rw[(lsd a hm).2]at ha;cases ha) (e2 _ _ (e01 _ _ ha))
   refine⟨lt,rfl,⟨_,SqL.of hxs⟩,c8 (K:=K) (xs:=xs) (fun j σ Gj=>(∃ o2 o3 o4 o5,σ=[some (.ref n),some (.ref d),o2,o3,o4,o5,none])/\(∀ a u,a∉ls->G2 a=some u->Gj a=some u)/\∀ (i:Nat) x e,S.names[i]?=some x->ls[i]?=some e->Gj e=some (.lst ((cE (S.ties.take j) x).map V.str)))
    ⟨⟨_,_,_,_,rfl⟩,fun a u _ h=>h,fun i x e hx he=>B2.lists i x e hx he⟩ (fun j σ Gj _ h=>SqL.of (h.2.1 _ _ ltn hxs)) ?_ ?_⟩
   ·rintro j v σ Gj ex ⟨⟨o2,o3,o4,o5,rfl⟩,kj,bj⟩
    obtain⟨t,et,b,rfl,hb⟩:=Paired.at hxp ex
    have tk:S.ties.take (j+1)=S.ties.take j++[t]:=by rw[za,et];rfl
    have hj:=(yd.mp et).1
    obtain⟨i,hi⟩:=zW.mp (hends t (yh et))
    have hil:=(yd.mp hi).1
    obtain⟨e,he⟩:∃ e,ls[i]?=some e:=⟨_,yb (by omega)⟩
    have hej:=bj i _ e hi he
    refine⟨b,_,rfl,SqT.of (kj _ _ (oth hb (fun ys z=>nomatch z)) hb),rfl,_,_,rfl,_,_,rfl,_,_,rfl,_,[],rfl,rfl,?_⟩
    refine⟨_,rfl,_,rfl,d,.ref e,rfl,wA nnd hi he▸DGet.k (k:=Sum.inr t.2.2.1) (kj _ _ dnl B2.dict),.inl ⟨rfl,_,SqL.of hej⟩,_,rfl,e,_,_,rfl,rfl,hej,?_,⟨_,_,_,_,rfl⟩,fun a u ha hu=>?_,fun i' x' e' hx' he'=>?_⟩
    ·have h3:=mz (S.ties.take j) t.2.2.1
     rw[yO]at h3
     rw[y9]
     show (cE (S.ties.take j) t.2.2.1).length<2 ^ 24
     omega
    ·rw[af (fun z=>ha (by rw[z];exact yh he))]
     exact kj a u ha hu
    ·rw[tk,rg]
     by_cases hii:i'=i
     ·subst hii
      rw[hi]at hx'
      cases hx'
      rw[he]at he'
      cases he'
      rw[a9,if_pos rfl,yI]
      rfl
     ·have hxx:t.2.2.1≠x':=fun z=>hii (by
       have h4:=(yd.mp hx').1
       have h5:S.names[i']=S.names[i]:=by
        rw[(yd.mp hx').2,(yd.mp hi).2,z]
       exact (List.getElem_inj nnd).mp h5)
      have hee:e'≠e:=fun z=>hii (by
       have h4:=(yd.mp he').1
       have h5:ls[i']=ls[i]:=by
        rw[(yd.mp he').2,(yd.mp he).2,z]
       exact (List.getElem_inj lnd).mp h5)
      rw[af hee,if_neg hxx,zp]
      exact bj i' x' e' hx' he'
   ·rintro σ Gj ⟨⟨o2,o3,o4,o5,rfl⟩,kj,bj⟩
    rw[hxl,zh]at bj
    have B3:BegL Gj d S.names ls (cE S.ties):=⟨kj _ _ dnl B2.dict,bj⟩
    have eHj:=sameH Gj kj
    refine⟨(by show 0<=sizeLine;decide),fun lo G3 e3 h3 hlo=>?_⟩
    have bsl:(bE S).length=S.names.length:=by unfold bE;rw[y9]
    refine⟨fun m σ Gk=>∃ k,(∃ o2 o3 o4 o5,σ=[some (.ref n),some (.ref d),o2,o3,o4,o5,some (.ref lo)])/\k<=S.names.length/\m=S.names.length - k/\(∀ a u,a≠lo->G3 a=some u->Gk a=some u)/\Gk lo=some (.lst ((bP (bE S) k).map V.str)),⟨_,0,⟨_,_,_,_,rfl⟩,yP _,rfl,fun a u _ h=>h,hlo⟩,?_⟩
    rintro m σ Gk ⟨k,⟨o2,o3,o4,o5,rfl⟩,hk,rfl,kk,hlk⟩
    obtain⟨on,ol⟩:=jF ac k (by omega)
    have keep3:∀ {a:Addr}{u:HO},Gj a=some u->Gk a=some u:=fun {a u} ha=>kk a u (ah ha h3) (e3 _ _ ha)
    have B4:BegL Gk d S.names ls (cE S.ties):=⟨keep3 B3.dict,fun i x e hx he=>keep3 (B3.lists i x e hx he)⟩
    refine⟨_,rfl,lo,_,rfl,.inl (SqL.of hlk),_,rfl,d,_,rfl,B4.dict,_,_,rfl,rfl,_,rfl,bB (fun g=>?_) (fun g=>?_)⟩
    ·have g:k<S.names.length:=by
      have:=yr g
      rw[y9,y9,zl,ol]at this
      omega
     obtain⟨x,ex,hx,hn⟩:=fB ac (ts:=bP (bE S) k) (by omega)
     refine⟨fun σ' G'=>∃ m',m'<S.names.length - k/\∃ k,(∃ o2 o3 o4 o5,σ'=[some (.ref n),some (.ref d),o2,o3,o4,o5,some (.ref lo)])/\k<=S.names.length/\m'=S.names.length - k/\(∀ a u,a≠lo->G3 a=some u->G' a=some u)/\G' lo=some (.lst ((bP (bE S) k).map V.str)),fun σ' H' h=>h,?_⟩
     refine⟨_,rfl,.inl ⟨rfl,_,SqL.of hlk⟩,_,rfl,_,rfl,d,lo,bE S,bP (bE S) k,rfl,?_,hlk,ac.nd,?_,fun G' eg=>?_⟩
     ·exact B4.at (by omega)
     ·intro b hb
      unfold bE at hb
      obtain⟨y,_,rfl⟩:=yw.mp hb
      exact yM (mz _ _) htz
     ·rw[ex]
      refine⟨lo,_,_,rfl,rfl,eg _ _ hlk,?_,_,?_,k+1,⟨_,_,_,_,rfl⟩,g,rfl,fun a u ha hu=>?_,?_⟩
      ·rw[y9,ol]
       show k<2 ^ 24
       omega
      ·omega
      ·rw[af ha]
       exact eg _ _ (kk a u ha hu)
      ·rw[a9]
       show _=some (HO.lst ((bP (bE S) k++[(br (bE S) (bP (bE S) k)).getD ""]).map V.str))
       rw[ex,yI]
       rfl
    ·have g:k=S.names.length:=by
      have:¬ ((((bP (bE S) k).map V.str).length:Int)<_):=fun z=>g (ye z)
      rw[y9,y9,zl,ol]at this
      omega
     subst g
     exact⟨_,rfl,q lo Gk (fun a u ha=>keep3 (eHj a u ha)) (eHj.free h3) hlk⟩
end
theorem oJ {bs:List (Str×List Str)}(A:mQ bs):∀ k,k<=bs.length->∀ x,x∈bP bs k->x∈bs.map (·.1)
 | 0,_,x,h=>(yJ h).elim
 | k+1,hk,x,h=>by
  obtain⟨y,ey,hy,_⟩:=fB A (ts:=bP bs k) (by rw[(jF A k (by omega)).2];omega)
  unfold bP at h
  rcases yE.mp h with h|h
  ·exact oJ A k (by omega) x h
  ·rw[ey]at h
   have:x=y:=by simpa using h
   rw[this]
   exact hy
section
variable {P : Program}{w : World}{K : PySem.W.Frag}{mg : Str -> Option Value}{base : Heap}
abbrev Mix:=Int×Option (List Int)
def MixV (l:Addr)(H:Hp)(m:V):Option (List Int)->Prop
 | none=>m=.non
 | some ks=>∃ q,q≠l/\m=.ref q/\H q=some (.lst (ks.map V.int))
theorem MixV.keep {l:Addr}{H H':Hp} (k:∀ a u,a≠l->H a=some u->H' a=some u) {m:V}:∀ {r:Option (List Int)},MixV l H m r->MixV l H' m r
 | none,h=>h
 | some _,⟨q,nq,e,h⟩=>⟨q,nq,e,k _ _ nq h⟩
def MixAt (l:Addr)(H:Hp)(v:V)(r:Mix):Prop:=∃ p m,p≠l/\v=.ref p/\H p=some (.tup [.int r.1,m])/\MixV l H m r.2
theorem MixAt.keep {l:Addr}{H H':Hp} (k:∀ a u,a≠l->H a=some u->H' a=some u) {v:V}{r:Mix}:MixAt l H v r->MixAt l H' v r:=fun⟨p,m,np,e,h,hm⟩=>⟨p,m,np,e,k _ _ np h,hm.keep k⟩
def dS (S:NS)(x:Str):Option (List Int):=if V.str x=fQ S.home then none else some (S.into x)
def mixes (S:NS)(ns:List Str):List Mix:=ns.flatMap fun x=>(S.outOf x).map fun k=>(k,dS S x)
theorem rZ (S:NS)(ns:List Str)(x:Str):mixes S (ns++[x])=mixes S ns++(S.outOf x).map fun k=>(k,dS S x):=by
 unfold mixes
 rw[List.flatMap_append]
 simp
theorem sY (S:NS)(x:Str):(S.outOf x).length<=S.ties.length:=by
 unfold NS.outOf
 rw[y9]
 exact z9 _ _
theorem ni (S:NS)(h:S.ties.length<=1000):∀ ns:List Str,(mixes S ns).length<=ns.length * 1000
 | []=>yi _
 | x::ns=>by
  have ih:=ni S h ns
  have ho:=sY S x
  have:(mixes S (x::ns)).length=(S.outOf x).length+(mixes S ns).length:=by
   unfold mixes
   rw[Bs,yu,y9]
  rw[this,yY]
  omega
def gF (c:Cl):Sp:=fun vs H Q _=>∃ (n dp dt:Addr)(S:NS),vs=[.ref n]/\NetAt c H n dp dt S/\mQ (bE S)/\(∀ t∈S.ties,t.2.2.1∈S.names)/\S.ties.length<=1000/\S.posts.length<=1000/\
 ∀ l H' xs,Same H H'->H l=none->H' l=some (.lst xs)->Paired (MixAt l H') xs (mixes S (bP (bE S) S.names.length))->Q (.ref l) H'
abbrev dZ:Stmt:=top 51
theorem sc_mixing_ties:am ["net","home","told","name","mixed","number"] ["net"] (ag dZ):=⟨rfl,rfl,rfl,by decide +kernel,rfl,by decide +kernel,by decide +kernel⟩
theorem lJ {c:Cl}{f:Addr}{fd:FuncData} (F:Fun K "mixing_ties" "mixing_ties" dZ f fd) (O:Cl.Ok K c) (D_Net_home:Dm P w K mg base 2 c.net "home" ["self"] (kC c)) (D_Net_ordered:Dm P w K mg base 2 c.net "ordered" ["self"] (hV c))
  (D_Net_into:Dm P w K mg base 2 c.net "into" ["self","name"] (dP c NS.into)) (D_Net_out_of:Dm P w K mg base 2 c.net "out_of" ["self","name"] (dP c NS.outOf)):FnOk P w K mg base CX0 3 f fd ["net"] (gF c):=by
 refine F.ok sc_mixing_ties (fun vs H Q E h=>?_) (fun cdv A outer s H vs Q E hr h=>?_)
 ·obtain⟨n,dp,dt,S,rfl,_⟩:=h
  rfl
 ·obtain⟨n,dp,dt,S,rfl,N,ac,hends,htz,hpz,q⟩:=h
  have ND:=sc_mixing_ties.nd
  obtain⟨dx,h1⟩:=id N.ins
  have nlen:S.names.length<=1000:=by unfold NS.names;rw[y9];exact hpz
  have bsl:(bE S).length=S.names.length:=y9 _
  have bnm:(bE S).map (·.1)=S.names:=by
   unfold bE
   rw[yq]
   exact AD _
  have olen:=(jF ac S.names.length (by omega)).2
  have omem:∀ x∈bP (bE S) S.names.length,x∈S.names:=fun x hx=>bnm▸oJ ac _ (by omega) x hx
  refine⟨_,(aa (ax (i:=1) ND rfl (by trivial) (bW (pv 0) D_Net_home (hr.mono (by decide))))
 (aa (ax (i:=2) ND rfl (by trivial) (bg ad))
 (aa (bN yV rfl (c6 K (bW (pv 0) D_Net_ordered (hr.mono (by decide)))) (aj (i:=3) ND rfl (by trivial))
  (aa (ax (i:=4) ND rfl (by trivial) (lF (aw ci (pv 3) (pv 1) (aD _)) bD (aZ (pv 0) D_Net_into (hr.mono (by decide)) (a8 (pv 3) ad))))
 (ae (bN yV rfl (c6 K (aZ (pv 0) D_Net_out_of (hr.mono (by decide)) (a8 (pv 3) ad))) (aj (i:=5) ND rfl (by trivial))
  (ae (aU (bmK K zA Ae Ad dm (pv 2) (a8 (bC (a8 (pv 5) (a8 (pv 4) ad))) ad))))))))
 (ae (ar (pv 2)))))),?_⟩
  refine⟨_,rfl,n,dx,_,rfl,h1,rfl,n,dp,dt,S,rfl,N,?_⟩
  refine⟨(by show 0<=sizeLine;decide),fun l H1 e1 hl1 hl=>?_⟩
  refine⟨_,rfl,n,dx,_,rfl,e1 _ _ h1,rfl,n,dp,dt,S,rfl,N.mono e1,ac,hends,htz,hpz,fun lo H2 e2 h2 hlo=>?_⟩
  have e02:=e1.trans e2
  have hl2:=e2 _ _ hl
  have nlo:lo≠l:=(ah hl h2).symm
  have old:∀ {a:Addr}{u:HO},H a=some u->a≠l:=fun ha=>ah ha hl1
  generalize bP (bE S) S.names.length=ord at q olen omem hlo
  have hsc:∀ x:Str,scal (.str x) (fQ S.home)=true:=fun x=>by
   cases S.home with
   | none=>rfl
   | some p=>rfl
  have ordl:ord.length<=1000:=by omega
  refine⟨lo,rfl,⟨_,SqL.of hlo⟩,c8 (K:=K) (xs:=ord.map V.str) (fun i σ G=>(∃ o3 o4 o5,σ=[some (.ref n),some (fQ S.home),some (.ref l),o3,o4,o5])/\(∀ a u,a≠l->H2 a=some u->G a=some u)/\∃ xs,G l=some (.lst xs)/\Paired (MixAt l G) xs (mixes S (ord.take i)))
   ⟨⟨_,_,_,rfl⟩,fun _ _ _ h=>h,[],hl2,by rw[Ai];exact .nil⟩ (fun i σ G _ h=>SqL.of (h.2.1 _ _ nlo hlo)) ?_ ?_⟩
  ·rintro i v σ G ev ⟨⟨o3,o4,o5,rfl⟩,kG,xs,hG,pG⟩
   obtain⟨x,ex,rfl⟩:∃ m,ord[i]?=some m/\v=.str m:=by
    rw[yf]at ev
    cases hm:ord[i]? with
    | none=>rw[hm]at ev;cases ev
    | some m=>rw[hm]at ev;exact⟨m,rfl,by simpa using ev.symm⟩
   have hx:x∈S.names:=omem x (yh ex)
   have hil:i<ord.length:=(yd.mp ex).1
   have tk:ord.take (i+1)=ord.take i++[x]:=by rw[za,ex];rfl
   have toG:∀ {a:Addr}{u:HO},H a=some u->G a=some u:=fun ha=>kG _ _ (old ha) (e02 _ _ ha)
   have NG:NetAt c G n dp dt S:=N.mono fun a u ha=>toG ha
   have rest:∀ (m:V)(H4:Hp)(D:jk),(∀ σ G',((∃ o3 o4 o5,σ=[some (.ref n),some (fQ S.home),some (.ref l),o3,o4,o5])/\(∀ a u,a≠l->H2 a=some u->G' a=some u)/\∃ xs,G' l=some (.lst xs)/\Paired (MixAt l G') xs (mixes S (ord.take (i+1))))->D.nx σ G')->Same G H4->MixV l H4 m (dS S x)->
     tFor (vR K (pJ c.net "out_of" (dP c NS.outOf) [] E0 (gZ 0) (bF (gZ 3) kg))) (bd 5) (tDrop (tBM K "list" sV (gZ 2) (bF (tTupS (bF (gZ 5) (bF (gZ 4) kg))) kg))) D [some (.ref n),some (fQ S.home),some (.ref l),some (.str x),some m,o5] H4:=fun m H4 D hD e4 hm=>by
    refine⟨_,rfl,n,dx,_,rfl,e4 _ _ (toG h1),rfl,_,rfl,n,dp,dt,S,x,rfl,NG.mono e4,hx,htz,fun lk H5 e5 h5 hlk=>?_⟩
    have e45:=e4.trans e5
    have nlk:lk≠l:=(ah (e4 _ _ hG) h5).symm
    refine⟨lk,rfl,⟨_,SqL.of hlk⟩,c8 (K:=K) (xs:=(S.outOf x).map V.int) (fun j σ G'=>(∃ o5,σ=[some (.ref n),some (fQ S.home),some (.ref l),some (.str x),some m,o5])/\(∀ a u,a≠l->H5 a=some u->G' a=some u)/\∃ ys,G' l=some (.lst ys)/\Paired (MixAt l G') ys (mixes S (ord.take i)++((S.outOf x).take j).map fun k=>(k,dS S x)))
     ⟨⟨_,rfl⟩,fun _ _ _ h=>h,xs,e45 _ _ hG,?_⟩ (fun j σ G' _ h=>SqL.of (h.2.1 _ _ nlk hlk)) ?_ ?_⟩
    ·rw[Ai,Aa,zp]
     exact Paired.mapP pG fun _ _ h=>h.keep fun a u _ ha=>e45 _ _ ha
    ·rintro j v σ G' ev ⟨⟨o5',rfl⟩,kG',ys,hys,pys⟩
     obtain⟨kk,ek,rfl⟩:∃ m,(S.outOf x)[j]?=some m/\v=.int m:=by
      rw[yf]at ev
      cases hm:(S.outOf x)[j]? with
      | none=>rw[hm]at ev;cases ev
      | some m=>rw[hm]at ev;exact⟨m,rfl,by simpa using ev.symm⟩
     have tkj:(S.outOf x).take (j+1)=(S.outOf x).take j++[kk]:=by rw[za,ek];rfl
     refine⟨_,rfl,.inl ⟨rfl,_,SqL.of hys⟩,_,rfl,_,rfl,(by show 2<=sizeLine;decide),fun p H6 e6 h6 hp=>?_⟩
     have np:p≠l:=(ah hys h6).symm
     refine⟨l,_,_,rfl,rfl,e6 _ _ hys,?_,⟨_,rfl⟩,fun a u na ha=>?_,_,a9,?_⟩
     ·have h7:=Paired.length pys
      have h8:=ni S htz (ord.take i)
      have h9:=sY S x
      rw[yu,y9,yO]at h7
      rw[yO]at h8
      show _<2 ^ 24
      have:min i ord.length * 1000<=1000 * 1000:=Nat.mul_le_mul_right _ (by omega)
      omega
     ·rw[af na]
      exact e6 _ _ (kG' a u na ha)
     ·rw[tkj,yI,<- Ab]
      refine Paired.snoc' (Paired.mapP pys fun _ _ h=>h.keep fun a u na ha=>by rw[af na];exact e6 _ _ ha) ⟨p,m,np,rfl,by rw[af np];exact hp,hm.keep fun a u na ha=>?_⟩
      rw[af na]
      exact e6 _ _ (kG' a u na (e5 _ _ ha))
    ·rintro σ G' ⟨⟨o5',rfl⟩,kG',ys,hys,pys⟩
     refine hD _ _ ⟨⟨_,_,_,rfl⟩,fun a u na ha=>kG' a u na (e45 _ _ (kG a u na ha)),ys,hys,?_⟩
     rw[tk,rZ]
     rw[y9,zh]at pys
     exact pys
   refine⟨_,rfl,_,rfl,hsc x,_,rfl,bB (fun g=>?_) (fun g=>?_)⟩
   ·have g:V.str x=fQ S.home:=yr g
    refine rest .non G _ (fun _ _ h=>h) (Same.refl _) ?_
    unfold dS
    rw[if_pos g]
    exact rfl
   ·have g:¬ V.str x=fQ S.home:=fun z=>g (ye z)
    refine⟨_,rfl,n,dx,_,rfl,toG h1,rfl,_,rfl,n,dp,dt,S,x,rfl,NG,hx,htz,fun li H4 e4 h4 hli=>?_⟩
    refine rest (.ref li) H4 _ (fun _ _ h=>h) e4 ?_
    unfold dS
    rw[if_neg g]
    exact⟨li,(ah hG h4).symm,rfl,hli⟩
  ·rintro σ G ⟨⟨o3,o4,o5,rfl⟩,kG,xs,hG,pG⟩
   rw[y9,zh]at pG
   exact⟨_,rfl,q l G xs (fun a u ha=>kG _ _ (old ha) (e02 _ _ ha)) hl1 hG pG⟩
end
end K52
namespace L2
open PySem PySem.Spec PyProof.Rows
section
variable {K : PySem.W.Frag}{js : List Nat}{te : TE}{σ : St}{F : Addr -> Hp -> Prop}{H : Hp}
def TupsAt (H:Hp)(l:Addr)(gs:List (List V)):Prop:=∃ xs,H l=some (.lst xs)/\Paired (fun v g=>∃ b,v=.ref b/\H b=some (.tup g)) xs gs
theorem TupsAt.snoc {H:Hp}{l b:Addr}{gs:List (List V)}{xs:List V}{g:List V} (h1:H l=some (.lst xs)) (h2:Paired (fun v g=>∃ b,v=.ref b/\H b=some (.tup g)) xs gs) (hb:H b=some (.tup g)):TupsAt (upd H l (.lst (xs++[.ref b]))) l (gs++[g]):=by
 have keep:∀ {b:Addr}{g:List V},H b=some (.tup g)->(upd H l (.lst (xs++[.ref b]))) b=some (.tup g):=fun {b g} hb=>by
  rw[af (fun z=>by rw[z,h1]at hb;cases hb)];exact hb
 refine⟨_,a9,Paired.snoc' (Paired.mapP h2 fun v g ⟨b,e,hb⟩=>⟨b,e,?_⟩) ⟨b,rfl,?_⟩⟩
 ·rw[af (fun z=>by rw[z,h1]at hb;cases hb)];exact hb
 ·rw[af (fun z=>by rw[z,h1]at hb;cases hb)];exact hb
theorem qW {a:Addr}{xs:List V} (gs:List (List V)) (hg:gs.length=xs.length) (ha:H a=some (.lst xs)) (hz:xs.length<=1000)
  (hs:∀ (i:Nat)(x:V) g H2,xs[i]?=some x->gs[i]?=some g->Same H H2->te (some x::bz σ js) H2 fun v H5=>(∃ b,v=.ref b/\H5 b=some (.tup g))/\Same H2 H5)
  (hd:∀ l H',H l=none->Same H H'->TupsAt H' l gs->F l H'):bi 1 js (bd 0) fU te σ F (Itl K a) H:=by
 intro l hl0
 refine⟨fun i m σ' H2=>m=xs.length - i/\i<=xs.length/\(∃ o,σ'=o::bz σ js)/\Same H H2/\TupsAt H2 l (gs.take i),⟨xs.length,by simp,yP _,⟨none,rfl⟩,az (Same.refl _) hl0,[],a9,by rw[Ai];exact .nil⟩,?_⟩
 rintro i m σ' H2 ⟨rfl,hi,⟨o',rfl⟩,e,tl⟩
 have q:SqL K H2 a xs:=SqL.of (e _ _ ha)
 by_cases hlt:i<xs.length
 ·refine .inr ⟨⟨xs,xs[i],q,by simp[hlt]⟩,fun x H3 y=>?_⟩
  obtain⟨rfl,y⟩:=y
  have hgi:gs[i]?=some gs[i]:=yb (by omega)
  refine⟨fun H4=>False,fun v H5=>(∃ b,v=.ref b/\H5 b=some (.tup gs[i]))/\Same H3 H5,fun H4 z=>z.elim,fun v H5 ⟨⟨b,ev,hb⟩,e5⟩=>?_,hs i x _ H3 (y xs q) hgi e⟩
  subst ev
  obtain⟨ys,h1,h2⟩:=tl
  have h1':=e5 _ _ h1
  have hyl:=Paired.length h2
  rw[yO]at hyl
  refine⟨ys,h1',by have e:sizeLine=2 ^ 24:=rfl;omega,_,?_,rfl,hlt,⟨_,rfl⟩,au (e.trans e5) hl0,?_⟩
  ·omega
  ·rw[za,hgi]
   exact TupsAt.snoc h1' (Paired.mapP h2 fun v g ⟨b,e,hb⟩=>⟨b,e,e5 _ _ hb⟩) hb
 ·have ei:i=xs.length:=by omega
  subst ei
  rw[<- hg,zh]at tl
  exact .inl ⟨⟨xs,q,yi _⟩,hd l H2 hl0 e tl⟩
end
end L2
namespace K52
open PySem L2
open PyProof.Rows (boot_list boot_int boot_bool boot_tuple boot_str boot_dict boot_all boot_sorted)
structure TxtB (mg : Str -> Option Value) : Prop where
  n_dict : mg "dict" = none
  n_sorted : mg "sorted" = none
section
variable {P : Program}{w : World}{K : PySem.W.Frag}{mg : Str -> Option Value}{base : Heap}
theorem iD {α β γ δ:Type}{F:α->γ->Prop}{G:α->δ->Prop}{f:β->γ}{g:β->δ}:∀ {xs:List α}{ys:List β},Paired F xs (ys.map f)->(∀ a b,F a (f b)->G a (g b))->Paired G xs (ys.map g)
 | [],[],_,_=>.nil
 | _::_,_::_,.cons h r,k=>.cons (k _ _ h) (iD r k)
theorem sP:∀ {kvs:List (Key×V)}{k:Key},k∈kvs.map (·.1)->∃ v,b7 kvs k=some v
 | [],_,h=>(yJ h).elim
 | kv::kvs,k,h=>by
  by_cases e:kv.1=k
  ·exact⟨kv.2,by simp[b7,e]⟩
  ·have:k∈kvs.map (·.1):=by
    rcases yB.mp h with z|z
    ·exact absurd z.symm e
    ·exact z
   obtain⟨v,hv⟩:=sP this
   exact⟨v,by simpa [b7,e] using hv⟩
def df (kvs:List (Key×V))(ns:List Int):List (Key×V):=ns.map fun n=>((Sum.inl n:Key),(b7 kvs (Sum.inl n)).getD .non)
def cy:Sp:=fun vs H Q _=>∃ (d:Addr)(kvs:List (Key×V))(ns:List Int),vs=[.ref d]/\H d=some (.dK kvs)/\kvs.map (·.1)=ns.map (fun n:Int=>(Sum.inl n:Key))/\ns.Nodup/\ns.length<64/\
 ∀ e H' ns',Same H H'->H e=none->ns'.Perm ns->ns'.Pairwise (·<=·)->H' e=some (.dK (df kvs ns'))->Q (.ref e) H'
abbrev gc:Stmt:=top 52
theorem sc_by_number:am ["told"] ["told"] (ag gc):=⟨rfl,rfl,rfl,by decide +kernel,rfl,by decide +kernel,by decide +kernel⟩
theorem oS {f:Addr}{fd:FuncData} (F:Fun K "by_number" "by_number" gc f fd) (T:TxtB mg):FnOk P w K mg base CX0 1 f fd ["told"] cy:=by
 refine F.ok sc_by_number (fun vs H Q E h=>?_) (fun cdv A outer s H vs Q E hr h=>?_)
 ·obtain⟨d,kvs,ns,rfl,_⟩:=h
  rfl
 ·obtain⟨d,kvs,ns,rfl,hd,hks,nnd,h64,q⟩:=h
  have ND:=sc_by_number.nd
  refine⟨_,(ae (ar (bY (bu rfl) rfl T.n_dict boot_dict (a8 (aX rfl (ak (nT:=1) (js:=[0]) (N':=["number","told"]) rfl rfl (by kernel_rfl)) (c6 K (aA (mx rfl) rfl T.n_sorted boot_sorted (a8 (pv 0) ad)))
  (fun _ _ _ _ _=>(aj (i:=0) (show List.Nodup (["number","told"]:List Str) by decide +kernel) rfl (by trivial)))
  (fun _ _ _ _ _=>aM)
  (fun _ _ _ _ _=>(bC (a8 (pv 0) (a8 (bL (bc hr) (pv 1) (pv 0) (fun _ _=>rfl)) ad))))) ad)))),?_⟩
  have hvl:∀ n∈ns,∃ v,b7 kvs (Sum.inl n)=some v:=fun n hn=>sP (by rw[hks];exact yD hn)
  refine⟨_,rfl,d,kvs,ns,rfl,hd,hks,h64,fun ns' pm pw L H1 e1 hL0 hL=>?_⟩
  have nl':ns'.length=ns.length:=pm.length_eq
  refine⟨L,rfl,⟨_,SqL.of hL⟩,qW (ns'.map fun n=>[V.int n,(b7 kvs (Sum.inl n)).getD .non]) (by rw[y9,y9]) hL (by rw[y9];omega) (fun i x g H2 hx hg e2=>?_) (fun l H2 h2 e2 tl=>?_)⟩
  ·rw[yf]at hx hg
   obtain⟨n,en,rfl⟩:=yG.mp hx
   rw[en]at hg
   cases hg
   obtain⟨v,ev⟩:=hvl n (pm.mem_iff.mp (yh en))
   refine⟨_,rfl,_,rfl,_,rfl,d,v,rfl,ev▸DGet.k (k:=Sum.inl n) (e2 _ _ (e1 _ _ hd)),(by show 2<=sizeLine;decide),fun b H3 e3 h3 hb=>⟨⟨b,rfl,?_⟩,e3⟩⟩
   rw[hb]
   show _=some (HO.tup [V.int n,(b7 kvs (Sum.inl n)).getD .non])
   rw[ev]
   rfl
  ·obtain⟨xs,hxs,hp⟩:=tl
   refine⟨l,df kvs ns',rfl,⟨xs,hxs,?_⟩,by unfold df;rw[y9];omega,fun e H3 e3 h3 he=>?_⟩
   ·unfold df
    exact iD hp fun v n ⟨b,e,hb⟩=>⟨b,e,hb⟩
   ·rw[ce _ [] (by
     rw[zb]
     unfold df
     rw[yq]
     exact (yU.mpr (zV.mpr ((yU.mp (pm.nodup_iff.mpr nnd)).imp fun h z=>h (Sum.inl.inj z))))),zb]at he
    exact q e H3 ns' ((e1.trans e2).trans e3) ((e1.trans e2).free h3) pm pw he
end
end K52
namespace L2
open PySem PySem.Spec PyProof.Rows
section
variable {K : PySem.W.Frag}{js : List Nat}{te : TE}{σ : St}{F : Addr -> Hp -> Prop}{H : Hp}
theorem pj {a:Addr}{xs:List V}{ps:List (V×V)} (gs:List (List V)) (hg:gs.length=xs.length) (ha:H a=some (.lst xs)) (hps:Paired (fun x (p:V×V)=>∃ b,x=.ref b/\H b=some (.tup [p.1,p.2])) xs ps) (hz:xs.length<=1000)
  (hs:∀ (i:Nat)(p:V×V) g H2,ps[i]?=some p->gs[i]?=some g->Same H H2->te (some p.1::some p.2::bz σ js) H2 fun v H5=>(∃ b,v=.ref b/\H5 b=some (.tup g))/\Same H2 H5)
  (hd:∀ l H',H l=none->Same H H'->TupsAt H' l gs->F l H'):bi 2 js (qM K 2 (dM (bd 0) (dM (bd 1) sA))) fU te σ F (Itl K a) H:=by
 intro l hl0
 refine⟨fun i m σ' H2=>m=xs.length - i/\i<=xs.length/\(∃ o o2,σ'=o::o2::bz σ js)/\Same H H2/\TupsAt H2 l (gs.take i),⟨xs.length,by simp,yP _,⟨none,none,rfl⟩,az (Same.refl _) hl0,[],a9,by rw[Ai];exact .nil⟩,?_⟩
 rintro i m σ' H2 ⟨rfl,hi,⟨o',o2,rfl⟩,e,tl⟩
 have q:SqL K H2 a xs:=SqL.of (e _ _ ha)
 by_cases hlt:i<xs.length
 ·refine .inr ⟨⟨xs,xs[i],q,by simp[hlt]⟩,fun x H3 y=>?_⟩
  obtain⟨rfl,y⟩:=y
  obtain⟨p,ep,b0,rfl,hb0⟩:=Paired.at hps (y xs q)
  have hgi:gs[i]?=some gs[i]:=yb (by omega)
  refine⟨b0,[p.1,p.2],rfl,SqT.of (e _ _ hb0),rfl,_,[p.2],rfl,_,[],rfl,rfl,?_⟩
  refine⟨fun H4=>False,fun v H5=>(∃ b,v=.ref b/\H5 b=some (.tup gs[i]))/\Same H3 H5,fun H4 z=>z.elim,fun v H5 ⟨⟨b,ev,hb⟩,e5⟩=>?_,hs i p _ H3 ep hgi e⟩
  subst ev
  obtain⟨ys,h1,h2⟩:=tl
  have h1':=e5 _ _ h1
  have hyl:=Paired.length h2
  rw[yO]at hyl
  refine⟨ys,h1',by have e:sizeLine=2 ^ 24:=rfl;omega,_,?_,rfl,hlt,⟨_,_,rfl⟩,au (e.trans e5) hl0,?_⟩
  ·omega
  ·rw[za,hgi]
   exact TupsAt.snoc h1' (Paired.mapP h2 fun v g ⟨b,e,hb⟩=>⟨b,e,e5 _ _ hb⟩) hb
 ·have ei:i=xs.length:=by omega
  subst ei
  rw[<- hg,zh]at tl
  exact .inl ⟨⟨xs,q,yi _⟩,hd l H2 hl0 e tl⟩
end
end L2
namespace K52
open PySem L2
open PyProof.Rows (boot_list boot_int boot_bool boot_tuple boot_str boot_dict boot_all boot_sorted)
structure TxtD (mg : Str -> Option Value) : Prop where
  n_dict : mg "dict" = none
  n_len : mg "len" = none
section
variable {P : Program}{w : World}{K : PySem.W.Frag}{mg : Str -> Option Value}{base : Heap}
theorem nj {l:Addr}{H:Hp}:∀ {xs:List V}{rs:List Mix},Paired (MixAt l H) xs rs->∃ ps:List (V×V),Paired (fun x (p:V×V)=>∃ b,x=.ref b/\H b=some (.tup [p.1,p.2])) xs ps/\Paired (fun (p:V×V) (r:Mix)=>p.1=.int r.1/\MixV l H p.2 r.2) ps rs
 | _,_,.nil=>⟨[],.nil,.nil⟩
 | _,_,.cons ⟨b,m,_,e,hb,hm⟩ t=>by
  obtain⟨ps,h1,h2⟩:=nj t
  exact⟨(_,m)::ps,.cons ⟨b,e,hb⟩ h1,.cons ⟨rfl,hm⟩ h2⟩
theorem dN:∀ {ws:List (Int×Int)},(ws.map (·.1)).Nodup->∀ r∈ws,ws.find? (fun x=>decide (x.1=r.1))=some r
 | [],_,_,h=>(yJ h).elim
 | x::ws,nd,r,h=>by
  rw[yN,zt]at nd
  rcases yB.mp h with rfl|h
  ·rw[yQ,ye rfl]
  ·have ne:¬ x.1=r.1:=fun z=>nd.1 (z▸yD h)
   rw[yQ,yj ne]
   exact dN nd.2 r h
theorem iO (ws:List (Int×Int))(n:Int):b7 (ws.map fun r=>((Sum.inl r.1:Key),V.int r.2)) (Sum.inl n)=(ws.find? fun x=>decide (x.1=n)).map fun r=>V.int r.2:=by
 unfold b7
 induction ws with
 | nil=>rfl
 | cons x ws ih=>
  rw[yN,yQ,yQ]
  by_cases h:x.1=n
  ·rw[ye h,ye (show (Sum.inl x.1:Key)=Sum.inl n by rw[h])]
   rfl
  ·rw[yj h,yj (show ¬ (Sum.inl x.1:Key)=Sum.inl n from fun z=>h (Sum.inl.inj z))]
   exact ih
theorem qK {ws:List (Int×Int)}(nd:(ws.map (·.1)).Nodup){ns:List Int}(pm:ns.Perm (ws.map (·.1))):
  ∃ ms:List (Int×Int),ms.Perm ws/\ms.map (·.1)=ns/\df (ws.map fun r=>((Sum.inl r.1:Key),V.int r.2)) ns=ms.map fun m=>((Sum.inl m.1:Key),V.int m.2):=by
 let f:Int->Int:=fun n=>((ws.find? fun x=>decide (x.1=n)).map (·.2)).getD 0
 have hf:∀ r∈ws,f r.1=r.2:=fun r hr=>by
  show ((ws.find? fun x=>decide (x.1=r.1)).map (·.2)).getD 0=r.2
  rw[dN nd r hr]
  rfl
 refine⟨ns.map fun n=>(n,f n),?_,?_,?_⟩
 ·have h1:=pm.map fun n=>(n,f n)
  rw[yq]at h1
  have h2:ws.map ((fun n=>(n,f n)) ∘ (·.1))=ws:=by
   refine (zn (g:=id) fun r hr=>?_).trans (AD _)
   show (r.1,f r.1)=r
   rw[hf r hr]
  rw[h2]at h1
  exact h1
 ·rw[yq]
  exact AD _
 ·unfold df
  rw[yq]
  refine zn fun n hn=>?_
  obtain⟨r,hr,rfl⟩:=yw.mp (pm.mem_iff.mp hn)
  show ((Sum.inl r.1:Key),_)=((Sum.inl r.1:Key),V.int (f r.1))
  rw[iO,dN nd r hr,hf r hr]
  rfl
def wide (many:Int):Option (List Int)->Int
 | none=>many
 | some ks=>ks.length
def wants (S:NS)(many:Int):List (Int×Int):=(mixes S (bP (bE S) S.names.length)).map fun r=>(r.1,wide many r.2)
def jn (c:Cl):Sp:=fun vs H Q _=>∃ (n dp dt:Addr)(S:NS)(many:Int),vs=[.ref n,.int many]/\NetAt c H n dp dt S/\mQ (bE S)/\(∀ t∈S.ties,t.2.2.1∈S.names)/\S.ties.length<64/\S.posts.length<=1000/\((wants S many).map (·.1)).Nodup/\(wants S many).length<64/\
 ∀ e H' (ms:List (Int×Int)),Same H H'->H e=none->ms.Perm (wants S many)->(ms.map (·.1)).Pairwise (·<=·)->H' e=some (.dK (ms.map fun m=>((Sum.inl m.1:Key),V.int m.2)))->Q (.ref e) H'
abbrev cG:Stmt:=top 53
theorem sc_wanted_lengths:am ["net","many"] ["net","many"] (ag cG):=⟨rfl,rfl,rfl,by decide +kernel,rfl,by decide +kernel,by decide +kernel⟩
theorem j0 {c:Cl}{f:Addr}{fd:FuncData} (F:Fun K "wanted_lengths" "wanted_lengths" cG f fd) (O:Cl.Ok K c) (T:TxtD mg) (D_mixing_ties:Df P w K mg base 3 "mixing_ties" ["net"] (gF c)) (D_by_number:Df P w K mg base 1 "by_number" ["told"] cy):FnOk P w K mg base CX0 4 f fd ["net","many"] (jn c):=by
 refine F.ok sc_wanted_lengths (fun vs H Q E h=>?_) (fun cdv A outer s H vs Q E hr h=>?_)
 ·obtain⟨n,dp,dt,S,many,rfl,_⟩:=h
  rfl
 ·obtain⟨n,dp,dt,S,many,rfl,N,ac,hends,htz,hpz,wnd,wlen,q⟩:=h
  have ND:=sc_wanted_lengths.nd
  refine⟨_,(ae (ar (aq D_by_number (hr.mono (by decide)) rfl (a8 (bY (bu rfl) rfl T.n_dict boot_dict (a8 (aX rfl (ak (nT:=2) (js:=[1]) (N':=["number","mixed","many"]) rfl rfl (by kernel_rfl)) (c6 K (aq D_mixing_ties (hr.mono (by decide)) rfl (a8 (pv 0) ad)))
  (fun _ _ _ _ _=>(gT K (n:=2) rfl (av (aj (i:=0) (show List.Nodup (["number","mixed","many"]:List Str) by decide +kernel) rfl (by trivial)) (av (aj (i:=1) (show List.Nodup (["number","mixed","many"]:List Str) by decide +kernel) rfl (by trivial)) bw))))
  (fun _ _ _ _ _=>aM)
  (fun _ _ _ _ _=>(bC (a8 (pv 0) (a8 (lF (aw oN (pv 1) bD (aD _)) (pv 2) (aA (gU K) rfl T.n_len boot_len (a8 (pv 1) ad))) ad))))) ad)) ad)))),?_⟩
  have tl1:S.ties.length<=1000:=by omega
  refine⟨_,rfl,n,dp,dt,S,rfl,N,ac,hends,tl1,hpz,fun l H1 xs e1 h1 hl pm=>?_⟩
  obtain⟨ps,p1,p2⟩:=nj pm
  have lx:xs.length=(wants S many).length:=by unfold wants;rw[y9];exact Paired.length pm
  refine⟨l,rfl,⟨_,SqL.of hl⟩,pj (ps:=ps) ((wants S many).map fun r=>[V.int r.1,V.int r.2]) (by rw[y9,lx]) hl p1 (by omega) (fun i p g H2 ep hg e2=>?_) (fun l2 H2 h2 e2 tl=>?_)⟩
  ·obtain⟨r,er,hr1,hm⟩:=Paired.at p2 ep
   unfold wants at hg
   rw[yq,yf,er]at hg
   have hg:g=[V.int r.1,V.int (wide many r.2)]:=by simpa using hg.symm
   subst hg
   obtain⟨p1',m⟩:=p
   have hr1:p1'=.int r.1:=hr1
   subst hr1
   obtain⟨k,ro⟩:=r
   cases ro with
   | none=>
    have hm:m=.non:=hm
    subst hm
    exact⟨_,rfl,_,rfl,rfl,_,rfl,bA ⟨_,rfl,(by show 2<=sizeLine;decide),fun b H3 e3 h3 hb=>⟨⟨b,rfl,hb⟩,e3⟩⟩⟩
   | some ks=>
    obtain⟨q0,_,em,hq0⟩:=hm
    have em:m=.ref q0:=em
    subst em
    refine⟨_,rfl,_,rfl,rfl,_,rfl,bv ⟨_,rfl,q0,_,rfl,.inl (SqL.of (e2 _ _ hq0)),(by show 2<=sizeLine;decide),fun b H3 e3 h3 hb=>⟨⟨b,rfl,?_⟩,e3⟩⟩⟩
    rw[hb,y9]
    rfl
  ·obtain⟨xs2,hxs2,hp2⟩:=tl
   refine⟨l2,(wants S many).map fun r=>((Sum.inl r.1:Key),V.int r.2),rfl,⟨xs2,hxs2,iD (g:=fun r:Int×Int=>((Sum.inl r.1:Key),V.int r.2)) hp2 fun v r ⟨b,e,hb⟩=>⟨b,e,hb⟩⟩,by rw[y9];omega,fun d H3 e3 h3 hd=>?_⟩
   rw[ce _ [] (by
    rw[zb,yq]
    have:((fun x:Key×V=>x.1) ∘ fun r:Int×Int=>((Sum.inl r.1:Key),V.int r.2))=(fun x:Int=>(Sum.inl x:Key)) ∘ Prod.fst:=rfl
    rw[this,<- yq]
    exact yU.mpr (zV.mpr ((yU.mp wnd).imp fun h z=>h (Sum.inl.inj z)))),zb]at hd
   have e03:=(e1.trans e2).trans e3
   refine⟨d,_,(wants S many).map (·.1),rfl,hd,by rw[yq,yq];rfl,wnd,by rw[y9];exact wlen,fun e H4 ns' e4 h4 pm' pw he=>?_⟩
   obtain⟨ms,m1,m2,m3⟩:=qK wnd pm'
   exact q e H4 ms (e03.trans e4) (e03.free h4) m1 (m2▸pw) (m3▸he)
end
structure TxtF (K : PySem.W.Frag) (mg : Str -> Option Value) (C : Addr) : Prop where
  cl : Cls K C
  nP : NoAttr K C "prime"
  n_len : mg "len" = none
  n_all : mg "all" = none
section
variable {P : Program}{w : World}{K : PySem.W.Frag}{mg : Str -> Option Value}{base : Heap}{C : Addr}
def FieldAt (C:Addr)(H:Hp)(f:Addr)(p:Int):Prop:=∃ dx,H f=some (.ins C dx [("prime",.int p)])
theorem FieldAt.mono {H H':Hp}{f:Addr}{p:Int} (e:Same H H') (h:FieldAt C H f p):FieldAt C H' f p:=let ⟨dx,q⟩:=h;⟨dx,e _ _ q⟩
def dU (p n:Int):Bool:=decide (0<=n)&&decide (n<p)
def cY (C:Addr):Sp:=fun vs H Q _=>∃ (f:Addr)(n p:Int),vs=[.ref f,.int n]/\FieldAt C H f p/\Q (.bl (dU p n)) H
abbrev dB:Stmt:=top 54
theorem sc_is_number_of:am ["field","number"] ["field","number"] (ag dB):=⟨rfl,rfl,rfl,by decide +kernel,rfl,by decide +kernel,by decide +kernel⟩
theorem km {f:Addr}{fd:FuncData} (F:Fun K "is_number_of" "is_number_of" dB f fd) (T:TxtF K mg C) (D_is_whole:Df P w K mg base 1 "is_whole" ["number"] cR):FnOk P w K mg base CX0 2 f fd ["field","number"] (cY C):=by
 refine F.ok sc_is_number_of (fun vs H Q E h=>?_) (fun cdv A outer s H vs Q E hr h=>?_)
 ·obtain⟨f,n,p,rfl,_⟩:=h
  rfl
 ·obtain⟨f,n,p,rfl,⟨dx,hf⟩,q⟩:=h
  have ND:=sc_is_number_of.nd
  refine⟨_,(ae (ar (fF (aq D_is_whole (hr.mono (by decide)) rfl (a8 (pv 1) ad)) (gl (lH n8 n5 ai (pv 1) (eK K (pv 0) rfl)))))),?_⟩
  refine⟨_,rfl,n,rfl,_,rfl,bA ⟨_,rfl,_,_,rfl,rfl,_,rfl,?_⟩⟩
  unfold dU at q
  by_cases h0:0<=n
  ·rw[ye h0]
   rw[ye h0,Bool.true_and]at q
   refine bA ⟨_,rfl,f,C,dx,_,_,rfl,hf,T.cl,T.nP,rfl,_,_,rfl,rfl,q⟩
  ·rw[yj h0]
   rw[yj h0,Am]at q
   exact bv q
def dJ (p:Int)(ns:List Int)(k:Int):Bool:=decide ((ns.length:Int)=k)&&ns.all (dU p)
def fq (K:PySem.W.Frag)(C:Addr):Sp:=fun vs H Q _=>∃ (f a:Addr)(ns:List Int)(k p:Int),vs=[.ref f,.ref a,.int k]/\FieldAt C H f p/\H a=some (.lst (ns.map V.int))/\ns.length<=1000/\∀ H',Same H H'->Q (.bl (dJ p ns k)) H'
abbrev g9:Stmt:=top 55
theorem sc_is_row_of:am ["field","row","length"] ["field","row","length"] (ag g9):=⟨rfl,rfl,rfl,by decide +kernel,rfl,by decide +kernel,by decide +kernel⟩
theorem oQ {f:Addr}{fd:FuncData} (F:Fun K "is_row_of" "is_row_of" g9 f fd) (T:TxtF K mg C) (D_is_number_of:Df P w K mg base 2 "is_number_of" ["field","number"] (cY C)):FnOk P w K mg base CX0 3 f fd ["field","row","length"] (fq K C):=by
 refine F.ok sc_is_row_of (fun vs H Q E h=>?_) (fun cdv A outer s H vs Q E hr h=>?_)
 ·obtain⟨f,a,ns,k,p,rfl,_⟩:=h
  rfl
 ·obtain⟨f,a,ns,k,p,rfl,hf,ha,hz,q⟩:=h
  have ND:=sc_is_row_of.nd
  refine⟨_,(ae (ar (fF (fE ci (aA (gU K) rfl T.n_len boot_len (a8 (pv 1) ad)) (pv 2) (aD _)) (gl (aA (jP K rfl) rfl T.n_all boot_all (a8 (aX rfl (ak (nT:=1) (js:=[0]) (N':=["number","field"]) rfl rfl (by kernel_rfl)) (c6 K (pv 1))
  (fun _ _ _ _ _=>(aj (i:=0) (show List.Nodup (["number","field"]:List Str) by decide +kernel) rfl (by trivial)))
  (fun _ _ _ _ _=>aM)
  (fun _ _ _ _ _=>(aq D_is_number_of (hr.mono (by decide)) rfl (a8 (pv 1) (a8 (pv 0) ad))))) ad)))))),?_⟩
  have gd:∀ i,(ns.map V.int)[i]?=some (V.int (ns.getD i 0))\/(ns.map V.int)[i]?=none:=fun i=>by
   rw[yf,yk]
   cases ns[i]? with
   | none=>exact .inr rfl
   | some m=>exact .inl rfl
  refine⟨_,rfl,a,_,rfl,.inl (SqL.of ha),_,rfl,rfl,_,rfl,?_⟩
  unfold dJ at q
  rw[y9]
  by_cases hk:(ns.length:Int)=k
  ·rw[ye (show V.int (ns.length:Int)=V.int k by rw[hk])]
   rw[ye hk,Bool.true_and]at q
   refine bA ⟨_,rfl,a,rfl,⟨_,SqL.of ha⟩,fO (fun i=>.bl (dU p (ns.getD i 0))) ha (by rw[y9];exact hz) (fun i x H2 ex e2=>?_) (fun l H2 h2 e2 hl=>?_)⟩
   ·rcases gd i with h|h
    ·rw[h]at ex
     cases ex
     exact⟨_,rfl,_,rfl,f,_,p,rfl,hf.mono e2,rfl,Same.refl _⟩
    ·rw[h]at ex;cases ex
   ·have er:(List.range (ns.map V.int).length).map (fun i=>V.bl (dU p (ns.getD i 0)))=(ns.map (dU p)).map V.bl:=by
     rw[y9,yq]
     refine List.ext_getElem (by rw[y9,y9,zq]) fun j h1 h2=>?_
     have hj:j<ns.length:=by simpa using h2
     rw[List.getElem_map,List.getElem_map,List.getElem_range,yk,yb hj]
     rfl
    rw[er]at hl
    refine⟨l,_,rfl,SqL.of hl,?_⟩
    rw[List.all_map]
    exact q _ e2
  ·rw[yj (show ¬ V.int (ns.length:Int)=V.int k from fun z=>hk (by injection z))]
   rw[yj hk,Am]at q
   exact bv (q _ (Same.refl _))
end
structure TxtP (K : PySem.W.Frag) (mg : Str -> Option Value) (C aN : Addr) : Prop where
  cl : Cls K C
  nP : NoAttr K C "prime"
  g_G : ∃ t, mg "GREATEST_PRIME" = some (.int 1000000 t)
  c_NoPrime : mg "NoPrime" = some (.ref aN)
  x_NoPrime : PySem.W.excIn K aN bQ "ValueError.__new__" = true
section
variable {P : Program}{w : World}{K : PySem.W.Frag}{mg : Str -> Option Value}{base : Heap}{C aN : Addr}
abbrev io:Stmt:=top 33
theorem sc_is_prime:am ["number","divisor"] ["number"] (ag io):=⟨rfl,rfl,rfl,by decide +kernel,rfl,by decide +kernel,by decide +kernel⟩
def fY:Sp:=fun vs H Q _=>∃ (n:Int),vs=[.int n]/\n<=100000000/\Q (.bl (My.isP n)) H
theorem ql {f:Addr}{fd:FuncData} (F:Fun K "is_prime" "is_prime" io f fd):FnOk P w K mg base CX0 1 f fd ["number"] fY:=by
 refine F.ok sc_is_prime (fun vs H Q E h=>?_) (fun cdv A outer s H vs Q E hr h=>?_)
 ·obtain⟨n,rfl,_⟩:=h
  rfl
 ·obtain⟨n,rfl,hn,q⟩:=h
  have ND:=sc_is_prime.nd
  refine⟨_,(aa (ba (aw n5 (pv 0) ai (aD _))
  (ae (ar gn))
  aE)
 (aa (ax (i:=1) ND rfl (by trivial) ai)
 (aa (iV yV (aw n8 (aF gq (pv 1) (pv 1)) (pv 0) (aD _))
  (aa (ba (aw ci (aF be (pv 0) (pv 1)) ai (aD _))
  (ae (ar gn))
  aE)
 (ae (vf (i:=1) ND rfl (by trivial) ai vQ))))
 (ae (ar gn))))),?_⟩
  refine⟨_,rfl,_,_,rfl,rfl,_,rfl,?_⟩
  refine bB (fun hc=>?_) (fun hc=>?_)
  ·have hc:=yr hc
   have:My.isP n=false:=by
    cases e:My.isP n with
    | false=>rfl
    | true=>have:=((My.isP_iff n).mp e).1;omega
   rw[this]at q
   exact q
  ·have hc:=AN (Bb _▸hc)
   refine⟨fun m σ H2=>∃ d:Int,σ=[some (.int n),some (.int d)]/\H2=H/\2<=d/\d<=n/\My.NoDiv n d/\m=(n+1 - d).toNat,⟨_,2,rfl,rfl,by omega,by omega,⟨fun e h1 h2=>by omega⟩,rfl⟩,?_⟩
   rintro m σ H2 ⟨d,rfl,rfl,h2,hdn,nd,rfl⟩
   refine⟨_,rfl,_,rfl,d,d,rfl,rfl,.inl ⟨by omega,by omega⟩,_,rfl,_,_,rfl,rfl,_,rfl,?_⟩
   refine bB (fun hd=>?_) (fun hd=>?_)
   ·have hd:=yr hd
    have a:2 * d<=d * d:=Ba h2 (by omega)
    refine⟨fun σ' H'=>σ'=[some (.int n),some (.int (d+1))]/\H'=H2/\Int.fmod n d≠0,fun σ' H' ⟨e1,e2,e3⟩=>⟨(n+1 - (d+1)).toNat,by omega,d+1,e1,e2,by omega,by omega,⟨fun e h1 h3=>?_⟩,rfl⟩,?_⟩
    ·by_cases c:e<d
     ·exact nd.is e h1 c
     ·have:e=d:=by omega
      rw[this];exact e3
    ·refine⟨_,rfl,_,rfl,n,d,rfl,rfl,(by show (0:Int)<d;omega),rfl,_,rfl,?_⟩
     have em:Int.fmod n d=n % d:=yZ _ (by omega)
     refine bB (fun hz=>?_) (fun hz=>?_)
     ·have hz:=yr hz
      injection hz with hz
      have:My.isP n=false:=by
       cases e:My.isP n with
       | false=>rfl
       | true=>exact absurd (em.trans hz) (((My.isP_iff n).mp e).2 d h2 hd)
      rw[this]at q
      exact q
     ·have hz:=AN (Bb _▸hz)
      exact⟨_,rfl,_,_,rfl,rfl,rfl,rfl,fun z=>hz (by show V.int (n % d)=V.int 0;rw[<- em,z])⟩
   ·have hd:=AN (Bb _▸hd)
    have:My.isP n=true:=by
     rw[My.isP_iff]
     refine⟨by omega,fun e he hee=>nd.is e he ?_⟩
     by_cases c:e<d
     ·exact c
     ·exfalso
      have a1:d * d<=e * d:=Ba (by omega) (by omega)
      have b1:e * d<=e * e:=Bd (by omega) (by omega)
      omega
    rw[this]at q
    exact q
abbrev rF:Stmt:=aS (top 34) 0
theorem wN:am ["self","prime"] ["self","prime"] (ag rF):=⟨rfl,rfl,rfl,by decide +kernel,rfl,by decide +kernel,by decide +kernel⟩
def iR (C aN:Addr):Sp:=fun vs H Q E=>∃ (x dx:Addr)(p:Int),vs=[.ref x,.int p]/\H x=some (.ins C dx [])/\(p<=1000000->My.isP p=true->Q .non (upd H x (.ins C dx [("prime",.int p)])))/\(¬ (p<=1000000/\My.isP p=true)->E (.ref aN) none H)
theorem xo {f:Addr}{fd:FuncData} (F:Fun K "__init__" "Field.__init__" rF f fd) (T:TxtP K mg C aN) (D_is_prime:Df P w K mg base 1 "is_prime" ["number"] fY):FnOk P w K mg base (CXE P w) 2 f fd ["self","prime"] (iR C aN):=by
 obtain⟨tk,hgG⟩:=T.g_G
 have TX:=T
 refine F.okX wN (fun vs H Q E h=>?_) (fun cdv A outer s H vs Q E hr h=>?_)
 ·obtain⟨x,dx,p,rfl,_⟩:=h
  rfl
 ·obtain⟨x,dx,p,rfl,hx,q1,q2⟩:=h
  refine⟨_,(aa (ba (PW.pt (qa (aw sZ (pv 1) (bX (v:=.int 1000000) rfl hgG ⟨_,rfl⟩) (aD _)) (lA (gk (d6 (aq D_is_prime (hr.mono (by decide)) rfl (a8 (pv 1) ad)))))))
  (ae (bI rfl c7 rfl TX.c_NoPrime TX.x_NoPrime))
  aE)
 (ae (jD (pv 0) (pv 1) rfl))),?_⟩
  refine⟨_,rfl,_,_,rfl,rfl,_,rfl,?_⟩
  refine bB (fun hc=>bA (q2 fun z=>by have:=yr hc;omega)) (fun hc=>?_)
  have hc:=AN (Bb _▸hc)
  refine⟨_,rfl,p,rfl,by omega,_,rfl,?_⟩
  refine bB (fun hc2=>q2 fun z=>by rw[z.2]at hc2;cases hc2) (fun hc2=>?_)
  have hP:My.isP p=true:=by
   cases e:My.isP p with
   | true=>rfl
   | false=>rw[e]at hc2;exact absurd rfl hc2
  exact⟨_,rfl,_,rfl,x,C,dx,[],rfl,hx,T.cl,T.nP,(by show 0<1000;decide),q1 (by omega) hP⟩
end
end K52
namespace L2
open PySem PySem.Spec PyProof.Rows
section
variable {K : PySem.W.Frag}{js : List Nat}{te : TE}{σ : St}{F : Addr -> Hp -> Prop}{H : Hp}
theorem sG (g:Nat->List V){pr:Key×V->V}{o:Obj}{d:Addr}{kvs:List (Key×V)} (hfr:H d=some (.frz o (.dK kvs))) (hz:kvs.length<=1000)
  (hs:∀ (i:Nat)(kv:Key×V) H2,kvs[i]?=some kv->Same H H2->te (some (pr kv)::bz σ js) H2 fun v H5=>Same H2 H5/\∃ t e,v=.ref t/\H2 t=none/\H2 e=none/\H5 t=some (.tup [pr kv,.ref e])/\H5 e=some (.lst (g i)))
  (hd:∀ l H' (ts ls:List Addr),H l=none->Same H H'->H' l=some (.lst (ts.map V.ref))->ts.length=kvs.length->ls.length=kvs.length->ls.Nodup->(∀ (i:Nat) kv t e,kvs[i]?=some kv->ts[i]?=some t->ls[i]?=some e->H' t=some (.tup [pr kv,.ref e])/\H' e=some (.lst (g i))/\H e=none/\e≠l)->F l H'):bi 1 js (bd 0) fU te σ F (Itp pr o d) H:=by
 intro l hl0
 refine⟨fun i m σ' H2=>m=kvs.length - i/\i<=kvs.length/\(∃ o1,σ'=o1::bz σ js)/\Same H H2/\∃ ts ls:List Addr,ts.length=i/\ls.length=i/\H2 l=some (.lst (ts.map V.ref))/\ls.Nodup/\∀ (j:Nat) kv t e,kvs[j]?=some kv->ts[j]?=some t->ls[j]?=some e->H2 t=some (.tup [pr kv,.ref e])/\H2 e=some (.lst (g j))/\H e=none/\e≠l,
  ⟨kvs.length,by simp,yP _,⟨none,rfl⟩,az (Same.refl _) hl0,[],[],rfl,rfl,a9,List.nodup_nil,fun j kv t e _ h=>by simp at h⟩,?_⟩
 rintro i m σ' H2 ⟨rfl,hi,⟨o1,rfl⟩,e,ts,ls,htl,hll,hl,nd,hp⟩
 have q:=e _ _ hfr
 by_cases hlt:i<kvs.length
 ·refine .inr ⟨⟨kvs,kvs[i],q,by simp[hlt]⟩,fun x H3 y=>?_⟩
  obtain⟨rfl,y⟩:=y
  obtain⟨kv,e1,rfl⟩:=y kvs q
  refine⟨fun _=>False,fun v H5=>Same H3 H5/\∃ t e,v=.ref t/\H3 t=none/\H3 e=none/\H5 t=some (.tup [pr kv,.ref e])/\H5 e=some (.lst (g i)),fun H4 p4=>p4.elim,fun v H5 ⟨e5,t,ea,ev,ht0,he0,ht,he⟩=>?_,hs i kv H3 e1 e⟩
  subst ev
  have ntl:t≠l:=(ah hl ht0).symm
  have nel:ea≠l:=(ah hl he0).symm
  have nin:ea∉ls:=fun hm=>by
   obtain⟨j,hj⟩:=zW.mp hm
   have hjl:=(yd.mp hj).1
   obtain⟨h1,h2,_⟩:=hp j kvs[j] ts[j] ea (yb (by omega)) (yb (by omega)) hj
   rw[he0]at h2
   cases h2
  refine⟨_,e5 _ _ hl,by rw[y9,htl];exact yH hi (yH hz (by decide)),_,?_,rfl,hlt,⟨_,rfl⟩,au (e.trans e5) hl0,ts++[t],ls++[ea],by simp[htl],by simp[hll],by rw[a9,yI];rfl,?_,fun j kv' t' e' h1 h2 h3=>?_⟩
  ·omega
  ·rw[Az]
   exact⟨nd,by simp,fun a ha b hb=>by rw[yL.mp hb];exact fun z=>nin (z▸ha)⟩
  ·by_cases c:j<i
   ·rw[yK (by omega)]at h2
    rw[yK (by omega)]at h3
    obtain⟨g1,g2,g3,g4⟩:=hp j kv' t' e' h1 h2 h3
    refine⟨?_,?_,g3,g4⟩
    ·rw[af (fun z=>by rw[z,hl]at g1;cases g1)];exact e5 _ _ g1
    ·rw[af g4];exact e5 _ _ g2
   ·have hj:j=i:=by
     have:=(yd.mp h2).1
     rw[yu,htl]at this
     simp at this
     omega
    subst hj
    rw[yF (by omega),htl,Nat.sub_self]at h2
    rw[yF (by omega),hll,Nat.sub_self]at h3
    have h2:t=t':=by simpa using h2
    have h3:ea=e':=by simpa using h3
    subst h2 h3
    rw[e1]at h1
    cases h1
    refine⟨by rw[af ntl];exact ht,by rw[af nel];exact he,e.free he0,nel⟩
 ·have ei:i=kvs.length:=by omega
  subst ei
  exact .inl ⟨⟨kvs,q,yi _⟩,hd l H2 ts ls hl0 e hl htl hll nd hp⟩
end
end L2
namespace K52
open PySem L2
open PyProof.Rows (boot_list boot_int boot_bool boot_tuple boot_str boot_dict boot_all boot_sorted)
abbrev aO:=Int×Addr×List Int
def aI (rows:List aO):List (Key×V):=rows.map fun r=>((Sum.inl r.1:Key),V.ref r.2.1)
structure PlanAt (H : Hp) (d : Addr) (rows : List aO) : Prop where
  dict : H d = some (.dK (aI rows))
  row : ∀ r ∈ rows, H r.2.1 = some (.lst (r.2.2.map V.int))
theorem PlanAt.mono {H H':Hp}{d:Addr}{rows:List aO} (e:Same H H') (h:PlanAt H d rows):PlanAt H' d rows:=⟨e _ _ h.dict,fun r hr=>e _ _ (h.row r hr)⟩
def bb (rows:List aO)(n:Int):Option aO:=rows.find? fun r=>decide (r.1=n)
theorem c9 {rows:List aO}{n:Int}{r:aO} (h:bb rows n=some r):r∈rows/\r.1=n:=⟨zk h,yr (by have:=zY h;exact this)⟩
theorem cu (rows:List aO)(n:Int):b7 (aI rows) (Sum.inl n)=(bb rows n).map fun r=>V.ref r.2.1:=by
 unfold b7 aI bb
 induction rows with
 | nil=>rfl
 | cons x ws ih=>
  rw[yN,yQ,yQ]
  by_cases h:x.1=n
  ·rw[ye h,ye (show (Sum.inl x.1:Key)=Sum.inl n by rw[h])]
   rfl
  ·rw[yj h,yj (show ¬ (Sum.inl x.1:Key)=Sum.inl n from fun z=>h (Sum.inl.inj z))]
   exact ih
def cF (rows:List aO)(p:Int)(m:Int×Int):Bool:=match bb rows m.1 with
 | none=>true
 | some r=>!dJ p r.2.2 m.2
def fH (ms:List (Int×Int))(rows:List aO):List Int:=(rows.map (·.1)).filter fun n=>!decide (n∈ms.map (·.1))
def gy (ms:List (Int×Int))(rows:List aO):List (Int×List Int):=ms.map fun m=>(m.1,((bb rows m.1).map (·.2.2)).getD [])
def fT (ms:List (Int×Int)):List (Key×V):=ms.map fun m=>((Sum.inl m.1:Key),V.int m.2)
theorem wC (ms:List (Int×Int))(n:Int):(b7 (fT ms) (Sum.inl n)).isSome=decide (n∈ms.map (·.1)):=by
 unfold fT
 rw[iO,AX]
 rw[ze,List.find?_isSome]
 simp only[zU,yw]
structure TxtC (mg : Str -> Option Value) : Prop where
  n_dict : mg "dict" = none
  n_len : mg "len" = none
  n_list : mg "list" = none
  n_min : mg "min" = none
section
variable {P : Program}{w : World}{K : PySem.W.Frag}{mg : Str -> Option Value}{base : Heap}{C aN aP : Addr}
abbrev cz:Stmt:=aS (top 14) 0
theorem ie:am ["self","number"] ["self","number"] (ag cz):=⟨rfl,rfl,rfl,by decide +kernel,rfl,by decide +kernel,by decide +kernel⟩
theorem lO {C:Addr}{f:Addr}{fd:FuncData} (F:Fun K "__init__" "NoPlan.__init__" cz f fd) (T:y6 K C "number"):FnOk P w K mg base CX0 1 f fd ["self","number"] (gH C "number"):=by
 refine F.ok ie (fun vs H Q E h=>?_) (fun cdv A outer s H vs Q E hr h=>?_)
 ·obtain⟨ea,y,rfl,_⟩:=h
  rfl
 ·obtain⟨ea,y,rfl,he,q⟩:=h
  refine⟨_,(ae (wU T (pv 0) (pv 1) rfl)),?_⟩
  exact⟨_,rfl,_,rfl,ea,rfl,he,q⟩
structure kJ (c : Cl) (H : Hp) (n d : Addr) (S : NS) (rows : List aO) (many p : Int) : Prop where
  net : ∃ dp dt, NetAt c H n dp dt S
  ac : mQ (bE S)
  ends : ∀ t ∈ S.ties, t.2.2.1 ∈ S.names
  tz : S.ties.length < 64
  pz : S.posts.length <= 1000
  nd : ((wants S many).map (·.1)).Nodup
  wz : (wants S many).length < 64
  plan : PlanAt H d rows
  rz : rows.length <= 1000
  lz : ∀ r ∈ rows, r.2.2.length <= 1000
def ia (c:Cl)(C aN aP:Addr):Sp:=fun vs H Q E=>∃ (n d:Addr)(S:NS)(rows:List aO)(many p:Int),vs=[.ref n,.ref d,.int many,.int p]/\kJ c H n d S rows many p/\
 (¬ (p<=1000000/\My.isP p=true)->∀ H',Same H H'->E (.ref aN) none H')/\
 (p<=1000000->My.isP p=true->∀ ms:List (Int×Int),ms.Perm (wants S many)->(ms.map (·.1)).Pairwise (·<=·)->
  (∀ m,ms.find? (cF rows p)=some m->∀ dx H',Same H H'->H' dx=some (.xd [("number",.int m.1)])->E (.ref aP) (some dx) H')/\
  (ms.find? (cF rows p)=none->∀ k∈fH ms rows,(∀ j∈fH ms rows,k<=j)->∀ dx H',Same H H'->H' dx=some (.xd [("number",.int k)])->E (.ref aP) (some dx) H')/\
  (ms.find? (cF rows p)=none->fH ms rows=[]->∀ e H' (rs:List aO),Same H H'->H e=none->PlanAt H' e rs->(rs.map fun r=>(r.1,r.2.2))=gy ms rows->(∀ r∈rs,H r.2.1=none)->Q (.ref e) H'))
abbrev dC:Stmt:=top 56
theorem sc_checked_plan:am ["net","plan","many","prime","field","lengths","number","strange"] ["net","plan","many","prime"] (ag dC):=⟨rfl,rfl,rfl,by decide +kernel,rfl,by decide +kernel,by decide +kernel⟩
theorem ko {c:Cl}{f:Addr}{fd:FuncData} (F:Fun K "checked_plan" "checked_plan" dC f fd) (O:Cl.Ok K c) (T:TxtC mg) (D_Field:DkX P w K mg base 2 "Field" C ["self","prime"] (iR C aN)) (D_wanted_lengths:Df P w K mg base 4 "wanted_lengths" ["net","many"] (jn c)) (D_is_row_of:Df P w K mg base 3 "is_row_of" ["field","row","length"] (fq K C)) (D_NoPlan:DiX P w K mg base 1 "NoPlan" aP ["self","number"] (gH aP "number")):FnOk P w K mg base (CXE P w) 5 f fd ["net","plan","many","prime"] (ia c C aN aP):=by
 refine F.okX sc_checked_plan (fun vs H Q E h=>?_) (fun cdv A outer s H vs Q E hr h=>?_)
 ·obtain⟨n,d,S,rows,many,p,rfl,_⟩:=h
  rfl
 ·obtain⟨n,d,S,rows,many,p,rfl,a,q1,q2⟩:=h
  have ND:=sc_checked_plan.nd
  obtain⟨dp,dt,N⟩:=a.net
  refine⟨_,(aa (ax (i:=4) ND rfl (by trivial) (lD dI D_Field (hr.mono (by decide)) rfl (a8 (pv 3) ad)))
 (aa (ax (i:=5) ND rfl (by trivial) (aq D_wanted_lengths (hr.mono (by decide)) rfl (a8 (pv 0) (a8 (pv 2) ad))))
 (aa (oF PassesOwn.leaving rfl (gL (pv 5)) (aj (i:=6) ND rfl (by trivial))
  (ae (ba (PW.pt (qa (fD (eU (bc hr) (pv 6) (pv 1))) (lA (gk (d6 (aq D_is_row_of (hr.mono (by decide)) rfl (a8 (pv 4) (a8 (bL (bc hr) (pv 1) (pv 6) (fun _ _=>rfl)) (a8 (bL (bc hr) (pv 5) (pv 6) (fun _ _=>rfl)) ad)))))))))
  (ae (mX iX rfl qT rfl D_NoPlan (hr.mono (by decide)) (a8 (pv 6) ad)))
  aE)))
 (aa (qc (i:=7) ND rfl rfl rfl (ak (nT:=1) (js:=[5]) (N':=["number","lengths"]) rfl rfl (by kernel_rfl)) (gL (pv 1))
  (fun _ _ _ _ _=>(aj (i:=0) (show List.Nodup (["number","lengths"]:List Str) by decide +kernel) rfl (by trivial)))
  (fun _ _ _ _ _=>(dQ (fD (eU (bc hr) (pv 0) (pv 1)))))
  (fun _ _ _ _ _=>(pv 0)))
 (aa (ba (aw sZ (aA (gU K) rfl T.n_len boot_len (a8 (pv 7) ad)) ai (aD _))
  (ae (mX iX rfl qT rfl D_NoPlan (hr.mono (by decide)) (a8 (aA (minK K rfl) rfl T.n_min my (a8 (pv 7) ad)) ad)))
  aE)
 (ae (ar (bY (bu rfl) rfl T.n_dict boot_dict (a8 (eS rfl (ak (nT:=1) (js:=[1]) (N':=["number","plan"]) rfl rfl (by kernel_rfl)) (gL (pv 5))
  (fun _ _ _ _ _=>(aj (i:=0) (show List.Nodup (["number","plan"]:List Str) by decide +kernel) rfl (by trivial)))
  (fun _ _ _ _ _=>aM)
  (fun _ _ _ _ _=>(bC (a8 (pv 0) (a8 (bY (vI K) rfl T.n_list boot_list (a8 (bL (bc hr) (pv 1) (pv 0) (fun _ _=>rfl)) ad)) ad))))) ad))))))))),?_⟩
  refine⟨_,rfl,fun fx dx nx ndx nex=>⟨fx,dx,p,rfl,a9,fun hp hP=>⟨rfl,?_⟩,fun hn=>q1 hn _ ?_⟩⟩
  case refine_2=>exact au (az (Same.refl H) ndx) nx
  have e1:=au (o:=.ins C dx [("prime",.int p)]) (au (o:=.ins C dx []) (az (o:=.own fx) (Same.refl H) ndx) nx) nx
  have q2:=q2 hp hP
  refine⟨_,rfl,_,rfl,n,dp,dt,S,many,rfl,N.mono e1,a.ac,a.ends,a.tz,a.pz,a.nd,a.wz,fun e H2 ms e2 he pm pw hms=>?_⟩
  have hm2:H2 e=some (.dK (fT ms)):=hms
  clear hms
  obtain⟨b1,b2,b3⟩:=q2 ms pm pw
  have wl:ms.length<64:=by rw[pm.length_eq];exact a.wz
  have he0:H e=none:=e1.free he
  have e02:Same H H2:=e1.trans e2
  have ll:(fT ms).length=ms.length:=by unfold fT;rw[y9]
  have lk:∀ (i:Nat) kv,(fT ms)[i]?=some kv->∃ m,ms[i]?=some m/\kv=((Sum.inl m.1:Key),V.int m.2):=fun i kv h=>by
   unfold fT at h
   rw[yf]at h
   obtain⟨m,em,rfl⟩:=yG.mp h
   exact⟨m,em,rfl⟩
  have nd:(ms.map (·.1)).Nodup:=(pm.map _).nodup_iff.mpr a.nd
  have lv:∀ m∈ms,b7 (fT ms) (Sum.inl m.1)=some (V.int m.2):=fun m hm=>by
   unfold fT
   rw[iO,dN nd m hm]
   rfl
  have fld:FieldAt C H2 fx p:=⟨dx,e2 _ _ a9⟩
  refine⟨_,rfl,e,_,rfl,hm2,fun o M hM=>?_⟩
  rw[sw]
  have frz:∀ {b:Addr}{u:HO}{H4:Hp},Same (upd H2 e (.frz o (.dK (fT ms)))) H4->b≠e->H2 b=some u->H4 b=some u:=fun {b u H4} e4 ne hb=>e4 _ _ (by rw[af ne];exact hb)
  have sm:∀ {H4:Hp},Same (upd H2 e (.frz o (.dK (fT ms)))) H4->Same H H4:=fun {H4} e4 b u hb=>frz e4 (ah hb he0) (e02 _ _ hb)
  have nde:d≠e:=ah a.plan.dict he0
  have nfe:fx≠e:=ah a9 he
  refine md (kvs:=fT ms) (fun i σ H4=>(∃ ov,σ=[some (.ref n),some (.ref d),some (.int many),some (.int p),some (.ref fx),some (.ref e),ov,none])/\Same (upd H2 e (.frz o (.dK (fT ms)))) H4/\∀ m∈ms.take i,cF rows p m=false) ⟨⟨none,rfl⟩,Same.refl _,by simp⟩ (fun i σ H4 _ ⟨_,e4,_⟩=>e4 _ _ a9) (fun i kv σ H4 ek ⟨⟨ov,es⟩,e4,hh⟩=>?_) (fun σ H4 ⟨⟨ov,es⟩,e4,hh⟩=>?_)
  ·subst es
   obtain⟨m,em,rfl⟩:=lk i kv ek
   have mm:=yh em
   have tk:ms.take (i+1)=ms.take i++[m]:=by rw[za,em];rfl
   have pl4:PlanAt H4 d rows:=⟨frz e4 nde (e02 _ _ a.plan.dict),fun r hr=>sm e4 _ _ (a.plan.row r hr)⟩
   have bad:cF rows p m=true->∀ H5,Same H4 H5->∀ dy,H5 dy=some (.xd [("number",.int m.1)])->E (.ref aP) (some dy) H5:=fun hb H5 e5 dy hdy=>by
    refine b1 m ?_ dy H5 ((sm e4).trans e5) hdy
    rw[Ak]
    obtain⟨hi,e6⟩:=yd.mp em
    refine⟨hb,i,hi,e6,fun j hj=>?_⟩
    rw[hh _ (zD.mpr ⟨j,by omega,rfl⟩)]
    rfl
   have raise:cF rows p m=true->∀ H5,Same H4 H5->∀ ea,H5 ea=none->gH aP "number" [.ref ea,.int m.1] (upd H5 ea (sB ea aP)) (fun v H6=>v=.non/\∃ dz,H6 ea=some (uD ea aP dz)/\E (.ref aP) (some dz) (hide ea H6)) E0:=fun hb H5 e5 ea hea=>by
    refine⟨ea,_,rfl,a9,fun dy hdy ne=>⟨rfl,dy,a9,?_⟩⟩
    have hdy:H5 dy=none:=by rw[af ne]at hdy;exact hdy
    refine bad hb _ (fun b u hb'=>?_) dy ?_
    ·have hb':=e5 _ _ hb'
     rw[cD (ah hb' hea),af (ah hb' hea),af (ah hb' hdy),af (ah hb' hea)]
     exact hb'
    ·rw[cD ne,af ne]
     exact a9
   refine⟨_,rfl,_,rfl,d,_,rfl,DGet.k (k:=Sum.inl m.1) pl4.dict,_,rfl,?_⟩
   rw[cu,AX]
   have keep:∀ H5,Same H4 H5->cF rows p m=false->(∃ ov,([some (.ref n),some (.ref d),some (.int many),some (.int p),some (.ref fx),some (.ref e),some (.int m.1),none]:St)=[some (.ref n),some (.ref d),some (.int many),some (.int p),some (.ref fx),some (.ref e),ov,none])/\Same (upd H2 e (.frz o (.dK (fT ms)))) H5/\∀ m∈ms.take (i+1),cF rows p m=false:=fun H5 e5 hb=>by
    refine⟨⟨_,rfl⟩,e4.trans e5,fun m' hm'=>?_⟩
    rw[tk]at hm'
    rcases yE.mp hm' with z|z
    ·exact hh m' z
    ·rw[yL.mp z];exact hb
   cases hr':bb rows m.1 with
   | none=>
    exact bA (bA ⟨_,rfl,(by show 1<=sizeLine;decide),raise (by unfold cF;rw[hr']) H4 (Same.refl _)⟩)
   | some r=>
    obtain⟨rm,rk⟩:=c9 hr'
    have hb:cF rows p m=!dJ p r.2.2 m.2:=by unfold cF;rw[hr']
    refine bv ?_
    refine⟨_,rfl,_,rfl,_,rfl,d,.ref r.2.1,rfl,?_,_,rfl,_,rfl,e,.int m.2,rfl,?_,fx,r.2.1,r.2.2,m.2,p,rfl,⟨dx,frz e4 nfe (e2 _ _ a9)⟩,pl4.row r rm,a.lz r rm,fun H5 e5=>⟨_,rfl,?_⟩⟩
    ·have:=DGet.k (k:=Sum.inl m.1) pl4.dict
     rw[cu,hr']at this
     exact this
    ·rw[<- lv m mm]
     exact .inl ⟨_,Sum.inl m.1,.inr ⟨o,e4 _ _ a9⟩,rfl,rfl⟩
    cases hw:dJ p r.2.2 m.2 with
    | true=>exact bv (keep H5 e5 (by rw[hb,hw];rfl))
    | false=>exact bA ⟨_,rfl,(by show 1<=sizeLine;decide),raise (by rw[hb,hw];rfl) H5 e5⟩
  ·subst es
   refine⟨e,o,_,hM,e4 _ _ a9,?_⟩
   have nob:ms.find? (cF rows p)=none:=by
    rw[zc]
    intro m hm
    rw[ll,zh]at hh
    rw[hh m hm]
    exact yv
   have b2:=b2 nob
   have b3:=b3 nob
   generalize hH5:upd H4 e (.dK (fT ms))=H5
   have e05:Same H H5:=by
    rw[<- hH5]
    exact au (sm e4) he0
   have hm5:H5 e=some (.dK (fT ms)):=by rw[<- hH5];exact a9
   have pl5:PlanAt H5 d rows:=a.plan.mono e05
   clear hH5
   refine⟨_,rfl,d,_,rfl,pl5.dict,fun o2 M2 hM2=>?_⟩
   have hpl:(aI rows).length=rows.length:=by unfold aI;rw[y9]
   refine iL (keep:=fun i=>!decide ((rows.getD i (0,0,[])).1∈ms.map (·.1))) (g:=fun i=>.int (rows.getD i (0,0,[])).1) a9 (by rw[hpl];exact a.rz) (fun i kv H6 ek e6=>?_) (fun l H6 hl0 e6 hl=>?_)
   ·have hi:i<rows.length:=by rw[<- hpl];exact (yd.mp ek).1
    have er:rows[i]?=some rows[i]:=yb hi
    have gd:rows.getD i (0,0,[])=rows[i]:=by rw[yk,er];rfl
    have ekv:kv=((Sum.inl rows[i].1:Key),V.ref rows[i].2.1):=by
     unfold aI at ek
     rw[yf,er]at ek
     exact (Option.some.inj ek).symm
    subst ekv
    rw[gd]
    refine⟨_,rfl,_,rfl,e,_,rfl,DGet.k (k:=Sum.inl rows[i].1) (e6 _ _ (by rw[af nde.symm];exact hm5)),_,rfl,?_⟩
    rw[wC]
    cases hb:decide (rows[i].1∈ms.map (·.1)) with
    | true=>exact bv ⟨rfl,Same.refl _⟩
    | false=>exact bA ⟨_,rfl,rfl,rfl,Same.refl _⟩
   ·refine⟨d,o2,_,hM2,e6 _ _ a9,?_⟩
    have odd:((List.range (aI rows).length).filter fun i=>!decide ((rows.getD i (0,0,[])).1∈ms.map (·.1))).map (fun i=>V.int (rows.getD i (0,0,[])).1)=(fH ms rows).map V.int:=by
     rw[hpl]
     rw[cJ rows (fun r=>!decide (r.1∈ms.map (·.1))) (fun r=>V.int r.1) _ _ fun i x hx=>by
      rw[yk,hx]
      exact⟨rfl,rfl⟩]
     unfold fH
     rw[AL,yq]
     rfl
    rw[odd]at hl
    have nld:l≠d:=fun z=>by rw[z,a9]at hl0;cases hl0
    have hl5:H5 l=none:=by rw[af nld]at hl0;exact hl0
    generalize hH7:upd H6 d (.dK (aI rows))=H7
    have e57:Same H5 H7:=by rw[<- hH7];exact bV pl5.dict e6
    have hl7:H7 l=some (.lst ((fH ms rows).map V.int)):=by rw[<- hH7,af nld];exact hl
    have e07:=e05.trans e57
    have pl7:=pl5.mono e57
    have hm7:=e57 _ _ hm5
    clear hH7
    refine⟨_,rfl,l,_,rfl,.inl (SqL.of hl7),_,_,rfl,rfl,_,rfl,?_⟩
    rw[y9]
    refine bB (fun hc=>?_) (fun hc=>?_)
    ·have hc:=yr hc
     refine⟨_,rfl,l,_,rfl,SqL.of hl7,(fun z=>by rw[z]at hc;simp at hc),fun k hk hk2=>⟨(by show 1<=sizeLine;decide),fun ea hea=>?_⟩⟩
     refine⟨ea,_,rfl,a9,fun dy hdy ne=>⟨rfl,dy,a9,?_⟩⟩
     have hdy:H7 dy=none:=by rw[af ne]at hdy;exact hdy
     refine b2 k hk hk2 dy _ (fun b u hb'=>?_) ?_
     ·have hb':=e07 _ _ hb'
      rw[cD (ah hb' hea),af (ah hb' hea),af (ah hb' hdy),af (ah hb' hea)]
      exact hb'
     ·rw[cD ne,af ne]
      exact a9
    ·have hc:¬ (0:Int)<((fH ms rows).length:Int):=fun z=>hc (ye z)
     have b3:=b3 (List.eq_nil_of_length_eq_zero (by omega))
     have good:∀ m∈ms,∃ r,bb rows m.1=some r:=fun m hm=>by
      have:=zc.mp nob m hm
      unfold cF at this
      cases hr':bb rows m.1 with
      | none=>rw[hr']at this;exact absurd rfl this
      | some r=>exact⟨r,rfl⟩
     refine⟨_,rfl,e,_,rfl,hm7,fun o3 M3 hM3=>sG (fun i=>(((bb rows (ms.getD i (0,0)).1).map (·.2.2)).getD []).map V.int) a9 (by rw[ll];omega) (fun i kv H8 ek e8=>?_) (fun L H8 ts ls hL0 e8 hL tl lsl lnd hv=>?_)⟩
     ·obtain⟨m,em,rfl⟩:=lk i kv ek
      obtain⟨r,hr'⟩:=good m (yh em)
      obtain⟨rm,rk⟩:=c9 hr'
      have gd:ms.getD i (0,0)=m:=by rw[yk,em];rfl
      have pl8:PlanAt H8 d rows:=⟨e8 _ _ (by rw[af nde];exact pl7.dict),fun r hr=>e8 _ _ (by rw[af (ah (a.plan.row r hr) he0)];exact pl7.row r hr)⟩
      rw[gd,hr']
      refine⟨_,rfl,_,rfl,_,rfl,d,.ref r.2.1,rfl,?_,r.2.1,_,rfl,.inl (SqL.of (pl8.row r rm)),fun b H9 e9 h9 hb=>⟨(by show 2<=sizeLine;decide),fun t H10 e10 h10 ht=>⟨e9.trans e10,t,b,rfl,e9.free h10,h9,ht,e10 _ _ hb⟩⟩⟩
      have:=DGet.k (k:=Sum.inl m.1) pl8.dict
      rw[cu,hr']at this
      exact this
     ·refine⟨e,o3,_,hM3,e8 _ _ a9,?_⟩
      have nLe:L≠e:=fun z=>by rw[z,a9]at hL0;cases hL0
      have e78:Same H7 (upd H8 e (.dK (fT ms))):=bV hm7 e8
      have at_:∀ (i:Nat)(m:Int×Int)(t b:Addr),ms[i]?=some m->ts[i]?=some t->ls[i]?=some b->H8 t=some (.tup [.int m.1,.ref b])/\H8 b=some (.lst ((((bb rows m.1).map (·.2.2)).getD []).map V.int))/\H7 b=none/\b≠e/\t≠e:=fun i m t b h1 h2 h3=>by
       obtain⟨g1,g2,g3,g4⟩:=hv i _ t b (by unfold fT;rw[yf,h1];rfl) h2 h3
       have gd:ms.getD i (0,0)=m:=by rw[yk,h1];rfl
       rw[gd]at g2
       have nbe:b≠e:=fun z=>by rw[z,a9]at g3;cases g3
       exact⟨g1,g2,by rw[af nbe]at g3;exact g3,nbe,fun z=>by rw[z,e8 _ _ a9]at g1;cases g1⟩
      have zf:(ms.zip ls).map Prod.fst=ms:=List.map_fst_zip (by omega)
      refine⟨L,(ms.zip ls).map fun p=>((Sum.inl p.1.1:Key),V.ref p.2),rfl,⟨ts.map V.ref,by rw[af nLe];exact hL,jE (by rw[y9,y9,List.length_zip];omega) fun i v kv h2 h3=>?_⟩,by rw[y9,List.length_zip];omega,fun D G eG hD0 hD=>?_⟩
      ·rw[yf]at h2 h3
       obtain⟨t,et,rfl⟩:=yG.mp h2
       obtain⟨⟨m,b⟩,emb,rfl⟩:=yG.mp h3
       obtain⟨hm',hb'⟩:=AH.mp emb
       obtain⟨g1,_,_,_,g6⟩:=at_ i m t b hm' et hb'
       exact⟨t,rfl,by rw[af g6];exact g1⟩
      ·rw[ce _ [] (by
        rw[zb,yq]
        have:((fun x:Key×V=>x.1) ∘ fun p:(Int×Int)×Addr=>((Sum.inl p.1.1:Key),V.ref p.2))=(fun x:Int=>(Sum.inl x:Key)) ∘ (fun m:Int×Int=>m.1) ∘ Prod.fst:=rfl
        rw[this,<- yq,<- yq,zf]
        exact yU.mpr (zV.mpr ((yU.mp nd).imp fun h z=>h (Sum.inl.inj z)))),zb]at hD
       have ein:∀ r∈(ms.zip ls).map (fun p=>((p.1.1,p.2,((bb rows p.1.1).map (·.2.2)).getD []):aO)),G r.2.1=some (.lst (r.2.2.map V.int))/\H r.2.1=none:=fun r hr=>by
        obtain⟨⟨m,b⟩,hmb,rfl⟩:=yw.mp hr
        obtain⟨i,hi⟩:=zW.mp hmb
        obtain⟨hm',hb'⟩:=AH.mp hi
        have hlt:=(yd.mp hb').1
        obtain⟨_,g2,g3,g5,_⟩:=at_ i m (ts[i]'(by omega)) b hm' (yb (by omega)) hb'
        exact⟨eG _ _ (by rw[af g5];exact g2),e07.free g3⟩
       refine b3 D G ((ms.zip ls).map fun p=>(p.1.1,p.2,((bb rows p.1.1).map (·.2.2)).getD [])) (e07.trans (e78.trans eG)) ((e07.trans e78).free hD0) ⟨?_,fun r hr=>(ein r hr).1⟩ ?_ (fun r hr=>(ein r hr).2)
       ·unfold aI
        rw[yq]
        exact hD
       ·rw[yq]
        unfold gy
        have:((fun r:aO=>(r.1,r.2.2)) ∘ fun p:(Int×Int)×Addr=>((p.1.1,p.2,((bb rows p.1.1).map (·.2.2)).getD []):aO))=(fun m:Int×Int=>(m.1,((bb rows m.1).map (·.2.2)).getD [])) ∘ Prod.fst:=rfl
        rw[this,<- yq,zf]
end
structure Txt (K : PySem.W.Frag) (mg : Str -> Option Value) (C : Addr) : Prop where
  cl : Cls K C
  nP : NoAttr K C "prime"
  n_range : mg "range" = none
  n_zip : mg "zip" = none
  n_sum : mg "sum" = none
def hZ (C:Addr):Sp:=fun vs H Q _=>∃ (f:Addr)(n p:Int),vs=[.ref f,.int n]/\FieldAt C H f p/\0<p/\Q (.int (n % p)) H
section
variable {P : Program}{w : World}{K : PySem.W.Frag}{mg : Str -> Option Value}{base : Heap}
abbrev v8:Stmt:=aS (top 34) 1
theorem sc_fit:am ["self","number"] ["self","number"] (ag v8):=⟨rfl,rfl,rfl,by decide +kernel,rfl,by decide +kernel,by decide +kernel⟩
theorem ok_fit {f C:Addr}{fd:FuncData} (F:Fun K "fit" "Field.fit" v8 f fd) (T:Txt K mg C):FnOk P w K mg base CX0 1 f fd ["self","number"] (hZ C):=by
 refine F.ok sc_fit (fun vs H Q E h=>?_) (fun cdv A outer s H vs Q E hr h=>?_)
 ·obtain⟨f,n,p,rfl,_⟩:=h
  rfl
 ·obtain⟨f,n,p,rfl,⟨dx,hf⟩,hp,q⟩:=h
  refine⟨_,(ae (ar (aF be (pv 1) (eK K (pv 0) rfl)))),?_⟩
  refine⟨_,rfl,_,rfl,f,C,dx,_,_,rfl,hf,T.cl,T.nP,rfl,_,_,rfl,rfl,hp,q⟩
def InF (p:Int)(r:List Int):Prop:=∀ a∈r,0<=a/\a<p
theorem aH {α:Type}{l:List α}{i:Nat}{x d:α} (h:l[i]?=some x):l.getD i d=x:=by
 rw[yk,h];rfl
theorem sT:∀ (xs ys:List Int),((List.range (min xs.length ys.length)).map fun i=>xs.getD i 0 * ys.getD i 0).sum=Mx.dot xs ys
 | [],_=>by simp[Mx.dot]
 | _::_,[]=>by simp[Mx.dot]
 | a::x,b::y=>by
  rw[show min (a::x).length (b::y).length=min x.length y.length+1 by simp only[yY];omega,List.range_succ_eq_map,yN,yq,List.sum_cons]
  show a * b+((List.range (min x.length y.length)).map ((fun i=>(a::x).getD i 0 * (b::y).getD i 0) ∘ Nat.succ)).sum=a * b+Mx.dot x y
  rw[<- sT x y]
  rfl
def fi (C:Addr):Sp:=fun vs H Q _=>∃ (f:Addr)(x y:V)(p:Int)(xs ys:List Int),vs=[.ref f,x,y]/\FieldAt C H f p/\0<p/\p<=1000000/\Rw H x xs/\Rw H y ys/\InF p xs/\xs.length<=1000/\
 ∀ H',Same H H'->Q (.int (Mx.rowSum p xs ys)) H'
abbrev jy:Stmt:=top 36
theorem rD:am ["field","one","other"] ["field","one","other"] (ag jy):=⟨rfl,rfl,rfl,by decide +kernel,rfl,by decide +kernel,by decide +kernel⟩
theorem rR {f C:Addr}{fd:FuncData} (F:Fun K "row_sum" "row_sum" jy f fd) (T:Txt K mg C) (D_Field_fit:Dm P w K mg base 1 C "fit" ["self","number"] (hZ C)):
  FnOk P w K mg base CX0 3 f fd ["field","one","other"] (fi C):=by
 refine F.ok rD (fun vs H Q E h=>?_) (fun cdv A outer s H vs Q E hr h=>?_)
 ·obtain⟨f,x,y,p,xs,ys,rfl,_⟩:=h
  rfl
 ·obtain⟨f,x,y,p,xs,ys,rfl,hf,hp,hp2,⟨a,rfl,ha⟩,⟨b,rfl,hb⟩,hx,hz,q⟩:=h
  obtain⟨dx,hfd⟩:=id hf
  refine⟨_,(ae (ar (aZ (pv 0) D_Field_fit (hr.mono (by decide)) (a8 (aA (sumK K rfl) rfl T.n_sum wt (a8 (aX rfl (ak (nT:=2) (js:=[]) (N':=["mine","theirs"]) rfl rfl (by kernel_rfl)) (wX K rfl T.n_zip (a8 (pv 1) (a8 (pv 2) ad)))
  (fun _ _ _ _ _=>(gT K (n:=2) rfl (av (aj (i:=0) (show List.Nodup (["mine","theirs"]:List Str) by decide +kernel) rfl (by trivial)) (av (aj (i:=1) (show List.Nodup (["mine","theirs"]:List Str) by decide +kernel) rfl (by trivial)) bw))))
  (fun _ _ _ _ _=>aM)
  (fun _ _ _ _ _=>(aF gq (pv 0) (pv 1)))) ad)) ad)))),?_⟩
  refine⟨_,rfl,f,dx,_,rfl,hfd,rfl,_,rfl,_,rfl,a,b,rfl,⟨_,SqL.of ha⟩,⟨_,SqL.of hb⟩,nQ (fun i=>xs.getD i 0 * ys.getD i 0) ha hb (by rw[y9];omega) (fun i x y T' H2 ex ey e hT=>?_) (fun l H' h0 e hl=>?_)⟩
  ·obtain⟨u,eu,rfl⟩:=gv ex
   obtain⟨v,ev,rfl⟩:=gv ey
   have hu:=hx u (yh eu)
   exact⟨_,rfl,_,rfl,_,_,rfl,rfl,.inl ⟨by omega,by omega⟩,by rw[aH eu,aH ev],az (Same.refl _) hT⟩
  ·refine⟨l,_,rfl,SqL.of hl,f,_,p,rfl,hf.mono e,hp,?_⟩
   rw[y9,y9,sT,<- Mx.rowSum_eq]
   exact q H' e
def HasAt (H:Hp)(k:Int)(v:V)(n:Int):Prop:=∃ d kvs,v=.ref d/\H d=some (.dK kvs)/\b7 kvs (Sum.inl k)=some (.int n)
def jt:Sp:=fun vs H Q _=>∃ (a:Addr)(xs:List V)(k:Int)(ns:List Int),vs=[.ref a,.int k]/\H a=some (.lst xs)/\xs.length<=1000/\Paired (HasAt H k) xs ns/\
 ∀ l H',Same H H'->H l=none->H' l=some (.lst (ns.map V.int))->Q (.ref l) H'
abbrev lc:Stmt:=top 37
theorem tW:am ["table","place"] ["table","place"] (ag lc):=⟨rfl,rfl,rfl,by decide +kernel,rfl,by decide +kernel,by decide +kernel⟩
theorem uj {f:Addr}{fd:FuncData} (F:Fun K "column" "column" lc f fd):FnOk P w K mg base CX0 1 f fd ["table","place"] jt:=by
 refine F.ok tW (fun vs H Q E h=>?_) (fun cdv A outer s H vs Q E hr h=>?_)
 ·obtain⟨a,xs,k,ns,rfl,_⟩:=h
  rfl
 ·obtain⟨a,xs,k,ns,rfl,ha,hz,hp,q⟩:=h
  have hl:=Paired.length hp
  refine⟨_,(ae (ar (aX rfl (ak (nT:=1) (js:=[1]) (N':=["row","place"]) rfl rfl (by kernel_rfl)) (c6 K (pv 0))
  (fun _ _ _ _ _=>(aj (i:=0) (show List.Nodup (["row","place"]:List Str) by decide +kernel) rfl (by trivial)))
  (fun _ _ _ _ _=>aM)
  (fun _ _ _ _ _=>(bL (bc hr) (pv 0) (pv 1) (fun _ _=>rfl)))))),?_⟩
  refine⟨_,rfl,a,rfl,⟨_,SqL.of ha⟩,cM (fun i=>ns.getD i 0) ha hz (fun i x H2 ex e=>?_) (fun l H' h0 e hl'=>q l H' e h0 ?_)⟩
  ·obtain⟨n,en,d,kvs,rfl,hd,hv⟩:=Paired.at hp ex
   refine⟨_,rfl,_,rfl,d,.int n,rfl,hv▸DGet.k (k:=Sum.inl k) (e _ _ hd),?_,Same.refl _⟩
   rw[aH en]
  ·rw[hl',hl]
   congr 3
   apply zz
   intro i
   rw[yf]
   by_cases h:i<ns.length
   ·rw[zi h,yb h]
    show some (ns.getD i 0)=some ns[i]
    rw[aH (yb h)]
   ·rw[yo (by simpa using h),yo (by omega)]
    rfl
abbrev ik:Stmt:=top 38
theorem pM:am ["many","own"] ["many","own"] (ag ik):=⟨rfl,rfl,rfl,by decide +kernel,rfl,by decide +kernel,by decide +kernel⟩
def dO:Sp:=fun vs H Q _=>∃ (n i:Nat),vs=[.int (n:Int),.int (i:Int)]/\n<=1000/\∀ l H',Same H H'->H l=none->H' l=some (.lst ((Mx.onesRow n i).map V.int))->Q (.ref l) H'
theorem qi {f C:Addr}{fd:FuncData} (F:Fun K "ones_row" "ones_row" ik f fd) (T:Txt K mg C):FnOk P w K mg base CX0 1 f fd ["many","own"] dO:=by
 refine F.ok pM (fun vs H Q E h=>?_) (fun cdv A outer s H vs Q E hr h=>?_)
 ·obtain⟨n,i,rfl,_⟩:=h
  rfl
 ·obtain⟨n,i,rfl,hn,q⟩:=h
  refine⟨_,(ae (ar (aX rfl (ak (nT:=1) (js:=[1]) (N':=["place","own"]) rfl rfl (by kernel_rfl)) (cg rfl T.n_range (a8 (pv 0) ad))
  (fun _ _ _ _ _=>(aj (i:=0) (show List.Nodup (["place","own"]:List Str) by decide +kernel) rfl (by trivial)))
  (fun _ _ _ _ _=>aM)
  (fun _ _ _ _ _=>(lF (aw ci (pv 0) (pv 1) (aD _)) ai ai))))),?_⟩
  refine⟨_,rfl,_,rfl,by omega,by omega,?_⟩
  rw[zm]
  refine k9 (n:=n) (fun j=>if j=i then 1 else 0) hn (fun j H2 hj e=>?_) (fun l H' h0 e hl=>q l H' e h0 hl)
  refine⟨_,rfl,_,rfl,rfl,_,rfl,?_⟩
  refine bB (fun hc=>?_) (fun hc=>?_)
  ·have hc:=yr hc
   injection hc with hc
   have c:j=i:=by omega
   exact⟨by rw[if_pos c],Same.refl _⟩
  ·have hc:=AN (Bb _▸hc)
   have c:¬ j=i:=fun z=>hc (by rw[z,Int.zero_add])
   exact⟨by rw[if_neg c],Same.refl _⟩
abbrev rE:Stmt:=top 39
theorem wM:am ["many"] ["many"] (ag rE):=⟨rfl,rfl,rfl,by decide +kernel,rfl,by decide +kernel,by decide +kernel⟩
def kB:Sp:=fun vs H Q _=>∃ (n:Nat),vs=[.int (n:Int)]/\n<=1000/\∀ l H',Same H H'->TbN H H' l (Mx.ones n)->Q (.ref l) H'
theorem xm {f C:Addr}{fd:FuncData} (F:Fun K "ones" "ones" rE f fd) (T:Txt K mg C) (D_ones_row:Df P w K mg base 1 "ones_row" ["many","own"] dO):FnOk P w K mg base CX0 2 f fd ["many"] kB:=by
 refine F.ok wM (fun vs H Q E h=>?_) (fun cdv A outer s H vs Q E hr h=>?_)
 ·obtain⟨n,rfl,_⟩:=h
  rfl
 ·obtain⟨n,rfl,hn,q⟩:=h
  refine⟨_,(ae (ar (aX rfl (ak (nT:=1) (js:=[0]) (N':=["own","many"]) rfl rfl (by kernel_rfl)) (cg rfl T.n_range (a8 (pv 0) ad))
  (fun _ _ _ _ _=>(aj (i:=0) (show List.Nodup (["own","many"]:List Str) by decide +kernel) rfl (by trivial)))
  (fun _ _ _ _ _=>aM)
  (fun _ _ _ _ _=>(aq D_ones_row (hr.mono (by decide)) rfl (a8 (pv 1) (a8 (pv 0) ad))))))),?_⟩
  refine⟨_,rfl,_,rfl,by omega,by omega,?_⟩
  rw[zm]
  refine qX (n:=n) (fun j=>Mx.onesRow n j) hn (fun j H2 hj e=>?_) (fun l H' hN e=>q l H' e hN)
  refine⟨_,rfl,_,rfl,n,j,?_,hn,fun l H5 e5 h0 hl=>⟨⟨l,rfl,h0,hl⟩,e5⟩⟩
  rw[Int.zero_add]
  rfl
end
section
variable {P : Program}{w : World}{K : PySem.W.Frag}{mg : Str -> Option Value}{base : Heap}{C : Addr}
abbrev Cs:=List (Int×Int)
def csD (cs:Cs):List (Key×V):=cs.map fun r=>((Sum.inl r.1:Key),V.int r.2)
def cC (cs:Cs)(k:Int):Option Int:=(cs.find? fun x=>decide (x.1=k)).map (·.2)
theorem rn (cs:Cs)(k:Int):b7 (csD cs) (Sum.inl k)=(cC cs k).map V.int:=by
 unfold csD cC
 rw[iO,Option.map_map]
 rfl
def inc (msg:List Int)(cs:Cs):Option (List Int)->List Int
 | none=>msg
 | some ks=>ks.map fun k=>(cC cs k).getD 0
def MixW (H:Hp)(m:V):Option (List Int)->Prop
 | none=>m=.non
 | some ks=>Rw H m ks
theorem MixW.mono {H H':Hp}(e:Same H H'){m:V}:∀ {r:Option (List Int)},MixW H m r->MixW H' m r
 | none,h=>h
 | some _,h=>Rw.mono e h
def gI:Sp:=fun vs H Q _=>∃ (m x:V)(d:Addr)(cs:Cs)(msg:List Int)(mo:Option (List Int)),vs=[m,x,.ref d]/\Rw H m msg/\MixW H x mo/\H d=some (.dK (csD cs))/\(∀ ks,mo=some ks->ks.length<=1000/\∀ k∈ks,∃ n,cC cs k=some n)/\
 ∀ v H',Same H H'->Rw H' v (inc msg cs mo)->Q v H'
abbrev gb:Stmt:=top 57
theorem ou:am ["message","mixed","carries"] ["message","mixed","carries"] (ag gb):=⟨rfl,rfl,rfl,by decide +kernel,rfl,by decide +kernel,by decide +kernel⟩
theorem oR {f:Addr}{fd:FuncData} (F:Fun K "coming_in" "coming_in" gb f fd):FnOk P w K mg base CX0 1 f fd ["message","mixed","carries"] gI:=by
 refine F.ok ou (fun vs H Q E h=>?_) (fun cdv A outer s H vs Q E hr h=>?_)
 ·obtain⟨m,x,d,cs,msg,mo,rfl,_⟩:=h
  rfl
 ·obtain⟨m,x,d,cs,msg,mo,rfl,hm,hx,hd,hk,q⟩:=h
  refine⟨_,(aa (ba (aw oN (pv 1) bD (aD _))
  (ae (ar (pv 0)))
  aE)
 (ae (ar (aX rfl (ak (nT:=1) (js:=[2]) (N':=["number","carries"]) rfl rfl (by kernel_rfl)) (c6 K (pv 1))
  (fun _ _ _ _ _=>(aj (i:=0) (show List.Nodup (["number","carries"]:List Str) by decide +kernel) rfl (by trivial)))
  (fun _ _ _ _ _=>aM)
  (fun _ _ _ _ _=>(bL (bc hr) (pv 1) (pv 0) (fun _ _=>rfl))))))),?_⟩
  cases mo with
  | none=>
   have hx:x=.non:=hx
   subst hx
   exact⟨_,rfl,rfl,_,rfl,bA ⟨_,rfl,q m H (Same.refl _) hm⟩⟩
  | some ks=>
   obtain⟨a,rfl,ha⟩:=hx
   obtain⟨hz,hk⟩:=hk ks rfl
   refine⟨_,rfl,rfl,_,rfl,bv ⟨_,rfl,a,rfl,⟨_,SqL.of ha⟩,cM (fun i=>(cC cs (ks.getD i 0)).getD 0) ha (by rw[y9];exact hz) (fun i x H2 ex e=>?_) (fun l H' h0 e hl'=>q _ H' e ⟨l,rfl,?_⟩)⟩⟩
   ·obtain⟨k,ek,rfl⟩:=gv ex
    obtain⟨n,hn⟩:=hk k (yh ek)
    have hv:=rn cs k
    rw[hn,Option.map_some]at hv
    refine⟨_,rfl,_,rfl,d,.int n,rfl,hv▸DGet.k (k:=Sum.inl k) (e _ _ hd),?_,Same.refl _⟩
    rw[aH ek,hn]
    rfl
   ·rw[hl',y9]
    congr 3
    unfold inc
    apply zz
    intro i
    rw[yf,yf]
    by_cases h:i<ks.length
    ·rw[zi h,yb h]
     show some ((cC cs (ks.getD i 0)).getD 0)=some ((cC cs ks[i]).getD 0)
     rw[aH (yb h)]
    ·rw[yo (by simpa using h),yo (by omega)]
     rfl
theorem m8 (x:Int):∀ zs:List Int,inV (.int x) (zs.map V.int)=decide (x∈zs)
 | []=>by simp[inV]
 | z::zs=>by
  have ih:=m8 x zs
  unfold inV at ih ⊢
  rw[yN,Af,ih]
  by_cases h:x=z
  ·subst h
   have:eqV (V.int x) (V.int x)=true:=by show decide _=true;simp
   rw[this]
   simp
  ·have:eqV (V.int z) (V.int x)=false:=by show decide _=false;simp[Ne.symm h]
   rw[this]
   simp[h]
theorem nI (zs:List Int):(zs.map V.int).all fR=true:=by
 rw[List.all_map,zJ]
 intro z _
 rfl
def xL (fo:Option (List Int))(k:Int):Bool:=match fo with
 | none=>false
 | some ks=>decide (k∈ks)
def rowF (rows:List aO)(k:Int):List Int:=((bb rows k).map (·.2.2)).getD []
def kf (p:Int)(rows:List aO)(msg:List Int)(fo:Option (List Int))(cs:Cs)(m:Mix):Int:=if xL fo m.1 then 0 else Mx.rowSum p (rowF rows m.1) (inc msg cs m.2)
def bH (p:Int)(rows:List aO)(msg:List Int)(fo:Option (List Int)):List Mix->Cs->Cs
 | [],cs=>cs
 | m::ms,cs=>bH p rows msg fo ms (cs++[(m.1,kf p rows msg fo cs m)])
theorem me (p:Int)(rows:List aO)(msg:List Int)(fo:Option (List Int))(m:Mix):∀ (ms:List Mix)(cs:Cs),bH p rows msg fo (ms++[m]) cs=bH p rows msg fo ms cs++[(m.1,kf p rows msg fo (bH p rows msg fo ms cs) m)]
 | [],_=>rfl
 | _::ms,_=>me p rows msg fo m ms _
theorem fM (p:Int)(rows:List aO)(msg:List Int)(fo:Option (List Int)):∀ (ms:List Mix)(cs:Cs),(bH p rows msg fo ms cs).map (·.1)=cs.map (·.1)++ms.map (·.1)
 | [],cs=>(zp _).symm
 | m::ms,cs=>by
  unfold bH
  rw[fM p rows msg fo ms,yI,Ab]
  rfl
theorem lV {cs:Cs}{k:Int} (h:k∈cs.map (·.1)):∃ n,cC cs k=some n:=by
 obtain⟨r,hr,e⟩:=yw.mp h
 unfold cC
 cases hf:cs.find? fun x=>decide (x.1=k) with
 | none=>exact absurd (ye e) (zc.mp hf r hr)
 | some x=>exact⟨x.2,rfl⟩
theorem iF {cs:Cs}{k:Int} (h:¬ k∈cs.map (·.1)):cC cs k=none:=by
 unfold cC
 have:(cs.find? fun x=>decide (x.1=k))=none:=zc.mpr fun x hx z=>h (yr z▸yD hx)
 rw[this]
 rfl
structure wx (ms : List Mix) : Prop where
  nd : (ms.map (·.1)).Nodup
  ahead : ∀ (i : Nat) m ks, ms[i]? = some m -> m.2 = some ks -> ks.length <= 1000 /\ ∀ k ∈ ks, k ∈ (ms.take i).map (·.1)
def MixT (H:Hp)(v:V)(r:Mix):Prop:=∃ p m,v=.ref p/\H p=some (.tup [.int r.1,m])/\MixW H m r.2
theorem MixT.mono {H H':Hp}(e:Same H H'){v:V}{r:Mix}:MixT H v r->MixT H' v r:=fun⟨p,m,a,b,c⟩=>⟨p,m,a,e _ _ b,c.mono e⟩
structure Flows (C : Addr) (H : Hp) (f a d : Addr) (m x : V) (p : Int) (ms : List Mix) (rows : List aO) (msg : List Int) (fo : Option (List Int)) : Prop where
  field : FieldAt C H f p
  p0 : 0 < p
  p1 : p <= 1000000
  mix : ∃ xs, H a = some (.lst xs) /\ Paired (MixT H) xs ms
  fits : wx ms
  few : ms.length < 64
  plan : PlanAt H d rows
  has : ∀ r ∈ ms, ∃ y, bb rows r.1 = some y /\ InF p y.2.2 /\ y.2.2.length <= 1000
  msg : Rw H m msg
  fal : MixW H x fo
  falz : ∀ ks, fo = some ks -> ks.length <= 1000
def og (C:Addr):Sp:=fun vs H Q _=>∃ (f a d:Addr)(m x:V)(p:Int)(ms:List Mix)(rows:List aO)(msg:List Int)(fo:Option (List Int)),vs=[.ref f,.ref a,.ref d,m,x]/\Flows C H f a d m x p ms rows msg fo/\
 ∀ e H' cs,Same H H'->H e=none->cs.Perm (bH p rows msg fo ms [])->(cs.map (·.1)).Pairwise (·<=·)->H' e=some (.dK (csD cs))->Q (.ref e) H'
abbrev rG:Stmt:=top 58
theorem sc_flow:am ["field","mixing","plan","message","fallen","carries","number","mixed"] ["field","mixing","plan","message","fallen"] (ag rG):=⟨rfl,rfl,rfl,by decide +kernel,rfl,by decide +kernel,by decide +kernel⟩
theorem xp {f:Addr}{fd:FuncData} (F:Fun K "flow" "flow" rG f fd) (D_row_sum:Df P w K mg base 3 "row_sum" ["field","one","other"] (fi C)) (D_coming_in:Df P w K mg base 1 "coming_in" ["message","mixed","carries"] gI) (D_by_number:Df P w K mg base 1 "by_number" ["told"] cy):FnOk P w K mg base CX0 4 f fd ["field","mixing","plan","message","fallen"] (og C):=by
 refine F.ok sc_flow (fun vs H Q E h=>?_) (fun cdv A outer s H vs Q E hr h=>?_)
 ·obtain⟨f,a,d,m,x,p,ms,rows,msg,fo,rfl,_⟩:=h
  rfl
 ·obtain⟨f,a,d,m,x,p,ms,rows,msg,fo,rfl,h,q⟩:=h
  have ND:=sc_flow.nd
  refine⟨_,(aa (ax (i:=5) ND rfl (by trivial) gm)
 (aa (bN yV rfl (c6 K (pv 1)) (gT K (n:=2) rfl (av (aj (i:=6) ND rfl (by trivial)) (av (aj (i:=7) ND rfl (by trivial)) bw)))
  (ae (eE (PW.pt (iC (aw iY (pv 4) bD (aD _)) (fC (aw (inK K) (pv 6) (pv 4) (by with_unfolding_all rfl)))))
  (ae (cO (bc hr) (pv 5) (pv 6) ai rfl))
  (ae (cO (bc hr) (pv 5) (pv 6) (aq D_row_sum (hr.mono (by decide)) rfl (a8 (pv 0) (a8 (bL (bc hr) (pv 2) (pv 6) (fun _ _=>rfl)) (a8 (aq D_coming_in (hr.mono (by decide)) rfl (a8 (pv 3) (a8 (pv 7) (a8 (pv 5) ad)))) ad)))) rfl)))))
 (ae (ar (aq D_by_number (hr.mono (by decide)) rfl (a8 (pv 5) ad)))))),?_⟩
  obtain⟨xs,ha,hp⟩:=h.mix
  have hxl:=Paired.length hp
  intro e0 he0
  have s0:Same H (upd H e0 (.dK [])):=az (Same.refl _) he0
  refine⟨_,rfl,a,rfl,⟨_,SqL.of (s0 _ _ ha)⟩,c8 (K:=K) (xs:=xs) (fun i σ G=>(∃ o6 o7,σ=[some (.ref f),some (.ref a),some (.ref d),some m,some x,some (.ref e0),o6,o7])/\Same H G/\G e0=some (.dK (csD (bH p rows msg fo (ms.take i) [])))) ⟨⟨_,_,rfl⟩,s0,a9⟩ (fun i σ G _ h=>SqL.of (h.2.1 _ _ ha)) ?_ ?_⟩
  ·rintro i v σ G ev ⟨⟨o6,o7,rfl⟩,eG,hG⟩
   obtain⟨r,er,tp,mv,rfl,htp,hmv⟩:=Paired.at hp ev
   refine⟨tp,_,rfl,SqT.of (eG _ _ htp),rfl,_,_,rfl,_,[],rfl,rfl,?_⟩
   have tk:ms.take (i+1)=ms.take i++[r]:=by rw[za,er];rfl
   have hil:i<ms.length:=(yd.mp er).1
   have ck:=fM p rows msg fo (ms.take i) []
   have fr:¬ r.1∈(bH p rows msg fo (ms.take i) []).map (·.1):=fun z=>by
    rw[ck,Aa,zb]at z
    have nd:=h.fits.nd
    rw[<- List.take_append_drop i ms,yI]at nd
    have:r∈ms.drop i:=by
     rw[List.drop_eq_getElem_cons hil]
     have:ms[i]=r:=by rw[yb hil]at er;exact Option.some.inj er
     rw[this]
     exact zr
    exact (Az.mp nd).2.2 _ z _ (yD this) rfl
   have step:∀ (n:Int)(G':Hp),Same H G'->G' e0=some (.dK (csD (bH p rows msg fo (ms.take i) [])))->n=kf p rows msg fo (bH p rows msg fo (ms.take i) []) r->∀ o6 o7,
     (∃ o6' o7',([some (.ref f),some (.ref a),some (.ref d),some m,some x,some (.ref e0),o6,o7]:St)=[some (.ref f),some (.ref a),some (.ref d),some m,some x,some (.ref e0),o6',o7'])/\Same H (upd G' e0 (.dK (cT (csD (bH p rows msg fo (ms.take i) [])) (Sum.inl r.1) (.int n))))/\(upd G' e0 (.dK (cT (csD (bH p rows msg fo (ms.take i) [])) (Sum.inl r.1) (.int n)))) e0=some (.dK (csD (bH p rows msg fo (ms.take (i+1)) []))):=fun n G' e' h' en o6 o7=>by
    refine⟨⟨_,_,rfl⟩,au e' he0,?_⟩
    rw[a9,tk,me,dF _ (by rw[rn,iF fr];rfl),en]
    unfold csD
    rw[yI]
    rfl
   have small:(csD (bH p rows msg fo (ms.take i) [])).length<2 ^ 24:=by
    have:(csD (bH p rows msg fo (ms.take i) [])).length=(ms.take i).length:=by
     unfold csD
     rw[y9,<- y9 (f:=(·.1)),ck,Aa,zb,y9]
    have h1:=h.few
    rw[this,yO]
    omega
   have mixed:xL fo r.1=false->∀ (D:jk),(∀ σ G',((∃ o6 o7,σ=[some (.ref f),some (.ref a),some (.ref d),some m,some x,some (.ref e0),o6,o7])/\Same H G'/\G' e0=some (.dK (csD (bH p rows msg fo (ms.take (i+1)) []))))->D.nx σ G')->
     sDPut (gZ 5) (gZ 6) (sS (fi C) [] E0 (bF (gZ 0) (bF (tDGet (gZ 2) (gZ 6)) (bF (sS gI [] E0 (bF (gZ 3) (bF (gZ 7) (bF (gZ 5) kg)))) kg)))) D [some (.ref f),some (.ref a),some (.ref d),some m,some x,some (.ref e0),some (.int r.1),some mv] G:=fun hf D hD=>by
    obtain⟨y,hy,yin,yz⟩:=h.has r (yh er)
    have pl:=h.plan.mono eG
    have ym:=(c9 hy).1
    have vy:=cu rows r.1
    rw[hy,Option.map_some]at vy
    refine⟨_,rfl,_,rfl,_,rfl,d,_,rfl,vy▸DGet.k (k:=Sum.inl r.1) pl.dict,_,rfl,_,rfl,_,rfl,m,mv,e0,_,msg,r.2,rfl,h.msg.mono eG,hmv.mono eG,hG,fun ks ek=>?_,fun v H3 e3 hv=>?_⟩
    ·obtain⟨kz,kin⟩:=h.fits.ahead i r ks er ek
     exact⟨kz,fun k hk=>lV (by rw[ck,Aa,zb];exact kin k hk)⟩
    ·refine⟨f,_,v,p,y.2.2,_,rfl,(h.field.mono eG).mono e3,h.p0,h.p1,⟨_,rfl,e3 _ _ (pl.row y ym)⟩,hv,yin,yz,fun H4 e4=>?_⟩
     refine⟨_,rfl,_,rfl,e0,_,rfl,DPut.k (k:=Sum.inl r.1) (e4 _ _ (e3 _ _ hG)) small,?_⟩
     refine hD _ _ (step _ H4 ((eG.trans e3).trans e4) (e4 _ _ (e3 _ _ hG)) ?_ _ _)
     unfold kf rowF
     rw[hf,hy]
     rfl
   refine⟨_,fun σ' H' h=>h,?_⟩
   cases fo with
   | none=>
    have hx:x=.non:=h.fal
    subst hx
    exact⟨_,rfl,rfl,_,rfl,bv (mixed rfl _ fun _ _ z=>z)⟩
   | some ks=>
    obtain⟨q0,rfl,hq0⟩:=id h.fal
    refine⟨_,rfl,rfl,_,rfl,bA ⟨_,rfl,_,rfl,q0,_,rfl,.inl (SqL.of (eG _ _ hq0)),rfl,nI ks,_,rfl,?_⟩⟩
    rw[if_neg (by decide),m8]
    cases hd:decide (r.1∈ks) with
    | true=>
     refine bA ⟨_,rfl,_,rfl,e0,_,rfl,DPut.k (k:=Sum.inl r.1) hG small,step _ G eG hG ?_ _ _⟩
     unfold kf
     rw[show xL (some ks) r.1=true from hd,if_pos rfl]
    | false=>exact bv (mixed hd _ fun _ _ z=>z)
  ·rintro σ G ⟨⟨o6,o7,rfl⟩,eG,hG⟩
   rw[hxl,zh]at hG
   have ck:=fM p rows msg fo ms []
   rw[Aa,zb]at ck
   have nd:((bH p rows msg fo ms []).map (·.1)).Nodup:=ck▸h.fits.nd
   refine⟨_,rfl,e0,_,(bH p rows msg fo ms []).map (·.1),rfl,hG,by unfold csD;rw[yq,yq];rfl,nd,by rw[ck,y9];exact h.few,fun e H' ns' e' h' pm pw he=>?_⟩
   obtain⟨cs,c1,c2,c3⟩:=qK nd pm
   exact q e H' cs (eG.trans e') (eG.free h') c1 (c2▸pw) (by rw[he];unfold csD;rw[c3])
end
end K52
namespace L2
open PySem PySem.Spec PyProof.Rows
section
variable {K : PySem.W.Frag}{js : List Nat}{te : TE}{σ : St}{F : Addr -> Hp -> Prop}{H : Hp}
theorem qY {a:Addr}{xs:List V}{ps:List (V×V)} (R:Nat->Hp->V->Prop) (mono:∀ i H H' v,Same H H'->R i H v->R i H' v) (ha:H a=some (.lst xs)) (hps:Paired (fun x (p:V×V)=>∃ b,x=.ref b/\H b=some (.tup [p.1,p.2])) xs ps) (hz:xs.length<=1000)
  (hs:∀ (i:Nat)(p:V×V) H2,ps[i]?=some p->Same H H2->te (some p.1::some p.2::bz σ js) H2 fun v H5=>(∀ l,H l=none->H2 l≠none->R i (hide l H5) v)/\Same H2 H5)
  (hd:∀ l H' vs,H l=none->Same H H'->H' l=some (.lst vs)->vs.length=xs.length->(∀ i v,vs[i]?=some v->R i (hide l H') v)->F l H'):bi 2 js (qM K 2 (dM (bd 0) (dM (bd 1) sA))) fU te σ F (Itl K a) H:=by
 intro l hl0
 refine⟨fun i m σ' H2=>m=xs.length - i/\i<=xs.length/\(∃ o o2,σ'=o::o2::bz σ js)/\Same H H2/\∃ vs:List V,vs.length=i/\H2 l=some (.lst vs)/\∀ i v,vs[i]?=some v->R i (hide l H2) v,⟨xs.length,by simp,yP _,⟨none,none,rfl⟩,az (Same.refl _) hl0,[],rfl,a9,fun i v h=>by simp at h⟩,?_⟩
 rintro i m σ' H2 ⟨rfl,hi,⟨o',o2,rfl⟩,e,vs,hlen,hl,hp⟩
 have q:SqL K H2 a xs:=SqL.of (e _ _ ha)
 by_cases hlt:i<xs.length
 ·refine .inr ⟨⟨xs,xs[i],q,by simp[hlt]⟩,fun x H3 y=>?_⟩
  obtain⟨rfl,y⟩:=y
  obtain⟨p,ep,b0,rfl,hb0⟩:=Paired.at hps (y xs q)
  refine⟨b0,[p.1,p.2],rfl,SqT.of (e _ _ hb0),rfl,_,[p.2],rfl,_,[],rfl,rfl,?_⟩
  refine⟨fun H4=>False,fun v H5=>(∀ l,H l=none->H3 l≠none->R i (hide l H5) v)/\Same H3 H5,fun H4 z=>z.elim,fun v H5 ⟨pv,e5⟩=>?_,hs i p H3 ep e⟩
  refine⟨_,e5 _ _ hl,by rw[hlen];exact yH hi (yH hz (by decide)),_,?_,rfl,hlt,⟨_,_,rfl⟩,au (e.trans e5) hl0,vs++[v],by rw[yu,hlen];rfl,a9,fun j w hj=>?_⟩
  ·omega
  ·rw[m9]
   by_cases c:j<vs.length
   ·rw[yK c]at hj
    exact mono _ _ _ _ (jL e5) (hp j w hj)
   ·rw[yF (by omega)]at hj
    by_cases c2:j - vs.length=0
    ·rw[c2]at hj
     have:v=w:=by simpa using hj
     have ej:j=i:=by omega
     rw[ej,<- this]
     exact pv l hl0 (by rw[hl];exact fun z=>nomatch z)
    ·rw[yo (by simp;omega)]at hj;cases hj
 ·have ei:i=xs.length:=by omega
  subst ei
  exact .inl ⟨⟨xs,q,yi _⟩,hd l H2 vs hl0 e hl hlen hp⟩
end
end L2
namespace K52
open PySem L2
open PyProof.Rows (boot_list boot_int boot_bool boot_tuple boot_str boot_dict boot_all boot_sorted)
section
variable {P : Program}{w : World}{K : PySem.W.Frag}{mg : Str -> Option Value}{base : Heap}{C aN : Addr}
theorem qF {cs:Cs}(nd:(cs.map (·.1)).Nodup){r:Int×Int}(h:r∈cs):cC cs r.1=some r.2:=by
 unfold cC
 rw[dN nd r h]
 rfl
theorem sk {cs ds:Cs}(pm:cs.Perm ds)(nd:(ds.map (·.1)).Nodup)(k:Int):cC cs k=cC ds k:=by
 have nc:(cs.map (·.1)).Nodup:=(pm.map _).nodup_iff.mpr nd
 by_cases h:k∈ds.map (·.1)
 ·obtain⟨r,hr,rfl⟩:=yw.mp h
  rw[qF nd hr,qF nc (pm.mem_iff.mpr hr)]
 ·rw[iF h,iF fun z=>h ((pm.map _).mem_iff.mp z)]
theorem cS:∀ {rows:List aO},(rows.map (·.1)).Nodup->∀ r∈rows,bb rows r.1=some r
 | [],_,_,h=>(yJ h).elim
 | x::ws,nd,r,h=>by
  unfold bb
  rw[yN,zt]at nd
  rcases yB.mp h with rfl|h
  ·rw[yQ,ye rfl]
  ·have ne:¬ x.1=r.1:=fun z=>nd.1 (z▸yD h)
   rw[yQ,yj ne]
   exact cS nd.2 r h
theorem mI {ws:List aO}(nd:(ws.map (·.1)).Nodup){ns:List Int}(pm:ns.Perm (ws.map (·.1))):
  ∃ rs:List aO,rs.Perm ws/\rs.map (·.1)=ns/\df (aI ws) ns=aI rs:=by
 let f:Int->aO:=fun n=>(bb ws n).getD (n,0,[])
 have hf:∀ r∈ws,f r.1=r:=fun r hr=>by
  show (bb ws r.1).getD _=r
  rw[cS nd r hr]
  rfl
 refine⟨ns.map f,?_,?_,?_⟩
 ·have h1:=pm.map f
  rw[yq]at h1
  have h2:ws.map (f ∘ (·.1))=ws:=(zn (g:=id) fun r hr=>hf r hr).trans (AD _)
  rw[h2]at h1
  exact h1
 ·rw[yq]
  refine (zn (g:=id) fun n hn=>?_).trans (AD _)
  obtain⟨r,hr,rfl⟩:=yw.mp (pm.mem_iff.mp hn)
  show (f r.1).1=r.1
  rw[hf r hr]
 ·unfold df aI
  rw[yq]
  refine zn fun n hn=>?_
  obtain⟨r,hr,rfl⟩:=yw.mp (pm.mem_iff.mp hn)
  show ((Sum.inl r.1:Key),_)=((Sum.inl (f r.1).1:Key),V.ref (f r.1).2.1)
  have:=cu ws r.1
  unfold aI at this
  rw[this,cS nd r hr,hf r hr]
  rfl
def aG (S:NS):List Mix:=mixes S (bP (bE S) S.names.length)
structure CarOk (c : Cl) (H : Hp) (n dp dt : Addr) (S : NS) (d : Addr) (x : V) (p : Int) (rows : List aO) (fo : Option (List Int)) : Prop where
  net : NetAt c H n dp dt S
  ac : mQ (bE S)
  ends : ∀ t ∈ S.ties, t.2.2.1 ∈ S.names
  tz : S.ties.length <= 1000
  pz : S.posts.length <= 1000
  fits : wx (aG S)
  few : (aG S).length < 64
  p1 : p <= 1000000
  prime : My.isP p = true
  plan : PlanAt H d rows
  has : ∀ r ∈ aG S, ∃ y, bb rows r.1 = some y /\ InF p y.2.2 /\ y.2.2.length <= 1000
  fal : MixW H x fo
  falz : ∀ ks, fo = some ks -> ks.length <= 1000
theorem CarOk.p0 {c:Cl}{H:Hp}{n dp dt:Addr}{S:NS}{d:Addr}{x:V}{p:Int}{rows:List aO}{fo:Option (List Int)} (h:CarOk c H n dp dt S d x p rows fo):0<p:=by
 have:=((My.isP_iff p).mp h.prime).1
 omega
theorem xx {l:Addr}{H:Hp}{v:V}{r:Mix} (h:MixAt l H v r):MixT H v r:=by
 obtain⟨q,m,_,e,hq,hm⟩:=h
 refine⟨q,m,e,hq,?_⟩
 obtain⟨k,ro⟩:=r
 cases ro with
 | none=>exact hm
 | some ks=>obtain⟨q',_,e',h'⟩:=hm;exact⟨q',e',h'⟩
end
section
variable {P : Program}{w : World}{K : PySem.W.Frag}{mg : Str -> Option Value}{base : Heap}{C aN : Addr}
theorem lU {H:Hp}:∀ {xs:List V}{rs:List Mix},Paired (MixT H) xs rs->∃ ps:List (V×V),Paired (fun x (p:V×V)=>∃ b,x=.ref b/\H b=some (.tup [p.1,p.2])) xs ps/\Paired (fun (p:V×V) (r:Mix)=>p.1=.int r.1) ps rs
 | _,_,.nil=>⟨[],.nil,.nil⟩
 | _,_,.cons ⟨b,m,e,hb,hm⟩ t=>by
  obtain⟨ps,h1,h2⟩:=lU t
  exact⟨(_,m)::ps,.cons ⟨b,e,hb⟩ h1,.cons rfl h2⟩
theorem dG {α β:Type}{F:α->β->Prop}:∀ {xs:List α}{ys:List β},xs.length=ys.length->(∀ (i:Nat) x y,xs[i]?=some x->ys[i]?=some y->F x y)->Paired F xs ys
 | [],[],_,_=>.nil
 | _::_,_::_,h,k=>.cons (k 0 _ _ rfl rfl) (dG (by simpa using h) fun i x y hx hy=>k (i+1) x y hx hy)
theorem dR {α β γ:Type}{F:α->β->Prop}{G:α->γ->Prop}{g:β->γ}:∀ {xs:List α}{ys:List β},Paired F xs ys->(∀ a b,F a b->G a (g b))->Paired G xs (ys.map g)
 | _,_,.nil,_=>.nil
 | _,_,.cons h r,k=>.cons (k _ _ h) (dR r k)
def dX (p:Int)(rows:List aO)(fo:Option (List Int))(ms:List Mix)(many:Nat)(k:Int):List Int:=(List.range many).map fun j=>(cC (bH p rows (Mx.onesRow many j) fo ms []) k).getD 0
theorem pW {H:Hp}(F:Int->List Int):∀ {vs:List V}{ms:List Mix},Paired (fun v (m:Mix)=>∃ b g,v=V.ref b/\H b=some (.tup [.int m.1,.ref g])/\H g=some (.lst ((F m.1).map V.int))) vs ms->
  ∃ ws:List aO,ws.map (fun r=>(r.1,r.2.2))=ms.map (fun m=>(m.1,F m.1))/\Paired (fun v (r:aO)=>∃ b,v=V.ref b/\H b=some (.tup [.int r.1,.ref r.2.1])) vs ws/\∀ r∈ws,H r.2.1=some (.lst (r.2.2.map V.int))
 | _,_,.nil=>⟨[],rfl,.nil,fun _ h=>(yJ h).elim⟩
 | _,m::_,.cons ⟨b,g,e,hb,hg⟩ t=>by
  obtain⟨ws,h1,h2,h3⟩:=pW F t
  refine⟨(m.1,g,F m.1)::ws,by rw[yN,yN,h1],.cons ⟨b,e,hb⟩ h2,fun r hr=>?_⟩
  rcases yB.mp hr with rfl|hr
  ·exact hg
  ·exact h3 r hr
theorem vx {many i:Nat}{r:List Int} (h:(Mx.ones many)[i]?=some r):r=Mx.onesRow many i:=by
 unfold Mx.ones at h
 rw[yf]at h
 by_cases c:i<many
 ·rw[zi c]at h
  exact (Option.some.inj h).symm
 ·rw[yo (by simpa using c)]at h
  cases h
def fu (c:Cl):Sp:=fun vs H Q _=>∃ (n dp dt:Addr)(S:NS)(d:Addr)(x:V)(p:Int)(rows:List aO)(fo:Option (List Int))(many:Nat),vs=[.ref n,.ref d,.int (many:Int),.int p,x]/\CarOk c H n dp dt S d x p rows fo/\many<=1000/\
 ∀ e H' (rs:List aO),Same H H'->H e=none->PlanAt H' e rs->(rs.map (·.1)).Pairwise (·<=·)->(rs.map fun r=>(r.1,r.2.2)).Perm ((aG S).map fun m=>(m.1,dX p rows fo (aG S) many m.1))->Q (.ref e) H'
abbrev jC:Stmt:=top 59
theorem sc_carried:am ["net","plan","many","prime","fallen","field","mixing","flows"] ["net","plan","many","prime","fallen"] (ag jC):=⟨rfl,rfl,rfl,by decide +kernel,rfl,by decide +kernel,by decide +kernel⟩
theorem lN {c:Cl}{f:Addr}{fd:FuncData} (F:FunD K "carried" "carried" jC f fd) (T:TxtB mg) (D_Field:DkX P w K mg base 2 "Field" C ["self","prime"] (iR C aN)) (D_mixing_ties:Df P w K mg base 3 "mixing_ties" ["net"] (gF c)) (D_flow:Df P w K mg base 4 "flow" ["field","mixing","plan","message","fallen"] (og C))
  (D_ones:Df P w K mg base 2 "ones" ["many"] kB) (D_column:Df P w K mg base 1 "column" ["table","place"] jt) (D_by_number:Df P w K mg base 1 "by_number" ["told"] cy):FnOk P w K mg base (CXE P w) 5 f fd ["net","plan","many","prime","fallen"] (fu c):=by
 refine FunD.okX F sc_carried (fun vs H Q E h=>?_) (fun cdv A outer s H vs Q E hr h=>?_)
 ·obtain⟨n,dp,dt,S,d,x,p,rows,fo,many,rfl,_⟩:=h
  rfl
 ·obtain⟨n,dp,dt,S,d,x,p,rows,fo,many,rfl,O,hmany,q⟩:=h
  have ND:=sc_carried.nd
  refine⟨_,(aa (ax (i:=5) ND rfl (by trivial) (lD n9 D_Field (hr.mono (by decide)) rfl (a8 (pv 3) ad)))
 (aa (ax (i:=6) ND rfl (by trivial) (aq D_mixing_ties (hr.mono (by decide)) rfl (a8 (pv 0) ad)))
 (aa (ax (i:=7) ND rfl (by trivial) (aX rfl (ak (nT:=1) (js:=[1,4,5,6]) (N':=["message","plan","fallen","field","mixing"]) rfl rfl (by kernel_rfl)) (c6 K (aq D_ones (hr.mono (by decide)) rfl (a8 (pv 2) ad)))
  (fun _ _ _ _ _=>(aj (i:=0) (show List.Nodup (["message","plan","fallen","field","mixing"]:List Str) by decide +kernel) rfl (by trivial)))
  (fun _ _ _ _ _=>aM)
  (fun _ _ _ _ _=>(aq D_flow (hr.mono (by decide)) rfl (a8 (pv 3) (a8 (pv 4) (a8 (pv 1) (a8 (pv 0) (a8 (pv 2) ad)))))))))
 (ae (ar (aq D_by_number (hr.mono (by decide)) rfl (a8 (bY (bu rfl) rfl T.n_dict boot_dict (a8 (aX rfl (ak (nT:=2) (js:=[7]) (N':=["number","mixed","flows"]) rfl rfl (by kernel_rfl)) (c6 K (pv 6))
  (fun _ _ _ _ _=>(gT K (n:=2) rfl (av (aj (i:=0) (show List.Nodup (["number","mixed","flows"]:List Str) by decide +kernel) rfl (by trivial)) (av (aj (i:=1) (show List.Nodup (["number","mixed","flows"]:List Str) by decide +kernel) rfl (by trivial)) bw))))
  (fun _ _ _ _ _=>aM)
  (fun _ _ _ _ _=>(bC (a8 (pv 0) (a8 (aq D_column (hr.mono (by decide)) rfl (a8 (pv 2) (a8 (pv 0) ad))) ad))))) ad)) ad))))))),?_⟩
  refine⟨_,rfl,fun fx dx nx ndx nex=>⟨fx,dx,p,rfl,a9,fun hp hP=>⟨rfl,?_⟩,fun hn=>?_⟩⟩
  case refine_2=>exact absurd ⟨O.p1,O.prime⟩ hn
  have e1:=au (o:=.ins C dx [("prime",.int p)]) (au (o:=.ins C dx []) (az (o:=.own fx) (Same.refl H) ndx) nx) nx
  refine⟨_,rfl,n,dp,dt,S,rfl,O.net.mono e1,O.ac,O.ends,O.tz,O.pz,fun l H2 xs e2 h2 hl pm=>?_⟩
  have e02:=e1.trans e2
  have hfx:FieldAt C H2 fx p:=⟨dx,e2 _ _ a9⟩
  have hmx:Paired (MixT H2) xs (aG S):=Paired.mapP pm fun _ _ z=>xx z
  have xl:=Paired.length hmx
  have few:=O.few
  refine⟨_,rfl,many,rfl,hmany,fun lo H3 e3 hT=>?_⟩
  obtain⟨hlo0,ys,hlo,hpy⟩:=hT
  have yl:=Paired.length hpy
  have ol:(Mx.ones many).length=many:=by unfold Mx.ones;simp
  refine⟨lo,rfl,⟨_,SqL.of hlo⟩,iK (fun i H v=>∃ g cs,v=.ref g/\H g=some (.dK (csD cs))/\cs.Perm (bH p rows (Mx.onesRow many i) fo (aG S) [])) (fun i H H' v e ⟨g,cs,a,b,c⟩=>⟨g,cs,a,e _ _ b,c⟩) (SqL.of hlo) (by omega) (fun i y H4 ey e4=>?_) (fun lf H4 vs hlf0 e4 hlf vl hv=>?_)⟩
  ·obtain⟨r,er,hr⟩:=Paired.at hpy ey
   have:=vx er
   subst this
   have e24:=e3.trans e4
   have e04:=e02.trans e24
   refine⟨_,rfl,_,rfl,_,rfl,_,rfl,_,rfl,fx,l,d,y,x,p,aG S,rows,Mx.onesRow many i,fo,rfl,⟨hfx.mono e24,O.p0,O.p1,⟨xs,e24 _ _ hl,Paired.mapP hmx fun _ _ z=>z.mono e24⟩,O.fits,O.few,O.plan.mono e04,O.has,hr.rw.mono e4,O.fal.mono e04,O.falz⟩,fun g H5 cs e5 h5 c1 c2 c3=>⟨fun l' hl' hl2=>⟨g,cs,rfl,fb hl2 h5 c3,c1⟩,e5⟩⟩
  have e24:=e3.trans e4
  have e04:=e02.trans e24
  have hm4:Paired (MixT H4) xs (aG S):=Paired.mapP hmx fun _ _ z=>z.mono e24
  obtain⟨ps,p1,p2⟩:=lU hm4
  refine⟨_,rfl,l,rfl,⟨_,SqL.of (e24 _ _ hl)⟩,qY (ps:=ps) (fun i H v=>∀ r,(aG S)[i]?=some r->∃ b g,v=.ref b/\H b=some (.tup [.int r.1,.ref g])/\H g=some (.lst ((dX p rows fo (aG S) many r.1).map V.int))) (fun i H H' v e h r hr=>let ⟨b,g,a1,a2,a3⟩:=h r hr;⟨b,g,a1,e _ _ a2,e _ _ a3⟩) (e24 _ _ hl) p1 (by omega) (fun i pp H5 ep e5=>?_) (fun l2 H5 ws hl20 e5 hl2 wl hw=>?_)⟩
  ·obtain⟨r,er,hr1⟩:=Paired.at p2 ep
   obtain⟨pk,pm'⟩:=pp
   have hr1:pk=.int r.1:=hr1
   subst hr1
   refine⟨_,rfl,_,rfl,_,rfl,lf,vs,r.1,dX p rows fo (aG S) many r.1,rfl,e5 _ _ hlf,by omega,?_,fun g H6 e6 h6 hg=>?_⟩
   ·refine dG (by unfold dX;rw[y9,zq];omega) fun j v z hj hz=>?_
    obtain⟨g,cs,ev,hg,pc⟩:=hv j v hj
    have jl:j<many:=by have:=(yd.mp hj).1;omega
    unfold dX at hz
    rw[yf,zi jl]at hz
    have hz:(cC (bH p rows (Mx.onesRow many j) fo (aG S) []) r.1).getD 0=z:=Option.some.inj hz
    have ck:=fM p rows (Mx.onesRow many j) fo (aG S) []
    rw[Aa,zb]at ck
    refine⟨g,csD cs,ev,e5 _ _ (dq _ _ hg),?_⟩
    rw[rn,sk pc (ck▸O.fits.nd)]
    obtain⟨nn,hn⟩:=lV (cs:=bH p rows (Mx.onesRow many j) fo (aG S) []) (k:=r.1) (by rw[ck];exact yD (yh er))
    rw[hn]at hz ⊢
    rw[<- hz]
    rfl
   ·refine⟨(by show 2<=sizeLine;decide),fun b H7 e7 h7 hb=>⟨fun l' hl' hl2 r' hr'=>?_,e6.trans e7⟩⟩
    rw[er]at hr'
    cases hr'
    exact⟨b,g,rfl,fb hl2 (e6.free h7) hb,fb hl2 h6 (e7 _ _ hg)⟩
  ·have e05:=e04.trans e5
   obtain⟨rws,w1,w2,w3⟩:=pW (H:=H5) (fun k=>dX p rows fo (aG S) many k) (vs:=ws) (ms:=aG S) (dG (by omega) fun i v r hv hr=>let ⟨b,g,a1,a2,a3⟩:=hw i v hv r hr;⟨b,g,a1,dq _ _ a2,dq _ _ a3⟩)
   have wk:rws.map (·.1)=(aG S).map (·.1):=by
    have:=congrArg (List.map (·.1)) w1
    rw[yq,yq]at this
    exact this
   have wnd:(rws.map (·.1)).Nodup:=wk▸O.fits.nd
   have wlen:rws.length=(aG S).length:=by rw[<- y9 (f:=(·.1)),wk,y9]
   refine⟨l2,aI rws,rfl,⟨ws,hl2,dR w2 fun v r ⟨b,e,hb⟩=>⟨b,e,hb⟩⟩,by unfold aI;rw[y9];omega,fun dd H6 e6 h6 hd=>?_⟩
   rw[ce _ [] (by
    rw[zb]
    unfold aI
    rw[yq]
    have:((fun x:Key×V=>x.1) ∘ fun r:aO=>((Sum.inl r.1:Key),V.ref r.2.1))=(fun x:Int=>(Sum.inl x:Key)) ∘ Prod.fst:=rfl
    rw[this,<- yq]
    exact yU.mpr (zV.mpr ((yU.mp wnd).imp fun h z=>h (Sum.inl.inj z)))),zb]at hd
   have e06:=e05.trans e6
   refine⟨dd,_,rws.map (·.1),rfl,hd,by unfold aI;rw[yq,yq];rfl,wnd,by rw[y9];omega,fun e H7 ns' e7 h7 pm' pw he=>?_⟩
   obtain⟨rs,r1,r2,r3⟩:=mI wnd pm'
   exact q e H7 rs (e06.trans e7) (e06.free h7) ⟨by rw[he,r3],fun r hr=>e7 _ _ (e6 _ _ (w3 r (r1.mem_iff.mp hr)))⟩ (r2▸pw) (w1▸r1.map _)
end
end K52
namespace K52
open PySem L2
open PyProof.Rows (boot_list boot_int boot_bool boot_tuple boot_str boot_dict)
structure sM (mg : Str -> Option Value) : Prop where
  n_len : mg "len" = none
  n_range : mg "range" = none
  n_zip : mg "zip" = none
theorem gj {t:List (List Int)}{f:List Int->List Int}:(List.range t.length).map (fun i=>f (t.getD i []))=t.map f:=by
 apply zz
 intro i
 rw[yf,yf]
 by_cases h:i<t.length
 ·rw[zi h,yb h]
  show some (f (t.getD i []))=some (f t[i])
  rw[aH (yb h)]
 ·rw[yo (by simpa using h),yo (by omega)]
  rfl
theorem v9 {H:Hp}{xs:List V}{t:List (List Int)} (hp:Paired (Rw H) xs t) {k:Nat} (hk:k<t.length):∃ c,xs[k]?=some (.ref c)/\H c=some (.lst ((t.getD k []).map V.int)):=by
 have hl:=Paired.length hp
 have hk':k<xs.length:=by omega
 obtain⟨r,er,c,ec,hc⟩:=Paired.at hp (yb hk')
 exact⟨c,by rw[yb hk',ec],by rw[aH er];exact hc⟩
theorem mem_getD {α:Type}{t:List α}{k:Nat}{d:α} (hk:k<t.length):t.getD k d∈t:=by
 rw[aH (yb hk)]
 exact AF hk
theorem lY {r:List Int}{j:Nat} (h:j<r.length):atI (r.map V.int) (j:Int)=some (.int (r.getD j 0)):=by
 refine dj ?_
 rw[yf,yb h,aH (yb h)]
 rfl
section
variable {P : Program}{w : World}{K : PySem.W.Frag}{mg : Str -> Option Value}{base : Heap}
def fV (C:Addr):Sp:=fun vs H Q _=>∃ (f:Addr)(a b p:Int),vs=[.ref f,.int a,.int b]/\FieldAt C H f p/\0<p/\CMul a b/\Q (.int (a * b % p)) H
abbrev oy:Stmt:=aS (top 34) 4
theorem v5:am ["self","one","other"] ["self","one","other"] (ag oy):=⟨rfl,rfl,rfl,by decide +kernel,rfl,by decide +kernel,by decide +kernel⟩
theorem vz {f C:Addr}{fd:FuncData} (F:Fun K "times" "Field.times" oy f fd) (T:Txt K mg C) (D_Field_fit:Dm P w K mg base 1 C "fit" ["self","number"] (hZ C)):FnOk P w K mg base CX0 2 f fd ["self","one","other"] (fV C):=by
 refine F.ok v5 (fun vs H Q E h=>?_) (fun cdv A outer s H vs Q E hr h=>?_)
 ·obtain⟨f,a,b,p,rfl,_⟩:=h
  rfl
 ·obtain⟨f,a,b,p,rfl,⟨dx,hf⟩,hp,hm,q⟩:=h
  refine⟨_,(ae (ar (aZ (pv 0) D_Field_fit (hr.mono (by decide)) (a8 (aF gq (pv 1) (pv 2)) ad)))),?_⟩
  refine⟨_,rfl,f,dx,_,rfl,hf,rfl,_,rfl,_,rfl,_,_,rfl,rfl,hm,f,_,p,rfl,⟨dx,hf⟩,hp,q⟩
def iQ (C:Addr):Sp:=fun vs H Q _=>∃ (f:Addr)(a b p:Int),vs=[.ref f,.int a,.int b]/\FieldAt C H f p/\0<p/\Q (.int ((a - b) % p)) H
abbrev oz:Stmt:=aS (top 34) 3
theorem v6:am ["self","one","other"] ["self","one","other"] (ag oz):=⟨rfl,rfl,rfl,by decide +kernel,rfl,by decide +kernel,by decide +kernel⟩
theorem vA {f C:Addr}{fd:FuncData} (F:Fun K "minus" "Field.minus" oz f fd) (T:Txt K mg C) (D_Field_fit:Dm P w K mg base 1 C "fit" ["self","number"] (hZ C)):FnOk P w K mg base CX0 2 f fd ["self","one","other"] (iQ C):=by
 refine F.ok v6 (fun vs H Q E h=>?_) (fun cdv A outer s H vs Q E hr h=>?_)
 ·obtain⟨f,a,b,p,rfl,_⟩:=h
  rfl
 ·obtain⟨f,a,b,p,rfl,⟨dx,hf⟩,hp,q⟩:=h
  refine⟨_,(ae (ar (aZ (pv 0) D_Field_fit (hr.mono (by decide)) (a8 (aF vv (pv 1) (pv 2)) ad)))),?_⟩
  refine⟨_,rfl,f,dx,_,rfl,hf,rfl,_,rfl,_,rfl,_,_,rfl,rfl,f,_,p,rfl,⟨dx,hf⟩,hp,q⟩
def oj (C:Addr):Sp:=fun vs H Q _=>∃ (f:Addr)(n p:Int),vs=[.ref f,.int n]/\FieldAt C H f p/\My.isP p=true/\p<=1000000/\0<n/\n<p/\Q (.int (My.bk p n)) H
abbrev rH:Stmt:=aS (top 34) 5
theorem sc_back:am ["self","number","rest","made"] ["self","number"] (ag rH):=⟨rfl,rfl,rfl,by decide +kernel,rfl,by decide +kernel,by decide +kernel⟩
theorem xq {f C:Addr}{fd:FuncData} (F:Fun K "back" "Field.back" rH f fd) (T:Txt K mg C) (D_Field_fit:Dm P w K mg base 1 C "fit" ["self","number"] (hZ C)) (D_Field_times:Dm P w K mg base 2 C "times" ["self","one","other"] (fV C)):
  FnOk P w K mg base CX0 3 f fd ["self","number"] (oj C):=by
 refine F.ok sc_back (fun vs H Q E h=>?_) (fun cdv A outer s H vs Q E hr h=>?_)
 ·obtain⟨f,n,p,rfl,_⟩:=h
  rfl
 ·obtain⟨f,n,p,rfl,⟨dx,hf⟩,hP,hp1,h0,h1,q⟩:=h
  have ND:=sc_back.nd
  have hp2:2<=p:=((My.isP_iff p).mp hP).1
  have hp:0<p:=by omega
  have en:n % p=n:=zL (by omega) h1
  refine⟨_,(aa (ax (i:=2) ND rfl (by trivial) (aZ (pv 0) D_Field_fit (hr.mono (by decide)) (a8 (pv 1) ad)))
 (aa (ba (aw ci (pv 2) ai (aD _))
  (ae lB)
  aE)
 (aa (ax (i:=3) ND rfl (by trivial) ai)
 (aa (iV yV (aw n0 (pv 2) ai (aD _))
  (aa (ax (i:=3) ND rfl (by trivial) (aZ (pv 0) D_Field_times (hr.mono (by decide)) (a8 (pv 3) (a8 (aF vv ai (aF bZ (eK K (pv 0) rfl) (pv 2))) ad))))
 (ae (ax (i:=2) ND rfl (by trivial) (aF be (eK K (pv 0) rfl) (pv 2))))))
 (ae (ar (pv 3))))))),?_⟩
  refine⟨_,rfl,f,dx,_,rfl,hf,rfl,_,rfl,f,n,p,rfl,⟨dx,hf⟩,hp,?_⟩
  rw[en]
  refine⟨_,rfl,rfl,_,rfl,iteDN (fun z=>by injection z with z;omega) ?_⟩
  refine⟨fun m σ H2=>∃ rest made:Int,σ=[some (.ref f),some (.int n),some (.int rest),some (.int made)]/\H2=H/\0<rest/\rest<p/\My.Inv p n rest made/\m=rest.toNat,
   ⟨_,n,1,rfl,rfl,h0,h1,My.bk_start hp2 (by rw[yZ _ (by omega)];exact en),rfl⟩,?_⟩
  rintro m σ H2 ⟨rest,made,rfl,rfl,r0,r1,I,rfl⟩
  refine⟨_,rfl,rfl,_,rfl,bB (fun c=>?_) (fun c=>?_)⟩
  ·have c1:rest≠1:=fun z=>by
    rw[z,ye rfl]at c
    cases c
   have l:=My.bk_less' hP r0 c1 r1
   refine⟨fun σ' H'=>σ'=[some (.ref f),some (.int n),some (.int (p % rest)),some (.int (made * (0 - p / rest) % p))]/\H'=H2,fun σ' H' ⟨e1,e2⟩=>⟨(p % rest).toNat,by omega,_,_,e1,e2,l.1,by omega,My.bk_turn' I hp2 r0,rfl⟩,?_⟩
   have m0:=I.lo
   have m1:=I.hi
   refine⟨_,rfl,f,dx,_,rfl,hf,rfl,_,rfl,_,rfl,f,C,dx,_,_,rfl,hf,T.cl,T.nP,rfl,_,rfl,_,_,rfl,rfl,⟨r0,by omega⟩,_,_,rfl,rfl,f,made,_,p,rfl,⟨dx,hf⟩,hp,.inl ⟨by omega,by omega⟩,?_⟩
   exact⟨_,rfl,f,C,dx,_,_,rfl,hf,T.cl,T.nP,rfl,_,rfl,_,_,rfl,rfl,r0,rfl,rfl⟩
  ·have c1:rest=1:=by
    by_cases z:rest=1
    ·exact z
    ·exact absurd (by rw[yj (fun y=>z (by injection y))];rfl) c
   subst c1
   refine⟨_,rfl,?_⟩
   rw[My.bk_eq I.lo I.hi (My.inv_dvd I)]at q
   exact q
def dY (C:Addr):Sp:=fun vs H Q _=>∃ (f:Addr)(x:V)(p:Int)(r:List Int),vs=[.ref f,x]/\FieldAt C H f p/\0<p/\Rw H x r/\r.length<=1000/\∀ l H',Same H H'->H l=none->H' l=some (.lst ((r.map (· % p)).map V.int))->Q (.ref l) H'
abbrev fw:Stmt:=top 40
theorem mE:am ["field","row"] ["field","row"] (ag fw):=⟨rfl,rfl,rfl,by decide +kernel,rfl,by decide +kernel,by decide +kernel⟩
theorem ly {r:List Int}{f:Int->Int}:(List.range r.length).map (fun i=>f (r.getD i 0))=r.map f:=by
 apply zz
 intro i
 rw[yf,yf]
 by_cases h:i<r.length
 ·rw[zi h,yb h]
  show some (f (r.getD i 0))=some (f r[i])
  rw[aH (yb h)]
 ·rw[yo (by simpa using h),yo (by omega)]
  rfl
theorem mL {f C:Addr}{fd:FuncData} (F:Fun K "fitted_row" "fitted_row" fw f fd) (D_Field_fit:Dm P w K mg base 1 C "fit" ["self","number"] (hZ C)):FnOk P w K mg base CX0 2 f fd ["field","row"] (dY C):=by
 refine F.ok mE (fun vs H Q E h=>?_) (fun cdv A outer s H vs Q E hr h=>?_)
 ·obtain⟨f,x,p,r,rfl,_⟩:=h
  rfl
 ·obtain⟨f,x,p,r,rfl,hf,hp,⟨a,rfl,ha⟩,hz,q⟩:=h
  refine⟨_,(ae (ar (aX rfl (ak (nT:=1) (js:=[0]) (N':=["number","field"]) rfl rfl (by kernel_rfl)) (c6 K (pv 1))
  (fun _ _ _ _ _=>(aj (i:=0) (show List.Nodup (["number","field"]:List Str) by decide +kernel) rfl (by trivial)))
  (fun _ _ _ _ _=>aM)
  (fun _ _ _ _ _=>(aZ (pv 1) D_Field_fit (hr.mono (by decide)) (a8 (pv 0) ad)))))),?_⟩
  refine⟨_,rfl,a,rfl,⟨_,SqL.of ha⟩,cM (K:=K) (fun i=>r.getD i 0 % p) ha (by rw[y9];exact hz) (fun i x H2 ex e=>?_) (fun l H' h0 e hl=>q l H' e h0 ?_)⟩
  ·obtain⟨u,eu,rfl⟩:=gv ex
   obtain⟨dx,hf2⟩:=hf.mono e
   exact⟨_,rfl,f,dx,_,rfl,hf2,rfl,_,rfl,f,u,p,rfl,⟨dx,hf2⟩,hp,by rw[aH eu],Same.refl _⟩
  ·rw[hl,y9,ly (f:=fun z=>z % p)]
def oK:Option Nat->V
 | none=>.non
 | some a=>.int (a:Int)
theorem rM {s n:Nat}{f:Nat->Bool} (h:∀ i,i<n->f (s+i)=false):(List.range' s n).find? f=none:=by
 rw[zc]
 intro a ha
 obtain⟨h1,h2⟩:=List.mem_range'_1.mp ha
 have:=h (a - s) (by omega)
 rw[show s+(a - s)=a by omega]at this
 simp[this]
theorem pZ {s n k:Nat}{f:Nat->Bool} (hk:k<n) (h:∀ i,i<k->f (s+i)=false) (ht:f (s+k)=true):(List.range' s n).find? f=some (s+k):=by
 rw[List.find?_eq_some_iff_append]
 refine⟨ht,List.range' s k,List.range' (s+k+1) (n - k - 1),?_,fun a ha=>?_⟩
 ·rw[show n=k+((n - k - 1)+1) by omega,<- List.range'_append_1,List.range'_succ]
  simp
 ·obtain⟨h1,h2⟩:=List.mem_range'_1.mp ha
  have:=h (a - s) (by omega)
  rw[show s+(a - s)=a by omega]at this
  simp[this]
def fX:Sp:=fun vs H Q _=>∃ (x:V)(st q:Nat)(t:List (List Int)),vs=[x,.int (st:Int),.int (q:Int)]/\Tb H x t/\t.length<=1000/\st<=t.length/\q<=1000/\(∀ r∈t,q<r.length)/\Q (oK (Mx.rowWith t st q)) H
abbrev ij:Stmt:=top 41
theorem sc_row_with:am ["rows","start","place","at"] ["rows","start","place"] (ag ij):=⟨rfl,rfl,rfl,by decide +kernel,rfl,by decide +kernel,by decide +kernel⟩
theorem qh {f:Addr}{fd:FuncData} (F:Fun K "row_with" "row_with" ij f fd) (T:sM mg):FnOk P w K mg base CX0 1 f fd ["rows","start","place"] fX:=by
 refine F.ok sc_row_with (fun vs H Q E h=>?_) (fun cdv A outer s H vs Q E hr h=>?_)
 ·obtain⟨x,st,q,t,rfl,_⟩:=h
  rfl
 ·obtain⟨x,st,q,t,rfl,⟨a,xs,rfl,ha,hpx⟩,hz,hst,hq,hw,qq⟩:=h
  have ND:=sc_row_with.nd
  have hxl:=Paired.length hpx
  refine⟨_,(aa (bN yV rfl (u9 rfl T.n_range (a8 (pv 1) (a8 (aA (gU K) rfl T.n_len boot_len (a8 (pv 0) ad)) ad))) (aj (i:=3) ND rfl (by trivial))
  (ae (ba (aw n0 (bK (eZ K) (bK (eZ K) (pv 0) (pv 3) (fun _ _=>rfl)) (pv 2) (fun _ _=>rfl)) ai (aD _))
  (ae (ar (pv 3)))
  aE)))
 (ae (ar bD))),?_⟩
  refine⟨_,rfl,_,rfl,a,_,rfl,.inl (SqL.of ha),_,_,rfl,⟨by omega,by omega,by omega,by omega⟩,fc (n:=(((xs.length:Nat):Int) - (st:Int)).toNat) (fun i σ H2=>∃ o,σ=[some (.ref a),some (.int (st:Int)),some (.int (q:Int)),o]/\H2=H/\∀ j,j<i->Mx.e (t.getD (st+j) []) q=0)
   ⟨none,rfl,rfl,fun j hj=>absurd hj (Nat.not_lt_zero _)⟩ ?_ ?_⟩
  ·rintro i σ H2 hi ⟨o,rfl,rfl,hz0⟩
   have hi':st+i<t.length:=by omega
   obtain⟨c,hc1,hc2⟩:=v9 hpx hi'
   have ei:(st:Int)+(i:Int)=((st+i:Nat):Int):=by omega
   have hqr:q<(t.getD (st+i) []).length:=hw _ (mem_getD hi')
   refine⟨_,rfl,_,rfl,a,_,_,_,rfl,rfl,SqL.of ha,by rw[ei];exact dj hc1,_,rfl,c,_,_,_,rfl,rfl,SqL.of hc2,lY hqr,rfl,_,rfl,bB (fun hc=>?_) (fun hc=>?_)⟩
   ·have hne:Mx.e (t.getD (st+i) []) q≠0:=fun z=>by
     have z':(t.getD (st+i) []).getD q 0=0:=z
     rw[z',ye rfl]at hc
     cases hc
    refine⟨_,rfl,?_⟩
    have e1:Mx.rowWith t st q=some (st+i):=by
     unfold Mx.rowWith
     exact pZ (by omega) (fun j hj=>by simpa using hz0 j hj) (by simpa using hne)
    rw[e1]at qq
    rw[ei]
    exact qq
   ·refine⟨_,rfl,rfl,fun j hj=>?_⟩
    by_cases cj:j<i
    ·exact hz0 j cj
    ·have:j=i:=by omega
     subst this
     by_cases z:Mx.e (t.getD (st+j) []) q=0
     ·exact z
     ·exact absurd (by rw[yj (fun y=>z (by injection y))];rfl) hc
  ·rintro σ H2 ⟨o,rfl,rfl,hz0⟩
   have e1:Mx.rowWith t st q=none:=by
    unfold Mx.rowWith
    refine rM fun j hj=>?_
    have:=hz0 j (by omega)
    simpa using this
   rw[e1]at qq
   exact qq
def jo (C:Addr):Sp:=fun vs H Q _=>∃ (f:Addr)(x:V)(p k:Int)(r:List Int),vs=[.ref f,x,.int k]/\FieldAt C H f p/\0<p/\0<=k/\k<=1000000/\Rw H x r/\r.length<=1000/\∀ l H',Same H H'->H l=none->H' l=some (.lst ((Mx.scaled p r k).map V.int))->Q (.ref l) H'
abbrev kX:Stmt:=top 42
theorem tV:am ["field","row","number"] ["field","row","number"] (ag kX):=⟨rfl,rfl,rfl,by decide +kernel,rfl,by decide +kernel,by decide +kernel⟩
theorem uf {f C:Addr}{fd:FuncData} (F:Fun K "scaled" "scaled" kX f fd) (D_Field_times:Dm P w K mg base 2 C "times" ["self","one","other"] (fV C)):FnOk P w K mg base CX0 3 f fd ["field","row","number"] (jo C):=by
 refine F.ok tV (fun vs H Q E h=>?_) (fun cdv A outer s H vs Q E hr h=>?_)
 ·obtain⟨f,x,p,k,r,rfl,_⟩:=h
  rfl
 ·obtain⟨f,x,p,k,r,rfl,hf,hp,k0,k1,⟨a,rfl,ha⟩,hz,q⟩:=h
  refine⟨_,(ae (ar (aX rfl (ak (nT:=1) (js:=[0,2]) (N':=["mine","field","number"]) rfl rfl (by kernel_rfl)) (c6 K (pv 1))
  (fun _ _ _ _ _=>(aj (i:=0) (show List.Nodup (["mine","field","number"]:List Str) by decide +kernel) rfl (by trivial)))
  (fun _ _ _ _ _=>aM)
  (fun _ _ _ _ _=>(aZ (pv 1) D_Field_times (hr.mono (by decide)) (a8 (pv 2) (a8 (pv 0) ad))))))),?_⟩
  refine⟨_,rfl,a,rfl,⟨_,SqL.of ha⟩,cM (K:=K) (fun i=>k * r.getD i 0 % p) ha (by rw[y9];exact hz) (fun i x H2 ex e=>?_) (fun l H' h0 e hl=>q l H' e h0 ?_)⟩
  ·obtain⟨u,eu,rfl⟩:=gv ex
   obtain⟨dx,hf2⟩:=hf.mono e
   exact⟨_,rfl,f,dx,_,rfl,hf2,rfl,_,rfl,_,rfl,f,k,u,p,rfl,⟨dx,hf2⟩,hp,.inl ⟨by omega,by omega⟩,by rw[aH eu],Same.refl _⟩
  ·rw[hl,y9,ly (f:=fun z=>k * z % p)]
   rfl
def hU (C:Addr):Sp:=fun vs H Q _=>∃ (f:Addr)(x y:V)(p:Int)(q:Nat)(r ld:List Int),vs=[.ref f,x,y,.int (q:Int)]/\FieldAt C H f p/\0<p/\p<=1000000/\Rw H x r/\Rw H y ld/\r.length<=1000/\ld.length=r.length/\q<r.length/\InF p r/\
 ∀ v H',Same H H'->((v=x/\Mx.without p r ld q=r)\/RwN H H' v (Mx.without p r ld q))->Q v H'
abbrev jx:Stmt:=top 43
theorem sc_without:am ["field","row","lead","place","often"] ["field","row","lead","place"] (ag jx):=⟨rfl,rfl,rfl,by decide +kernel,rfl,by decide +kernel,by decide +kernel⟩
theorem mB {r s:List Int}{f:Int->Int->Int} (h:s.length=r.length):(List.range (min r.length s.length)).map (fun i=>f (r.getD i 0) (s.getD i 0))=List.zipWith f r s:=by
 apply zz
 intro i
 rw[yf,List.getElem?_zipWith]
 by_cases hi:i<r.length
 ·rw[zi (by omega),yb hi,yb (show i<s.length by omega)]
  show some (f (r.getD i 0) (s.getD i 0))=some (f r[i] s[i])
  rw[aH (yb hi),aH (yb (show i<s.length by omega))]
 ·rw[yo (by simp;omega),yo (by omega)]
  rfl
theorem rQ {f C:Addr}{fd:FuncData} (F:Fun K "without" "without" jx f fd) (T:sM mg) (D_Field_minus:Dm P w K mg base 2 C "minus" ["self","one","other"] (iQ C)) (D_Field_times:Dm P w K mg base 2 C "times" ["self","one","other"] (fV C)):
  FnOk P w K mg base CX0 3 f fd ["field","row","lead","place"] (hU C):=by
 refine F.ok sc_without (fun vs H Q E h=>?_) (fun cdv A outer s H vs Q E hr h=>?_)
 ·obtain⟨f,x,y,p,q,r,ld,rfl,_⟩:=h
  rfl
 ·obtain⟨f,x,y,p,q,r,ld,rfl,hf,hp,hp1,⟨a,rfl,ha⟩,⟨b,rfl,hb⟩,hz,hl,hq,hin,qq⟩:=h
  have ND:=sc_without.nd
  refine⟨_,(aa (ax (i:=4) ND rfl (by trivial) (bK (eZ K) (pv 1) (pv 3) (fun _ _=>rfl)))
 (aa (ba (aw ci (pv 4) ai (aD _))
  (ae (ar (pv 1)))
  aE)
 (ae (ar (aX rfl (ak (nT:=2) (js:=[0,4]) (N':=["mine","theirs","field","often"]) rfl rfl (by kernel_rfl)) (wX K rfl T.n_zip (a8 (pv 1) (a8 (pv 2) ad)))
  (fun _ _ _ _ _=>(gT K (n:=2) rfl (av (aj (i:=0) (show List.Nodup (["mine","theirs","field","often"]:List Str) by decide +kernel) rfl (by trivial)) (av (aj (i:=1) (show List.Nodup (["mine","theirs","field","often"]:List Str) by decide +kernel) rfl (by trivial)) bw))))
  (fun _ _ _ _ _=>aM)
  (fun _ _ _ _ _=>(aZ (pv 2) D_Field_minus (hr.mono (by decide)) (a8 (pv 0) (a8 (aZ (pv 2) D_Field_times (hr.mono (by decide)) (a8 (pv 3) (a8 (pv 1) ad))) ad))))))))),?_⟩
  refine⟨_,rfl,_,rfl,a,_,_,_,rfl,rfl,SqL.of ha,lY hq,?_⟩
  refine⟨_,rfl,rfl,_,rfl,bB (fun c=>?_) (fun c=>?_)⟩
  ·have c0:Mx.e r q=0:=by
    have:=yr c
    injection this
   refine⟨_,rfl,qq _ _ (Same.refl _) (.inl ⟨rfl,?_⟩)⟩
   unfold Mx.without
   rw[if_pos c0]
  ·have c0:¬ Mx.e r q=0:=fun z=>c (by
    have z':r.getD q 0=0:=z
    rw[z',ye rfl])
   have hb0:=hin _ (mem_getD (d:=0) hq)
   refine⟨_,rfl,_,rfl,a,b,rfl,⟨_,SqL.of ha⟩,⟨_,SqL.of hb⟩,nQ (K:=K) (fun i=>(r.getD i 0 - r.getD q 0 * ld.getD i 0 % p) % p) ha hb (by rw[y9];exact hz) (fun i x y T' H2 ex ey e hT=>?_) (fun l H' h0 e hl'=>qq _ H' e (.inr ⟨l,rfl,h0,?_⟩))⟩
   ·obtain⟨u,eu,rfl⟩:=gv ex
    obtain⟨v,ev,rfl⟩:=gv ey
    have e3:=az (o:=.tup [V.int u,V.int v]) e hT
    obtain⟨dx,hf3⟩:=hf.mono e3
    exact⟨_,rfl,f,dx,_,rfl,hf3,rfl,_,rfl,_,rfl,f,dx,_,rfl,hf3,rfl,_,rfl,_,rfl,f,_,v,p,rfl,⟨dx,hf3⟩,hp,.inl ⟨by show -(2 ^ 64)<r.getD q 0;omega,by show r.getD q 0<2 ^ 64;omega⟩,f,u,_,p,rfl,⟨dx,hf3⟩,hp,by rw[aH eu,aH ev],az (Same.refl _) hT⟩
   ·rw[hl',y9,y9,mB (f:=fun m t=>(m - r.getD q 0 * t % p) % p) hl]
    unfold Mx.without
    rw[if_neg c0]
end
structure Shd (p : Int) (w : Nat) (t : List (List Int)) : Prop where
  sh : Mx.Sh p w t
  few : t.length <= 100
  nar : w <= 200
section
variable {P : Program}{w : World}{K : PySem.W.Frag}{mg : Str -> Option Value}{base : Heap}
def i9 (C:Addr):Sp:=fun vs H Q _=>∃ (f:Addr)(x:V)(p:Int)(st a q wd:Nat)(t:List (List Int)),vs=[.ref f,x,.int (st:Int),.int (a:Int),.int (q:Int)]/\FieldAt C H f p/\My.isP p=true/\p<=1000000/\Tb H x t/\Shd p wd t/\q<wd/\st<=a/\a<t.length/\Mx.e (t.getD a []) q≠0/\
 ∀ l H',Same H H'->Tb H' (.ref l) (Mx.cleared p (My.bk p) t st a q)->Q (.ref l) H'
abbrev jB:Stmt:=top 44
theorem sc_cleared:am ["field","rows","start","at","place","lead","others"] ["field","rows","start","at","place"] (ag jB):=⟨rfl,rfl,rfl,by decide +kernel,rfl,by decide +kernel,by decide +kernel⟩
theorem rV {f C:Addr}{fd:FuncData} (F:Fun K "cleared" "cleared" jB f fd) (D_scaled:Df P w K mg base 3 "scaled" ["field","row","number"] (jo C)) (D_Field_back:Dm P w K mg base 3 C "back" ["self","number"] (oj C)) (D_without:Df P w K mg base 3 "without" ["field","row","lead","place"] (hU C)):
  FnOk P w K mg base CX0 4 f fd ["field","rows","start","at","place"] (i9 C):=by
 refine F.ok sc_cleared (fun vs H Q E h=>?_) (fun cdv A outer s H vs Q E hr h=>?_)
 ·obtain⟨f,x,p,st,a,q,wd,t,rfl,_⟩:=h
  rfl
 ·obtain⟨f,x,p,st,a,q,wd,t,rfl,hf,hP,hp1,⟨ao,xs,rfl,ha,hpx⟩,S,hq,hsa,hat,hne,qq⟩:=h
  have ND:=sc_cleared.nd
  have hp2:2<=p:=((My.isP_iff p).mp hP).1
  have hxl:=Paired.length hpx
  have few:=S.few
  have nar:=S.nar
  obtain⟨c,hc1,hc2⟩:=v9 hpx hat
  have hrw:(t.getD a []).length=wd:=S.sh.wid _ (mem_getD hat)
  have hfit:=(S.sh.fit (t.getD a []) (mem_getD hat)).at (by omega) q
  have hfit0:0<(t.getD a []).getD q 0:=by
   have:(t.getD a []).getD q 0≠0:=hne
   have:=hfit.1
   have e0:Mx.e (t.getD a []) q=(t.getD a []).getD q 0:=rfl
   omega
  have hbk:=My.bk_in hP hfit0 hfit.2
  obtain⟨dx,hf'⟩:=id hf
  refine⟨_,(aa (ax (i:=5) ND rfl (by trivial) (aq D_scaled (hr.mono (by decide)) rfl (a8 (pv 0) (a8 (bK (eZ K) (pv 1) (pv 3) (fun _ _=>rfl)) (a8 (aZ (pv 0) D_Field_back (hr.mono (by decide)) (a8 (bK (eZ K) (bK (eZ K) (pv 1) (pv 3) (fun _ _=>rfl)) (pv 4) (fun _ _=>rfl)) ad)) ad)))))
 (aa (cb (i:=6) ND rfl rfl rfl (ak (nT:=1) (js:=[0,4,5]) (N':=["row","field","place","lead"]) rfl rfl (by kernel_rfl)) (c6 K (aF iZ (cU (pK K) (pv 1) gK (cP (pv 3))) (cU (pK K) (pv 1) (cP (aF dH (pv 3) ai)) gK)))
  (fun _ _ _ _ _=>(aj (i:=0) (show List.Nodup (["row","field","place","lead"]:List Str) by decide +kernel) rfl (by trivial)))
  (fun _ _ _ _ _=>aM)
  (fun _ _ _ _ _=>(aq D_without (hr.mono (by decide)) rfl (a8 (pv 1) (a8 (pv 0) (a8 (pv 3) (a8 (pv 2) ad)))))))
 (ae (ar (aF iZ (aF iZ (cU (pK K) (pv 6) gK (cP (pv 2))) (bg (a8 (pv 5) ad))) (cU (pK K) (pv 6) (cP (pv 2)) gK)))))),?_⟩
  refine⟨_,rfl,_,rfl,_,rfl,ao,_,_,_,rfl,rfl,SqL.of ha,dj hc1,_,rfl,f,dx,_,rfl,hf',rfl,_,rfl,_,rfl,ao,_,_,_,rfl,rfl,SqL.of ha,dj hc1,_,rfl,c,_,_,_,rfl,rfl,SqL.of hc2,lY (by omega),f,_,p,rfl,hf,hP,hp1,hfit0,hfit.2,?_⟩
  refine⟨f,.ref c,p,My.bk p ((t.getD a []).getD q 0),t.getD a [],rfl,hf,by omega,hbk.1,by omega,⟨c,rfl,hc2⟩,by omega,fun ll H1 e1 h01 hll=>?_⟩
  generalize hld:Mx.scaled p (t.getD a []) (My.bk p ((t.getD a []).getD q 0))=lead at hll
  have hldl:lead.length=wd:=by rw[<- hld];unfold Mx.scaled;rw[y9];exact hrw
  refine⟨_,rfl,_,rfl,_,rfl,ao,xs,rfl,SqL.of (e1 _ _ ha),fun l1 H2 e2 _ hl1=>?_⟩
  refine⟨_,rfl,_,rfl,_,_,rfl,rfl,_,rfl,ao,xs,rfl,SqL.of (e2 _ _ (e1 _ _ ha)),fun l2 H3 e3 _ hl2=>?_⟩
  have ea:(a:Int)+1=((a+1:Nat):Int):=by omega
  rw[mq]at hl1
  rw[ea,mr]at hl2
  refine⟨l1,l2,_,_,rfl,rfl,e3 _ _ hl1,hl2,Ap (dl (by simp;omega)),fun l3 H4 e4 _ hl3=>?_⟩
  have e14:Same H H4:=e1.trans (e2.trans (e3.trans e4))
  have hp3:Paired (Rw H) (xs.take a++xs.drop (a+1)) (t.take a++t.drop (a+1)):=Paired.append' (Paired.take' a hpx) (Paired.drop' (a+1) hpx)
  have hl3len:=Paired.length hp3
  have hsmall:(xs.take a++xs.drop (a+1)).length<=1000:=by simp;omega
  refine⟨l3,rfl,⟨_,SqL.of hl3⟩,iK (K:=K) (fun i H v=>Rw H v (((t.take a++t.drop (a+1)).map fun r=>Mx.without p r lead q).getD i [])) (fun i H H' v e h=>h.mono e) (SqL.of hl3) hsmall (fun i x H5 ex e5=>?_) (fun lo H5 vs hlo e5 hlot hvl hvs=>?_)⟩
  ·obtain⟨r,er,hx⟩:=Paired.at hp3 ex
   have hmem:r∈t:=Mx.mem_of_split (yh er)
   have hrl:=S.sh.wid r hmem
   have eg:((t.take a++t.drop (a+1)).map fun r=>Mx.without p r lead q).getD i []=Mx.without p r lead q:=aH (by rw[yf,er];rfl)
   rw[eg]
   refine⟨_,rfl,_,rfl,_,rfl,_,rfl,f,x,.ref ll,p,q,r,lead,rfl,hf.mono (e14.trans e5),by omega,hp1,hx.mono (e14.trans e5),⟨ll,rfl,(e2.trans (e3.trans (e4.trans e5))) _ _ hll⟩,by omega,by omega,by omega,S.sh.fit r hmem,fun v H6 e6 hv=>⟨rP (e5.trans e6) ?_,e6⟩⟩
   rcases hv with⟨rfl,hv⟩|hv
   ·left
    rw[hv]
    exact hx.mono e14
   ·exact .inr hv
  have hv2:=wO (by rw[hvl,hl3len,y9]) hvs
  have hvsl:vs.length<=100:=by rw[hvl,hl3len];simp;omega
  refine⟨_,rfl,_,rfl,_,rfl,lo,vs,rfl,SqL.of hlot,fun m1 H6 e6 _ hm1=>?_⟩
  rw[mq]at hm1
  refine⟨_,rfl,(by show 1<=sizeLine;decide),fun m2 H7 e7 _ hm2=>?_⟩
  refine⟨m1,m2,_,_,rfl,rfl,e7 _ _ hm1,hm2,Ap (dl (by simp;omega)),fun m3 H8 e8 _ hm3=>?_⟩
  refine⟨_,rfl,_,rfl,_,rfl,lo,vs,rfl,SqL.of ((e6.trans (e7.trans e8)) _ _ hlot),fun m4 H9 e9 _ hm4=>?_⟩
  rw[mr]at hm4
  refine⟨m3,m4,_,_,rfl,rfl,e9 _ _ hm3,hm4,Ap (dl (by simp;omega)),fun m5 H10 e10 _ hm5=>?_⟩
  have e510:Same H5 H10:=e6.trans (e7.trans (e8.trans (e9.trans e10)))
  have hv3:Paired (Rw H10) vs _:=Paired.mapP hv2 fun _ _ z=>z.mono e510
  refine qq m5 H10 (e14.trans (e5.trans e510)) ⟨m5,_,rfl,hm5,?_⟩
  have hlead:Rw H10 (.ref ll) lead:=⟨ll,rfl,(e2.trans (e3.trans (e4.trans (e5.trans e510)))) _ _ hll⟩
  have:=Paired.append' (Paired.append' (Paired.take' st hv3) (Paired.cons hlead .nil)) (Paired.drop' st hv3)
  unfold Mx.cleared
  show Paired (Rw H10) _ (((t.take a++t.drop (a+1)).map fun r=>Mx.without p r (Mx.scaled p (t.getD a []) (My.bk p ((t.getD a []).getD q 0))) q).take st++[Mx.scaled p (t.getD a []) (My.bk p ((t.getD a []).getD q 0))]++((t.take a++t.drop (a+1)).map fun r=>Mx.without p r (Mx.scaled p (t.getD a []) (My.bk p ((t.getD a []).getD q 0))) q).drop st)
  rw[hld]
  exact this
noncomputable abbrev red (p:Int)(t:List (List Int))(m:Nat):List (List Int):=(Mx.run p (My.bk p) t m).1
def fj (C:Addr):Sp:=fun vs H Q _=>∃ (f:Addr)(x:V)(p:Int)(m wd:Nat)(t:List (List Int)),vs=[.ref f,x,.int (m:Int)]/\FieldAt C H f p/\My.isP p=true/\p<=1000000/\Tb H x t/\Shd p wd t/\m<=wd/\
 ∀ l H',Same H H'->Tb H' (.ref l) (red p t m)->Q (.ref l) H'
abbrev jz:Stmt:=top 45
theorem sc_reduced:am ["field","table","many","rows","start","place","at"] ["field","table","many"] (ag jz):=⟨rfl,rfl,rfl,by decide +kernel,rfl,by decide +kernel,by decide +kernel⟩
theorem rS {f C:Addr}{fd:FuncData} (F:Fun K "reduced" "reduced" jz f fd) (T:sM mg) (D_fitted_row:Df P w K mg base 2 "fitted_row" ["field","row"] (dY C)) (D_row_with:Df P w K mg base 1 "row_with" ["rows","start","place"] fX) (D_cleared:Df P w K mg base 4 "cleared" ["field","rows","start","at","place"] (i9 C)):
  FnOk P w K mg base CX0 5 f fd ["field","table","many"] (fj C):=by
 refine F.ok sc_reduced (fun vs H Q E h=>?_) (fun cdv A outer s H vs Q E hr h=>?_)
 ·obtain⟨f,x,p,m,wd,t,rfl,_⟩:=h
  rfl
 ·obtain⟨f,x,p,m,wd,t,rfl,hf,hP,hp1,⟨ao,xs,rfl,ha,hpx⟩,S,hm,qq⟩:=h
  have ND:=sc_reduced.nd
  have hp2:2<=p:=((My.isP_iff p).mp hP).1
  have hxl:=Paired.length hpx
  have few:=S.few
  have nar:=S.nar
  refine⟨_,(aa (cb (i:=3) ND rfl rfl rfl (ak (nT:=1) (js:=[0]) (N':=["row","field"]) rfl rfl (by kernel_rfl)) (c6 K (pv 1))
  (fun _ _ _ _ _=>(aj (i:=0) (show List.Nodup (["row","field"]:List Str) by decide +kernel) rfl (by trivial)))
  (fun _ _ _ _ _=>aM)
  (fun _ _ _ _ _=>(aq D_fitted_row (hr.mono (by decide)) rfl (a8 (pv 1) (a8 (pv 0) ad)))))
 (aa (ax (i:=4) ND rfl (by trivial) ai)
 (aa (bN yV rfl (cg rfl T.n_range (a8 (pv 2) ad)) (aj (i:=5) ND rfl (by trivial))
  (aa (ax (i:=6) ND rfl (by trivial) (aq D_row_with (hr.mono (by decide)) rfl (a8 (pv 3) (a8 (pv 4) (a8 (pv 5) ad)))))
 (ae (ba (aw iY (pv 6) bD (aD _))
  (aa (ax (i:=3) ND rfl (by trivial) (aq D_cleared (hr.mono (by decide)) rfl (a8 (pv 0) (a8 (pv 3) (a8 (pv 4) (a8 (pv 6) (a8 (pv 5) ad)))))))
 (ae (vf (i:=4) ND rfl (by trivial) ai vQ)))
  aE))))
 (ae (ar (pv 3)))))),?_⟩
  refine⟨_,rfl,ao,rfl,⟨_,SqL.of ha⟩,mt (K:=K) (fun i=>(t.getD i []).map (· % p)) ha (by omega) (fun i x H2 ex e=>?_) (fun l1 H1 hN e1=>?_)⟩
  ·obtain⟨r,er,hx⟩:=Paired.at hpx ex
   refine⟨_,rfl,_,rfl,f,x,p,r,rfl,hf.mono e,by omega,hx.mono e,by rw[S.sh.wid r (yh er)];omega,fun l3 H3 e3 h03 hl3=>⟨⟨l3,rfl,h03,?_⟩,e3⟩⟩
   rw[aH er];exact hl3
  have efit:(List.range xs.length).map (fun i=>(t.getD i []).map (· % p))=t:=by
   rw[hxl]
   have:=gj (t:=t) (f:=fun r=>r.map (· % p))
   rw[this]
   conv=>rhs;rw[<- AD t]
   exact zn fun r hr=>Mx.map_mod_fit (S.sh.fit r hr)
  rw[efit]at hN
  refine⟨_,rfl,_,rfl,by omega,by omega,fc (n:=((m:Nat):Int).toNat) (fun i σ H2=>∃ (lr:Addr)(o5 o6:Option V),σ=[some (.ref f),some (.ref ao),some (.int (m:Int)),some (.ref lr),some (.int ((Mx.run p (My.bk p) t i).2:Int)),o5,o6]/\Same H H2/\Tb H2 (.ref lr) (red p t i))
   ⟨l1,none,none,rfl,e1,hN.tb⟩ ?_ ?_⟩
  ·rintro i σ H2 hi ⟨lr,o5,o6,rfl,e2,hT⟩
   rw[zm]at hi
   obtain⟨ps,h1,h2,h3,_⟩:=Mx.RR.run (bk:=My.bk p) (by omega) (My.bk_is hP) S.sh i
   have Sr:Shd p wd (red p t i):=⟨h2.sh,by show (red p t i).length<=100;rw[show (red p t i).length=t.length from h3];exact few,nar⟩
   have hst:(Mx.run p (My.bk p) t i).2<=(red p t i).length:=by rw[h1];exact h2.len
   have ei:(0+(i:Int))=(i:Int):=Int.zero_add _
   have hsucc:=Mx.run_succ p (My.bk p) t i
   refine⟨_,rfl,_,rfl,_,rfl,.ref lr,(Mx.run p (My.bk p) t i).2,i,red p t i,by rw[ei];rfl,hT,by have:=Sr.few;omega,hst,by omega,fun r hr=>by rw[Sr.sh.wid r hr];omega,?_⟩
   cases hrw:Mx.rowWith (red p t i) (Mx.run p (My.bk p) t i).2 i with
   | none=>
    refine⟨_,rfl,rfl,_,rfl,vM rfl ?_⟩
    have es:Mx.run p (My.bk p) t (i+1)=Mx.run p (My.bk p) t i:=by
     rw[hsucc]
     unfold Mx.step
     rw[hrw]
    refine⟨lr,some (.int (0+(i:Int))),some (oK none),?_,e2,?_⟩
    ·rw[es];rfl
    ·show Tb H2 (.ref lr) (Mx.run p (My.bk p) t (i+1)).1
     rw[es];exact hT
   | some a=>
    obtain⟨g1,g2,g3⟩:=Mx.rowWith_some hrw
    refine⟨_,rfl,rfl,_,rfl,vN (fun z=>nomatch z) ?_⟩
    refine⟨_,rfl,_,rfl,_,rfl,_,rfl,_,rfl,f,.ref lr,p,(Mx.run p (My.bk p) t i).2,a,i,wd,red p t i,by rw[ei];rfl,hf.mono e2,hP,hp1,hT,Sr,by omega,g1,g2,g3,fun l4 H4 e4 hT4=>?_⟩
    refine⟨_,rfl,_,_,rfl,rfl,l4,some (.int (0+(i:Int))),some (oK (some a)),?_,e2.trans e4,?_⟩
    ·have es:(Mx.run p (My.bk p) t (i+1)).2=(Mx.run p (My.bk p) t i).2+1:=by
      rw[hsucc]
      unfold Mx.step
      rw[hrw]
     rw[es]
     rfl
    ·have es:(Mx.run p (My.bk p) t (i+1)).1=Mx.cleared p (My.bk p) (red p t i) (Mx.run p (My.bk p) t i).2 a i:=by
      rw[hsucc]
      unfold Mx.step
      rw[hrw]
     show Tb H4 (.ref l4) (Mx.run p (My.bk p) t (i+1)).1
     rw[es];exact hT4
  ·rintro σ H2 ⟨lr,o5,o6,rfl,e2,hT⟩
   rw[zm]at hT
   exact⟨_,rfl,qq lr H2 e2 hT⟩
def dA:Sp:=fun vs H Q _=>∃ (x:V)(m:Nat)(r:List Int),vs=[x,.int (m:Int)]/\Rw H x r/\m<=r.length/\r.length<=1000/\Q (oK (Mx.firstPlace r m)) H
abbrev eA:Stmt:=top 46
theorem sc_first_place:am ["row","many","place"] ["row","many"] (ag eA):=⟨rfl,rfl,rfl,by decide +kernel,rfl,by decide +kernel,by decide +kernel⟩
theorem lM {f:Addr}{fd:FuncData} (F:Fun K "first_place" "first_place" eA f fd) (T:sM mg):FnOk P w K mg base CX0 1 f fd ["row","many"] dA:=by
 refine F.ok sc_first_place (fun vs H Q E h=>?_) (fun cdv A outer s H vs Q E hr h=>?_)
 ·obtain⟨x,m,r,rfl,_⟩:=h
  rfl
 ·obtain⟨x,m,r,rfl,⟨a,rfl,ha⟩,hm,hz,qq⟩:=h
  have ND:=sc_first_place.nd
  refine⟨_,(aa (bN yV rfl (cg rfl T.n_range (a8 (pv 1) ad)) (aj (i:=2) ND rfl (by trivial))
  (ae (ba (aw n0 (bK (eZ K) (pv 0) (pv 2) (fun _ _=>rfl)) ai (aD _))
  (ae (ar (pv 2)))
  aE)))
 (ae (ar bD))),?_⟩
  refine⟨_,rfl,_,rfl,by omega,by omega,fc (n:=((m:Nat):Int).toNat) (fun i σ H2=>∃ o,σ=[some (.ref a),some (.int (m:Int)),o]/\H2=H/\∀ j,j<i->Mx.e r j=0)
   ⟨none,rfl,rfl,fun j hj=>absurd hj (Nat.not_lt_zero _)⟩ ?_ ?_⟩
  ·rintro i σ H2 hi ⟨o,rfl,rfl,hz0⟩
   rw[zm]at hi
   have ei:(0+(i:Int))=(i:Int):=Int.zero_add _
   refine⟨_,rfl,_,rfl,a,_,_,_,rfl,rfl,SqL.of ha,by rw[ei];exact lY (by omega),rfl,_,rfl,bB (fun hc=>?_) (fun hc=>?_)⟩
   ·have hne:Mx.e r i≠0:=fun z=>by
     have z':r.getD i 0=0:=z
     rw[z',ye rfl]at hc
     cases hc
    refine⟨_,rfl,?_⟩
    rw[Mx.firstPlace_some hi hne hz0]at qq
    rw[ei]
    exact qq
   ·refine⟨_,rfl,rfl,fun j hj=>?_⟩
    by_cases cj:j<i
    ·exact hz0 j cj
    ·have:j=i:=by omega
     subst this
     by_cases z:Mx.e r j=0
     ·exact z
     ·exact absurd (by rw[yj (fun y=>z (by injection y))];rfl) hc
  ·rintro σ H2 ⟨o,rfl,rfl,hz0⟩
   rw[zm]at hz0
   rw[Mx.firstPlace_none hz0]at qq
   exact qq
def aW (ps:List Nat):List V:=ps.map fun (q:Nat)=>V.int (q:Int)
def cx:Sp:=fun vs H Q _=>∃ (x:V)(m wd:Nat)(t:List (List Int)),vs=[x,.int (m:Int)]/\Tb H x t/\(∀ r∈t,r.length=wd)/\m<=wd/\wd<=1000/\t.length<=1000/\∀ l H',Same H H'->H l=none->H' l=some (.lst (aW (Mx.leadPlaces t m)))->Q (.ref l) H'
abbrev ee:Stmt:=top 47
theorem sc_lead_places:am ["rows","many","places"] ["rows","many"] (ag ee):=⟨rfl,rfl,rfl,by decide +kernel,rfl,by decide +kernel,by decide +kernel⟩
theorem lK {f:Addr}{fd:FuncData} (F:Fun K "lead_places" "lead_places" ee f fd) (D_first_place:Df P w K mg base 1 "first_place" ["row","many"] dA):FnOk P w K mg base CX0 2 f fd ["rows","many"] cx:=by
 refine F.ok sc_lead_places (fun vs H Q E h=>?_) (fun cdv A outer s H vs Q E hr h=>?_)
 ·obtain⟨x,m,wd,t,rfl,_⟩:=h
  rfl
 ·obtain⟨x,m,wd,t,rfl,⟨ao,xs,rfl,ha,hpx⟩,hw,hm,hwd,hz,qq⟩:=h
  have ND:=sc_lead_places.nd
  have hxl:=Paired.length hpx
  refine⟨_,(aa (cb (i:=2) ND rfl rfl rfl (ak (nT:=1) (js:=[1]) (N':=["row","many"]) rfl rfl (by kernel_rfl)) (c6 K (pv 0))
  (fun _ _ _ _ _=>(aj (i:=0) (show List.Nodup (["row","many"]:List Str) by decide +kernel) rfl (by trivial)))
  (fun _ _ _ _ _=>aM)
  (fun _ _ _ _ _=>(aq D_first_place (hr.mono (by decide)) rfl (a8 (pv 0) (a8 (pv 1) ad)))))
 (ae (ar (aX rfl (ak (nT:=1) (js:=[]) (N':=["place"]) rfl rfl (by kernel_rfl)) (c6 K (pv 2))
  (fun _ _ _ _ _=>(aj (i:=0) (show List.Nodup (["place"]:List Str) by decide +kernel) rfl (by trivial)))
  (fun _ _ _ _ _=>(dQ (aw iY (pv 0) bD (aD _))))
  (fun _ _ _ _ _=>(pv 0)))))),?_⟩
  refine⟨_,rfl,ao,rfl,⟨_,SqL.of ha⟩,iK (K:=K) (fun i _ v=>v=oK (Mx.firstPlace (t.getD i []) m)) (fun i H H' v e h=>h) (SqL.of ha) (by omega) (fun i x H2 ex e=>?_) (fun l1 H1 vs hl1 e1 hlt hvl hvs=>?_)⟩
  ·obtain⟨r,er,hx⟩:=Paired.at hpx ex
   have:=hw r (yh er)
   exact⟨_,rfl,_,rfl,x,m,r,rfl,hx.mono e,by omega,by omega,fun l _ _=>by rw[aH er],Same.refl _⟩
  have evs:vs=(t.map fun r=>Mx.firstPlace r m).map oK:=by
   apply zz
   intro i
   rw[yf,yf]
   by_cases hi:i<vs.length
   ·have hit:i<t.length:=by omega
    rw[yb hi,hvs i _ (yb hi),yb hit,aH (yb hit)]
    rfl
   ·rw[yo (by omega),yo (by omega)]
    rfl
  generalize hops:(t.map fun r=>Mx.firstPlace r m)=ops at evs
  have hol:ops.length=t.length:=by rw[<- hops,y9]
  subst evs
  have hlp:Mx.leadPlaces t m=ops.filterMap id:=by rw[<- hops];rfl
  refine⟨_,rfl,l1,rfl,⟨_,SqL.of hlt⟩,uH (K:=K) (a:=l1) (xs:=ops.map oK) (fun l i H2=>H1 l=none/\Same H1 H2/\H2 l=some (.lst (aW ((ops.take i).filterMap id))))
   (fun l hl=>⟨hl,az (Same.refl _) hl,by rw[Ai];exact a9⟩) (fun l i H2 _ h=>SqL.of (h.2.1 _ _ hlt)) (fun l i x H2 ex h=>?_) (fun l H2 h=>?_)⟩
  ·obtain⟨hl0,e2,hl⟩:=h
   rw[yf]at ex
   cases eo:ops[i]? with
   | none=>rw[eo]at ex;cases ex
   | some o=>
    rw[eo]at ex
    have ex:x=oK o:=(Option.some.inj ex).symm
    subst ex
    have etake:ops.take (i+1)=ops.take i++[o]:=by rw[za,eo];rfl
    cases o with
    | none=>
     refine⟨_,rfl,rfl,_,rfl,vM rfl ⟨hl0,e2,?_⟩⟩
     rw[etake,List.filterMap_append]
     simpa using hl
    | some q=>
     refine⟨_,rfl,rfl,_,rfl,vN (fun z=>nomatch z) ?_⟩
     refine⟨_,rfl,_,hl,?_,hl0,au e2 hl0,?_⟩
     ·refine dl ?_
      unfold aW
      rw[y9]
      have:=List.length_filterMap_le id (ops.take i)
      rw[yO]at this
      omega
     ·rw[a9,etake,List.filterMap_append]
      unfold aW
      simp[oK]
  ·obtain⟨hl0,e2,hl⟩:=h
   refine qq l H2 (e1.trans e2) (e1.free hl0) ?_
   rw[hl,hlp,zK (by simp)]
end
theorem oX (t:List (List Int)):(List.range t.length).map (fun i=>t.getD i []++Mx.onesRow t.length i)=Mx.joined t:=by
 apply zz
 intro i
 rw[yf]
 by_cases h:i<t.length
 ·rw[zi h,Mx.joined_at t i h]
  show some (t.getD i []++Mx.onesRow t.length i)=_
  rw[aH (yb h)]
 ·rw[yo (by simpa using h),yo (by rw[Mx.joined_length];omega)]
  rfl
theorem xj {n i:Nat}{o:List Int} (h:(Mx.ones n)[i]?=some o):i<n/\o=Mx.onesRow n i:=by
 unfold Mx.ones at h
 rw[yf]at h
 by_cases c:i<n
 ·rw[zi c]at h
  exact⟨c,(Option.some.inj h).symm⟩
 ·rw[yo (by simpa using c)]at h
  cases h
theorem m7 (i:Nat):∀ (ps:List Nat),inV (.int (0+(i:Int))) (aW ps)=decide (i∈ps)
 | []=>rfl
 | q::ps=>by
  have ih:=m7 i ps
  unfold inV aW at ih ⊢
  rw[yN,Af,ih]
  have:eqV (.int (q:Int)) (.int (0+(i:Int)))=decide (q=i):=by
   show ((q:Int)==0+(i:Int))=decide (q=i)
   rw[ze,zy,zH]
   omega
  rw[this]
  rw[ze]
  simp only[Bool.or_eq_true,zU,yB]
  constructor
  ·rintro (h|h)
   ·exact .inl h.symm
   ·exact .inr h
  ·rintro (h|h)
   ·exact .inl h.symm
   ·exact .inr h
theorem jZ:∀ (ps:List Nat),(aW ps).all fR=true
 | []=>rfl
 | q::ps=>by
  have ih:=jZ ps
  unfold aW at ih ⊢
  rw[yN,Bx,ih]
  rfl
theorem jS (p:Int)(u:Nat)(r:List Int)(q:Nat):∀ (l:List (List Int×Nat))(v:List Int),Mx.setAll p u (l++[(r,q)]) v=(Mx.setAll p u l v).set q ((0 - Mx.e r u) % p)
 | [],v=>rfl
 | (r',q')::l,v=>jS p u r q l _
theorem t6 {n q:Nat}(h:q<n):ixN n (q:Int)=some q:=by
 unfold ixN
 rw[if_pos (Int.natCast_nonneg q)]
 simp[h]
section
variable {P : Program}{w : World}{K : PySem.W.Frag}{mg : Str -> Option Value}{base : Heap}
def jp (C:Addr):Sp:=fun vs H Q _=>∃ (f:Addr)(x:V)(p:Int)(m:Nat)(t:List (List Int)),vs=[.ref f,x,.int (m:Int)]/\FieldAt C H f p/\My.isP p=true/\p<=1000000/\Tb H x t/\Shd p m t/\m<=100/\
 ((Mx.leadPlaces (red p (Mx.joined t) m) m).length<m->∀ H',Same H H'->Q .non H')/\
 (¬ (Mx.leadPlaces (red p (Mx.joined t) m) m).length<m->∀ l H',Same H H'->TbN H H' l (((red p (Mx.joined t) m).take m).map (List.drop m))->Q (.ref l) H')
abbrev kY:Stmt:=top 48
theorem sc_reader:am ["field","table","many","joined","rows"] ["field","table","many"] (ag kY):=⟨rfl,rfl,rfl,by decide +kernel,rfl,by decide +kernel,by decide +kernel⟩
theorem ug {f C:Addr}{fd:FuncData} (F:Fun K "reader" "reader" kY f fd) (T:sM mg) (D_ones:Df P w K mg base 2 "ones" ["many"] kB) (D_lead_places:Df P w K mg base 2 "lead_places" ["rows","many"] cx) (D_reduced:Df P w K mg base 5 "reduced" ["field","table","many"] (fj C)):
  FnOk P w K mg base CX0 6 f fd ["field","table","many"] (jp C):=by
 refine F.ok sc_reader (fun vs H Q E h=>?_) (fun cdv A outer s H vs Q E hr h=>?_)
 ·obtain⟨f,x,p,m,t,rfl,_⟩:=h
  rfl
 ·obtain⟨f,x,p,m,t,rfl,hf,hP,hp1,hT,S,hm,q1,q2⟩:=h
  have ND:=sc_reader.nd
  obtain⟨ao,xs,rfl,ha,hpx⟩:=id hT
  have hxl:=Paired.length hpx
  have few:=S.few
  have hp2:2<=p:=((My.isP_iff p).mp hP).1
  refine⟨_,(aa (cb (i:=3) ND rfl rfl rfl (ak (nT:=2) (js:=[]) (N':=["row","own"]) rfl rfl (by kernel_rfl)) (wX K rfl T.n_zip (a8 (pv 1) (a8 (aq D_ones (hr.mono (by decide)) rfl (a8 (aA (gU K) rfl T.n_len boot_len (a8 (pv 1) ad)) ad)) ad)))
  (fun _ _ _ _ _=>(gT K (n:=2) rfl (av (aj (i:=0) (show List.Nodup (["row","own"]:List Str) by decide +kernel) rfl (by trivial)) (av (aj (i:=1) (show List.Nodup (["row","own"]:List Str) by decide +kernel) rfl (by trivial)) bw))))
  (fun _ _ _ _ _=>aM)
  (fun _ _ _ _ _=>(aF iZ (pv 0) (pv 1))))
 (aa (ax (i:=4) ND rfl (by trivial) (aq D_reduced (hr.mono (by decide)) rfl (a8 (pv 0) (a8 (pv 3) (a8 (pv 2) ad)))))
 (aa (ba (aw n5 (aA (gU K) rfl T.n_len boot_len (a8 (aq D_lead_places (hr.mono (by decide)) rfl (a8 (pv 4) (a8 (pv 2) ad))) ad)) (pv 2) (aD _))
  (ae (ar bD))
  aE)
 (ae (ar (aX rfl (ak (nT:=1) (js:=[2]) (N':=["row","many"]) rfl rfl (by kernel_rfl)) (c6 K (cU (pK K) (pv 4) gK (cP (pv 2))))
  (fun _ _ _ _ _=>(aj (i:=0) (show List.Nodup (["row","many"]:List Str) by decide +kernel) rfl (by trivial)))
  (fun _ _ _ _ _=>aM)
  (fun _ _ _ _ _=>(cU (pK K) (pv 0) (cP (pv 1)) gK)))))))),?_⟩
  refine⟨_,rfl,_,rfl,ao,_,rfl,.inl (SqL.of ha),xs.length,rfl,by omega,fun lo H1 e1 hN1=>?_⟩
  rw[hxl]at hN1
  obtain⟨hlo0,os,hos,hpo⟩:=id hN1
  have hol:os.length=t.length:=by rw[Paired.length hpo];unfold Mx.ones;simp
  refine⟨ao,lo,rfl,⟨_,SqL.of (e1 _ _ ha)⟩,⟨_,SqL.of hos⟩,uJ (K:=K) (fun i=>t.getD i []++Mx.onesRow t.length i) (e1 _ _ ha) hos (by omega) (fun i x y T' H2 ex ey e2 hT'=>?_) (fun lj H2 hNj e2=>?_)⟩
  ·obtain⟨r,er,cr,rfl,hcr⟩:=Paired.at hpx ex
   obtain⟨o,eo,co,rfl,hco0,hco⟩:=Paired.at hpo ey
   obtain⟨hi,rfl⟩:=xj eo
   have e3:Same H2 (upd H2 T' (.tup [.ref cr,.ref co])):=az (Same.refl _) hT'
   have hrl:=S.sh.wid r (yh er)
   refine⟨_,rfl,_,rfl,cr,co,_,_,rfl,rfl,e3 _ _ (e2 _ _ (e1 _ _ hcr)),e3 _ _ (e2 _ _ hco),Ap (dl ?_),fun l5 H5 e5 h05 hl5=>⟨⟨l5,rfl,e3.free h05,?_⟩,e3.trans e5⟩⟩
   ·rw[y9,y9,Mx.onesRow_length];omega
   ·rw[hl5,aH er,yI]
  rw[hxl,hol,Nat.min_self,oX]at hNj
  have Sj:Shd p (m+t.length) (Mx.joined t):=⟨Mx.joined_sh (by omega) S.sh,by rw[Mx.joined_length];exact few,by omega⟩
  refine⟨_,rfl,_,rfl,_,rfl,f,.ref lj,p,m,m+t.length,Mx.joined t,rfl,hf.mono (e1.trans e2),hP,hp1,hNj.tb,Sj,by omega,fun lr H3 e3 hT3=>?_⟩
  obtain⟨ps,h1,h2,h3,_⟩:=Mx.RR.run (bk:=My.bk p) (by omega) (My.bk_is hP) Sj.sh m
  have hrl:(red p (Mx.joined t) m).length=t.length:=by rw[show (red p (Mx.joined t) m).length=(Mx.joined t).length from h3,Mx.joined_length]
  refine⟨_,rfl,_,rfl,.ref lr,m,m+t.length,red p (Mx.joined t) m,rfl,hT3,h2.sh.wid,by omega,by omega,by omega,fun l4 H4 e4 _ hl4=>?_⟩
  have hpl:(aW (Mx.leadPlaces (red p (Mx.joined t) m) m)).length=(Mx.leadPlaces (red p (Mx.joined t) m) m).length:=by unfold aW;rw[y9]
  have e14:Same H H4:=e1.trans (e2.trans (e3.trans e4))
  refine⟨l4,_,rfl,.inl (SqL.of hl4),_,rfl,_,_,rfl,rfl,_,rfl,bB (fun c=>?_) (fun c=>?_)⟩
  ·have c':=yr c
   rw[hpl]at c'
   exact q1 (by omega) H4 e14
  ·have c':¬ ((aW (Mx.leadPlaces (red p (Mx.joined t) m) m)).length:Int)<(m:Int):=fun z=>c (ye z)
   rw[hpl]at c'
   obtain⟨lro,rxs,elr,hrx,hpr⟩:=hT3
   cases elr
   have hrxl:=Paired.length hpr
   refine⟨_,rfl,_,rfl,_,rfl,lr,_,rfl,SqL.of (e4 _ _ hrx),fun l7 H7 e7 h07 hl7=>?_⟩
   rw[mq]at hl7
   have hp7:=Paired.take' m hpr
   have hp7l:=Paired.length hp7
   refine⟨l7,rfl,⟨_,SqL.of hl7⟩,mt (K:=K) (fun i=>(((red p (Mx.joined t) m).take m).getD i []).drop m) hl7 (by rw[hp7l,yO];omega) (fun i x H8 ex e8=>?_) (fun l9 H9 hN9 e9=>?_)⟩
   ·obtain⟨r,er,cr,rfl,hcr⟩:=Paired.at hp7 ex
    refine⟨_,rfl,_,rfl,_,rfl,cr,_,rfl,SqL.of (e8 _ _ (e7 _ _ (e4 _ _ hcr))),fun l H e h0 hl=>⟨⟨l,rfl,h0,?_⟩,e⟩⟩
    rw[hl,mr,aH er,List.map_drop]
   ·rw[hp7l,gj (f:=List.drop m)]at hN9
    have e49:Same H H7:=e14.trans e7
    refine q2 (by omega) l9 H9 (e49.trans e9) ⟨e49.free hN9.1,?_⟩
    obtain⟨_,zs,hz1,hz2⟩:=hN9
    exact⟨zs,hz1,Paired.mapP hz2 fun x r ⟨c,q1,q2,q3⟩=>⟨c,q1,e49.free q2,q3⟩⟩
noncomputable def kF (p:Int)(t:List (List Int))(m:Nat):List Nat:=Mx.leadPlaces (red p t m) m
noncomputable def bS (p:Int)(t:List (List Int))(m:Nat):List Nat:=(List.range m).filter fun q=>!decide (q∈kF p t m)
def jq (C:Addr):Sp:=fun vs H Q _=>∃ (f:Addr)(x:V)(p:Int)(m:Nat)(t:List (List Int)),vs=[.ref f,x,.int (m:Int)]/\FieldAt C H f p/\My.isP p=true/\p<=1000000/\Tb H x t/\Shd p m t/\
 (bS p t m=[]->∀ H',Same H H'->Q .non H')/\
 (∀ u rest,bS p t m=u::rest->∀ l H',Same H H'->H l=none->H' l=some (.lst ((Mx.noughtRow p (red p t m) (kF p t m) m u).map V.int))->Q (.ref l) H')
abbrev kZ:Stmt:=top 49
theorem sc_nought:am ["field","table","many","rows","places","unled","told","row","place"] ["field","table","many"] (ag kZ):=⟨rfl,rfl,rfl,by decide +kernel,rfl,by decide +kernel,by decide +kernel⟩
theorem uh {f C:Addr}{fd:FuncData} (F:Fun K "nought" "nought" kZ f fd) (T:sM mg) (D_lead_places:Df P w K mg base 2 "lead_places" ["rows","many"] cx) (D_reduced:Df P w K mg base 5 "reduced" ["field","table","many"] (fj C)) (D_ones_row:Df P w K mg base 1 "ones_row" ["many","own"] dO)
  (D_Field_minus:Dm P w K mg base 2 C "minus" ["self","one","other"] (iQ C)):FnOk P w K mg base CX0 6 f fd ["field","table","many"] (jq C):=by
 refine F.ok sc_nought (fun vs H Q E h=>?_) (fun cdv A outer s H vs Q E hr h=>?_)
 ·obtain⟨f,x,p,m,t,rfl,_⟩:=h
  rfl
 ·obtain⟨f,x,p,m,t,rfl,hf,hP,hp1,hT,S,q1,q2⟩:=h
  have ND:=sc_nought.nd
  have few:=S.few
  have nar:=S.nar
  have hp2:2<=p:=((My.isP_iff p).mp hP).1
  obtain⟨ps,h1,h2,h3,_⟩:=Mx.RR.run (bk:=My.bk p) (by omega) (My.bk_is hP) S.sh m
  have hrl:(red p t m).length=t.length:=h3
  have eps:kF p t m=ps:=Mx.leadPlaces_eq h2
  refine⟨_,(aa (ax (i:=3) ND rfl (by trivial) (aq D_reduced (hr.mono (by decide)) rfl (a8 (pv 0) (a8 (pv 1) (a8 (pv 2) ad)))))
 (aa (ax (i:=4) ND rfl (by trivial) (aq D_lead_places (hr.mono (by decide)) rfl (a8 (pv 3) (a8 (pv 2) ad))))
 (aa (cb (i:=5) ND rfl rfl rfl (ak (nT:=1) (js:=[4]) (N':=["place","places"]) rfl rfl (by kernel_rfl)) (cg rfl T.n_range (a8 (pv 2) ad))
  (fun _ _ _ _ _=>(aj (i:=0) (show List.Nodup (["place","places"]:List Str) by decide +kernel) rfl (by trivial)))
  (fun _ _ _ _ _=>(dQ (aw (rX K) (pv 0) (pv 1) (by with_unfolding_all rfl))))
  (fun _ _ _ _ _=>(pv 0)))
 (aa (ba (aw ci (aA (gU K) rfl T.n_len boot_len (a8 (pv 5) ad)) ai (aD _))
  (ae (ar bD))
  aE)
 (aa (ax (i:=6) ND rfl (by trivial) (aq D_ones_row (hr.mono (by decide)) rfl (a8 (pv 2) (a8 (bK (eZ K) (pv 5) ai (fun _ _=>rfl)) ad))))
 (aa (bN yV rfl (wX K rfl T.n_zip (a8 (pv 3) (a8 (pv 4) ad))) (gT K (n:=2) rfl (av (aj (i:=7) ND rfl (by trivial)) (av (aj (i:=8) ND rfl (by trivial)) bw)))
  (ae (rN (aZ (pv 0) D_Field_minus (hr.mono (by decide)) (a8 ai (a8 (bK (eZ K) (pv 7) (bK (eZ K) (pv 5) ai (fun _ _=>rfl)) (fun _ _=>rfl)) ad))) (vi (pv 6) (pv 8) pL))))
 (ae (ar (pv 6))))))))),?_⟩
  refine⟨_,rfl,_,rfl,_,rfl,f,x,p,m,m,t,rfl,hf,hP,hp1,hT,S,yi _,fun lr H1 e1 hT1=>?_⟩
  refine⟨_,rfl,_,rfl,.ref lr,m,m,red p t m,rfl,hT1,h2.sh.wid,yi _,by omega,by omega,fun lp H2 e2 h02 hlp=>?_⟩
  have hlp:H2 lp=some (.lst (aW ps)):=by rw[<- eps];exact hlp
  refine⟨_,rfl,_,rfl,by omega,by omega,sF (n:=((m:Nat):Int).toNat) (fun l i H3=>H2 l=none/\Same H2 H3/\H3 l=some (.lst (aW ((List.range i).filter fun q=>!decide (q∈ps)))))
   (fun l hl=>⟨hl,az (Same.refl _) hl,a9⟩) (fun l i H3 hi h=>?_) (fun lu H3 h=>?_)⟩
  ·obtain⟨hl0,e3,hl⟩:=h
   rw[zm]at hi
   refine⟨_,rfl,_,rfl,lp,_,rfl,.inl (SqL.of (e3 _ _ hlp)),rfl,jZ ps,_,rfl,?_⟩
   have hb:(if true=true then !inV (V.int (0+(i:Int))) (aW ps) else inV (V.int (0+(i:Int))) (aW ps))=!decide (i∈ps):=by
    rw[if_pos rfl,m7]
   refine bB (fun c=>?_) (fun c=>?_)
   ·have c':(!decide (i∈ps))=true:=hb▸c
    refine⟨_,rfl,_,hl,dl ?_,hl0,au e3 hl0,?_⟩
    ·unfold aW
     rw[y9]
     have:=z9 (fun q=>!decide (q∈ps)) (List.range i)
     rw[zq]at this
     omega
    ·rw[a9,At,AO,List.filter_cons_of_pos (p:=fun q=>!decide (q∈ps)) c']
     unfold aW
     simp
   ·have c':¬ (!decide (i∈ps))=true:=fun z=>c (hb▸z)
    refine⟨hl0,e3,?_⟩
    rw[At,AO,List.filter_cons_of_neg (p:=fun q=>!decide (q∈ps)) c']
    simpa using hl
  obtain⟨hlu0,e3,hlu⟩:=h
  rw[zm]at hlu
  have eun:(List.range m).filter (fun q=>!decide (q∈ps))=bS p t m:=by unfold bS;rw[eps]
  rw[eun]at hlu
  have e13:Same H H3:=e1.trans (e2.trans e3)
  have hul:(aW (bS p t m)).length=(bS p t m).length:=by unfold aW;rw[y9]
  refine⟨_,rfl,lu,_,rfl,.inl (SqL.of hlu),rfl,_,rfl,bB (fun c=>?_) (fun c=>?_)⟩
  ·have c':=yr c
   injection c' with c'
   exact q1 (List.eq_nil_of_length_eq_zero (by omega)) H3 e13
  ·obtain⟨u,rest,eu⟩:∃ u rest,bS p t m=u::rest:=by
    cases e:bS p t m with
    | nil=>exact absurd (ye (by rw[e];rfl)) c
    | cons u rest=>exact⟨u,rest,rfl⟩
   have humem:u∈bS p t m:=by rw[eu];exact zr
   have hum:u<m:=by
    unfold bS at humem
    exact Aj.mp (zo.mp humem).1
   have at0:atI (aW (bS p t m)) 0=some (.int (u:Int)):=dj (j:=0) (by rw[eu];rfl)
   refine⟨_,rfl,_,rfl,lu,_,_,_,rfl,rfl,SqL.of hlu,at0,m,u,rfl,by omega,fun lt H4 e4 h04 hlt=>?_⟩
   obtain⟨lro,rxs,elr,hrx,hpr⟩:=hT1
   cases elr
   have hrxl:=Paired.length hpr
   have hrx3:H3 lr=some (.lst rxs):=(e2.trans e3) _ _ hrx
   have hlp3:H3 lp=some (.lst (aW ps)):=e3 _ _ hlp
   refine⟨_,rfl,_,rfl,lr,lp,rfl,⟨_,SqL.of (e4 _ _ hrx3)⟩,⟨_,SqL.of (e4 _ _ hlp3)⟩,xJ (K:=K) (a:=lr) (b:=lp) (xs:=rxs) (ys:=aW ps)
    (fun i σ H5=>∃ o7 o8,σ=[some (.ref f),some x,some (.int (m:Int)),some (.ref lr),some (.ref lp),some (.ref lu),some (.ref lt),o7,o8]/\Same H3 H5/\H5 lt=some (.lst ((Mx.setAll p u (((red p t m).zip ps).take i) (Mx.onesRow m u)).map V.int)))
    ⟨none,none,rfl,e4,hlt⟩ (fun i σ H5 _ ⟨_,_,_,e,_⟩=>⟨SqL.of (e _ _ hrx3),SqL.of (e _ _ hlp3)⟩) ?_ ?_⟩
   ·rintro i x y T' σ H5 ex ey ⟨o7,o8,rfl,e5,hlt5⟩ hT'
    obtain⟨r,er,cr,rfl,hcr⟩:=Paired.at hpr ex
    obtain⟨q,eq,rfl⟩:∃ q,ps[i]?=some q/\y=.int (q:Int):=by
     unfold aW at ey
     rw[yf]at ey
     cases e:ps[i]? with
     | none=>rw[e]at ey;cases ey
     | some q=>rw[e]at ey;exact⟨q,rfl,(Option.some.inj ey).symm⟩
    have hqm:q<m:=h2.lt q (yh eq)
    have hrl':r.length=m:=h2.sh.wid r (yh er)
    have e6:=az (o:=.tup [V.ref cr,V.int (q:Int)]) (Same.refl H5) hT'
    obtain⟨dx,hf6⟩:=hf.mono (e13.trans (e5.trans e6))
    refine⟨T',_,rfl,SqT.of a9,rfl,_,_,rfl,_,_,rfl,rfl,?_⟩
    refine⟨_,rfl,f,dx,_,rfl,hf6,rfl,_,rfl,_,rfl,lu,_,_,_,rfl,rfl,SqL.of (e6 _ _ (e5 _ _ hlu)),at0,cr,_,_,_,rfl,rfl,SqL.of (e6 _ _ (e5 _ _ ((e2.trans e3) _ _ hcr))),lY (by omega),f,0,_,p,rfl,⟨dx,hf6⟩,by omega,?_⟩
    refine⟨_,rfl,_,rfl,lt,_,_,q,rfl,rfl,e6 _ _ hlt5,t6 ?_,?_⟩
    ·rw[y9,Mx.setAll_length,Mx.onesRow_length];exact hqm
    ·refine⟨_,_,rfl,au (e5.trans e6) h04,?_⟩
     have hz:((red p t m).zip ps).take (i+1)=((red p t m).zip ps).take i++[(r,q)]:=by
      rw[za,AH (z:=(r,q)) |>.mpr ⟨er,eq⟩]
      rfl
     rw[a9,hz,jS,List.map_set]
   ·rintro σ H5 ⟨o7,o8,rfl,e5,hlt5⟩
    have hz:((red p t m).zip ps).take (min rxs.length (aW ps).length)=(red p t m).zip ps:=by
     rw[zK]
     unfold aW
     rw[List.length_zip,y9,hrxl]
     exact yi _
    rw[hz]at hlt5
    refine⟨_,rfl,q2 u rest eu lt H5 (e13.trans e5) (e13.free h04) ?_⟩
    rw[eps]
    exact hlt5
end
end K52
namespace K52
open PySem L2
open PyProof.Rows (boot_list boot_int boot_bool boot_tuple boot_str boot_dict boot_all boot_sorted)
theorem uK (p:Int)(rows:List aO)(fo:Option (List Int))(ms:List Mix)(many:Nat)(k:Int):(dX p rows fo ms many k).length=many:=by
 unfold dX
 rw[y9,zq]
theorem uM {p:Int}(hp:0<p)(rows:List aO)(msg:List Int)(fo:Option (List Int))(cs:Cs)(m:Mix):0<=kf p rows msg fo cs m/\kf p rows msg fo cs m<p:=by
 unfold kf
 by_cases c:xL fo m.1=true
 ·rw[if_pos c];omega
 ·rw[if_neg c,Mx.rowSum_eq]
  exact⟨zd _ (by omega),yW _ hp⟩
theorem qO {p:Int}(hp:0<p)(rows:List aO)(msg:List Int)(fo:Option (List Int)):∀ (ms:List Mix)(cs:Cs),(∀ x∈cs,0<=x.2/\x.2<p)->∀ x∈bH p rows msg fo ms cs,0<=x.2/\x.2<p
 | [],_,h=>h
 | m::ms,cs,h=>qO hp rows msg fo ms _ fun x hx=>by
  rcases yE.mp hx with z|z
  ·exact h x z
  ·rw[yL.mp z];exact uM hp rows msg fo cs m
theorem uL {p:Int}(hp:0<p)(rows:List aO)(fo:Option (List Int))(ms:List Mix)(many:Nat)(k:Int):InF p (dX p rows fo ms many k):=fun z hz=>by
 unfold dX at hz
 obtain⟨j,_,rfl⟩:=yw.mp hz
 cases hl:cC (bH p rows (Mx.onesRow many j) fo ms []) k with
 | none=>exact⟨Int.le_refl _,hp⟩
 | some n=>
  unfold cC at hl
  obtain⟨x,hx,e⟩:=yG.mp hl
  have:=qO hp rows (Mx.onesRow many j) fo ms [] (fun _ h=>(yJ h).elim) x (zk hx)
  rw[<- e]
  exact this
theorem vU {S:NS}{many p:Int}{rows rs:List aO}{ms:List (Int×Int)} (pm:ms.Perm (wants S many)) (nd:((wants S many).map (·.1)).Nodup) (nb:ms.find? (cF rows p)=none) (hrs:(rs.map fun r=>(r.1,r.2.2))=gy ms rows) (lz:∀ r∈rows,r.2.2.length<=1000):
  ∀ r∈aG S,∃ y,bb rs r.1=some y/\InF p y.2.2/\y.2.2.length<=1000:=fun r hr=>by
 have hm:(r.1,wide many r.2)∈ms:=pm.mem_iff.mpr (yD (f:=fun r:Mix=>(r.1,wide many r.2)) hr)
 have hb:=zc.mp nb _ hm
 unfold cF at hb
 cases hi:bb rows r.1 with
 | none=>rw[hi]at hb;exact absurd rfl hb
 | some r0=>
  rw[hi]at hb
  have hrow:dJ p r0.2.2 (wide many r.2)=true:=by
   cases h:dJ p r0.2.2 (wide many r.2) with
   | true=>rfl
   | false=>exact absurd (show (!dJ p r0.2.2 (wide many r.2))=true by rw[h];rfl) hb
  have hg:(r.1,r0.2.2)∈gy ms rows:=yw.mpr ⟨_,hm,by rw[hi];rfl⟩
  rw[<- hrs]at hg
  obtain⟨y,hy,e⟩:=yw.mp hg
  have e1:y.1=r.1:=congrArg Prod.fst e
  have e2:y.2.2=r0.2.2:=congrArg (fun z:Int×List Int=>z.2) e
  have ks:rs.map (·.1)=ms.map (·.1):=by
   have:=congrArg (List.map Prod.fst) hrs
   unfold gy at this
   rw[yq,yq]at this
   exact this
  have knd:(rs.map (·.1)).Nodup:=by rw[ks];exact (pm.map _).nodup_iff.mpr nd
  refine⟨y,by rw[<- e1];exact cS knd y hy,fun z hz=>?_,by rw[e2];exact lz r0 (c9 hi).1⟩
  rw[e2]at hz
  unfold dJ at hrow
  rw[z7,zJ]at hrow
  have:=hrow.2 z hz
  unfold dU at this
  rw[z7]at this
  exact⟨yr this.1,yr this.2⟩
theorem ve {kvs:List (Key×V)}(k:Key)(v:V):(cT kvs k v).length<=kvs.length+1:=by
 cases h:b7 kvs k with
 | none=>rw[dF v h];simp
 | some x=>
  unfold cT
  split
  ·simp
  ·simp
def y4 (p:Int)(m:Nat)(t:List (List Int))(H H':Hp)(b:Addr):Prop:=
 (∃ l,H' b=some (.tup [.str "reads",.ref l])/\¬ (Mx.leadPlaces (red p (Mx.joined t) m) m).length<m/\TbN H H' l (((red p (Mx.joined t) m).take m).map (List.drop m))) \/
 (∃ l0 v,H' b=some (.tup [.str "alike",.ref l0,v])/\(Mx.leadPlaces (red p (Mx.joined t) m) m).length<m/\H l0=none/\H' l0=some (.lst ((List.replicate m (0:Int)).map V.int))/\
  (bS p t m=[]/\v=.non\/∃ u rest l1,bS p t m=u::rest/\v=.ref l1/\H l1=none/\l1≠l0/\H' l1=some (.lst ((Mx.noughtRow p (red p t m) (kF p t m) m u).map V.int))))
section
variable {P : Program}{w : World}{K : PySem.W.Frag}{mg : Str -> Option Value}{base : Heap}{C aN aP : Addr}
theorem zer (n:Nat):(List.replicate n [V.int 0]).flatten=(List.replicate n (0:Int)).map V.int:=by
 induction n with
 | zero=>rfl
 | succ n ih=>rw[zO,AY,ih,zO];rfl
def fm (C:Addr):Sp:=fun vs H Q _=>∃ (f:Addr)(x:V)(p:Int)(m:Nat)(t:List (List Int)),vs=[.ref f,x,.int (m:Int)]/\FieldAt C H f p/\My.isP p=true/\p<=1000000/\Tb H x t/\Shd p m t/\m<=100/\
 ∀ b H',Same H H'->H b=none->y4 p m t H H' b->Q (.ref b) H'
abbrev g8:Stmt:=top 61
theorem sc_judgement:am ["field","table","many","read"] ["field","table","many"] (ag g8):=⟨rfl,rfl,rfl,by decide +kernel,rfl,by decide +kernel,by decide +kernel⟩
theorem oP {f:Addr}{fd:FuncData} (F:Fun K "judgement" "judgement" g8 f fd) (D_reader:Df P w K mg base 6 "reader" ["field","table","many"] (jp C)) (D_nought:Df P w K mg base 6 "nought" ["field","table","many"] (jq C)):FnOk P w K mg base CX0 7 f fd ["field","table","many"] (fm C):=by
 refine F.ok sc_judgement (fun vs H Q E h=>?_) (fun cdv A outer s H vs Q E hr h=>?_)
 ·obtain⟨f,x,p,m,t,rfl,_⟩:=h
  rfl
 ·obtain⟨f,x,p,m,t,rfl,hf,hP,hp1,hT,hS,hm,q⟩:=h
  have ND:=sc_judgement.nd
  refine⟨_,(aa (ax (i:=3) ND rfl (by trivial) (aq D_reader (hr.mono (by decide)) rfl (a8 (pv 0) (a8 (pv 1) (a8 (pv 2) ad)))))
 (aa (ba (aw iY (pv 3) bD (aD _))
  (ae (ar (bC (a8 d7 (a8 (pv 3) ad)))))
  aE)
 (ae (ar (bC (a8 d7 (a8 (aF op_rep (bg (a8 ai ad)) (pv 2)) (a8 (aq D_nought (hr.mono (by decide)) rfl (a8 (pv 0) (a8 (pv 1) (a8 (pv 2) ad)))) ad)))))))),?_⟩
  refine⟨_,rfl,_,rfl,_,rfl,f,x,p,m,t,rfl,hf,hP,hp1,hT,hS,hm,fun hlt H1 e1=>?_,fun hlt l H1 e1 hN=>?_⟩
  ·refine⟨_,rfl,rfl,_,rfl,bv ?_⟩
   refine⟨(by show 1<=sizeLine;decide),fun l1 H2 e2 h2 hl1=>⟨_,rfl,l1,_,_,rfl,rfl,hl1,by omega,by omega,?_,fun l0 hl0=>?_⟩⟩
   ·rw[zm]
    show 1 * m<=2 ^ 24
    omega
   have e13:Same H1 (upd H2 l0 (.lst (List.replicate ((m:Nat):Int).toNat [V.int 0]).flatten)):=az e2 hl0
   have h13:(upd H2 l0 (.lst (List.replicate ((m:Nat):Int).toNat [V.int 0]).flatten)) l0=some (.lst ((List.replicate m (0:Int)).map V.int)):=by rw[a9,zm,zer]
   have h0n:H l0=none:=(e1.trans e2).free hl0
   generalize upd H2 l0 (.lst (List.replicate ((m:Nat):Int).toNat [V.int 0]).flatten)=H3 at e13 h13
   have e03:=e1.trans e13
   refine⟨_,rfl,_,rfl,_,rfl,f,x,p,m,t,rfl,hf.mono e03,hP,hp1,hT.mono e03,hS,fun hu H4 e4=>?_,fun u rest hu l2 H4 e4 h4 hl2=>?_⟩
   ·refine⟨(by show 3<=sizeLine;decide),fun b H5 e5 h5 hb=>q b H5 ((e03.trans e4).trans e5) ((e03.trans e4).free h5) (.inr ⟨l0,.non,hb,hlt,h0n,e5 _ _ (e4 _ _ h13),.inl ⟨hu,rfl⟩⟩)⟩
   ·refine⟨(by show 3<=sizeLine;decide),fun b H5 e5 h5 hb=>q b H5 ((e03.trans e4).trans e5) ((e03.trans e4).free h5) (.inr ⟨l0,.ref l2,hb,hlt,h0n,e5 _ _ (e4 _ _ h13),.inr ⟨u,rest,l2,hu,rfl,e03.free h4,(ah h13 h4).symm,e5 _ _ hl2⟩⟩)⟩
  ·refine⟨_,rfl,rfl,_,rfl,bA ?_⟩
   refine⟨_,rfl,(by show 2<=sizeLine;decide),fun b H2 e2 h2 hb=>q b H2 (e1.trans e2) (e1.free h2) (.inl ⟨l,hb,hlt,?_⟩)⟩
   obtain⟨h0,xs,hx,hp⟩:=hN
   exact⟨h0,xs,e2 _ _ hx,Paired.mapP hp fun x r ⟨c,q1,q2,q3⟩=>⟨c,q1,q2,e2 _ _ q3⟩⟩
def gG (c:Cl)(C aN aP:Addr):Sp:=fun vs H Q E=>∃ (n d dp dt:Addr)(S:NS)(rows:List aO)(many:Nat)(p:Int)(x:V)(fo:Option (List Int)),vs=[.ref n,.ref d,.int (many:Int),.int p,x]/\kJ c H n d S rows many p/\NetAt c H n dp dt S/\wx (aG S)/\(aG S).length<64/\many<=100/\MixW H x fo/\(∀ ks,fo=some ks->ks.length<=1000)/\
 (∀ g∈S.lis,g∈S.names/\(∀ k∈S.into g,k∈(aG S).map (·.1))/\(S.into g).length<=100)/\
 (¬ (p<=1000000/\My.isP p=true)->∀ H',Same H H'->E (.ref aN) none H')/\
 (p<=1000000->My.isP p=true->∀ ms:List (Int×Int),ms.Perm (wants S many)->(ms.map (·.1)).Pairwise (·<=·)->
  (∀ m,ms.find? (cF rows p)=some m->∀ dx H',Same H H'->H' dx=some (.xd [("number",.int m.1)])->E (.ref aP) (some dx) H')/\
  (ms.find? (cF rows p)=none->∀ k∈fH ms rows,(∀ j∈fH ms rows,k<=j)->∀ dx H',Same H H'->H' dx=some (.xd [("number",.int k)])->E (.ref aP) (some dx) H')/\
  (ms.find? (cF rows p)=none->fH ms rows=[]->∀ e H',Same H H'->Q (.ref e) H'))
abbrev l8:Stmt:=top 62
theorem sc_judged:am ["net","plan","many","prime","fallen","looked_over","field","rows","told","listener","table"] ["net","plan","many","prime","fallen"] (ag l8):=⟨rfl,rfl,rfl,by decide +kernel,rfl,by decide +kernel,by decide +kernel⟩
theorem ng {c:Cl}{f:Addr}{fd:FuncData} (F:FunD K "judged" "judged" l8 f fd) (D_checked_plan:DfX P w K mg base 5 "checked_plan" ["net","plan","many","prime"] (ia c C aN aP)) (D_Field:DkX P w K mg base 2 "Field" C ["self","prime"] (iR C aN)) (D_carried:DfX P w K mg base 5 "carried" ["net","plan","many","prime","fallen"] (fu c))
  (D_Net_listeners:Dm P w K mg base 2 c.net "listeners" ["self"] (de c)) (D_Net_into:Dm P w K mg base 2 c.net "into" ["self","name"] (dP c NS.into)) (D_judgement:Df P w K mg base 7 "judgement" ["field","table","many"] (fm C)):FnOk P w K mg base (CXE P w) 8 f fd ["net","plan","many","prime","fallen"] (gG c C aN aP):=by
 refine FunD.okX F sc_judged (fun vs H Q E h=>?_) (fun cdv A outer s H vs Q E hr h=>?_)
 ·obtain⟨n,d,dp,dt,S,rows,many,p,x,fo,rfl,_⟩:=h
  rfl
 ·obtain⟨n,d,dp,dt,S,rows,many,p,x,fo,rfl,ask,N,fits,few,hm,fal,falz,lis,q1,q2⟩:=h
  have ND:=sc_judged.nd
  refine⟨_,(aa (ax (i:=5) ND rfl (by trivial) (qe dI D_checked_plan (hr.mono (by decide)) rfl (a8 (pv 0) (a8 (pv 1) (a8 (pv 2) (a8 (pv 3) ad))))))
 (aa (ax (i:=6) ND rfl (by trivial) (lD dI D_Field (hr.mono (by decide)) rfl (a8 (pv 3) ad)))
 (aa (ax (i:=7) ND rfl (by trivial) (qe dI D_carried (hr.mono (by decide)) rfl (a8 (pv 0) (a8 (pv 5) (a8 (pv 2) (a8 (pv 3) (a8 (pv 4) ad)))))))
 (aa (ax (i:=8) ND rfl (by trivial) gm)
 (aa (bN PassesOwn.leaving rfl (c6 K (bW (pv 0) D_Net_listeners (hr.mono (by decide)))) (aj (i:=9) ND rfl (by trivial))
  (aa (cb (i:=10) ND rfl rfl rfl (ak (nT:=1) (js:=[7]) (N':=["number","rows"]) rfl rfl (by kernel_rfl)) (c6 K (aZ (pv 0) D_Net_into (hr.mono (by decide)) (a8 (pv 9) ad)))
  (fun _ _ _ _ _=>(aj (i:=0) (show List.Nodup (["number","rows"]:List Str) by decide +kernel) rfl (by trivial)))
  (fun _ _ _ _ _=>aM)
  (fun _ _ _ _ _=>(bL (bc hr) (pv 1) (pv 0) (fun _ _=>rfl))))
 (ae (cO (bc hr) (pv 8) (pv 9) (aq D_judgement (hr.mono (by decide)) rfl (a8 (pv 6) (a8 (pv 10) (a8 (pv 2) ad)))) rfl))))
 (ae (ar (pv 8)))))))),?_⟩
  refine⟨_,rfl,_,rfl,_,rfl,_,rfl,n,d,S,rows,many,p,rfl,ask,fun hn H1 e1=>q1 hn H1 e1,fun hp hP ms pm pw=>?_⟩
  obtain⟨q3,q4,q5⟩:=q2 hp hP ms pm pw
  refine⟨fun m hm' dx H1 e1 hd=>q3 m hm' dx H1 e1 hd,fun nb k hk hk2 dx H1 e1 hd=>q4 nb k hk hk2 dx H1 e1 hd,fun nb no e H1 rs e1 he pl hrs hfr=>?_⟩
  have q6:=q5 nb no
  have p0:0<p:=by
   have:=((My.isP_iff p).mp hP).1
   omega
  refine⟨_,rfl,fun fx dx nx ndx nex=>⟨fx,dx,p,rfl,a9,fun _ _=>⟨rfl,?_⟩,fun hn=>absurd ⟨hp,hP⟩ hn⟩⟩
  have e12:=au (o:=.ins C dx [("prime",.int p)]) (au (o:=.ins C dx []) (az (o:=.own fx) (Same.refl H1) ndx) nx) nx
  have hfx:FieldAt C (upd (upd (upd H1 dx (.own fx)) fx (.ins C dx [])) fx (.ins C dx [("prime",.int p)])) fx p:=⟨dx,a9⟩
  generalize upd (upd (upd H1 dx (.own fx)) fx (.ins C dx [])) fx (.ins C dx [("prime",.int p)])=H2 at e12 hfx
  have e02:=e1.trans e12
  refine⟨_,rfl,_,rfl,_,rfl,_,rfl,_,rfl,n,dp,dt,S,e,x,p,rs,fo,many,rfl,⟨N.mono e02,ask.ac,ask.ends,by have:=ask.tz;omega,ask.pz,fits,few,hp,hP,pl.mono e12,vU pm ask.nd nb hrs ask.lz,fal.mono e02,falz⟩,by omega,fun re H3 rs2 e3 h3 pl2 pw2 pm2=>?_⟩
  have e03:=e02.trans e3
  have N3:=N.mono e03
  have rnd:(rs2.map (·.1)).Nodup:=by
   have:=(pm2.map (·.1)).nodup_iff
   rw[yq,yq]at this
   exact this.mpr fits.nd
  have row:∀ k∈(aG S).map (·.1),∃ r∈rs2,r.1=k/\r.2.2=dX p rs fo (aG S) many k:=fun k hk=>by
   obtain⟨m,hm',rfl⟩:=yw.mp hk
   obtain⟨r,hr',er⟩:=yw.mp (pm2.mem_iff.mpr (yD (f:=fun m:Mix=>(m.1,dX p rs fo (aG S) many m.1)) hm'))
   exact⟨r,hr',congrArg Prod.fst er,congrArg Prod.snd er⟩
  intro td htd
  have etd:Same H3 (upd H3 td (.dK [])):=az (Same.refl _) htd
  obtain⟨dxn,hn3⟩:=id N3.ins
  have hfx3:=hfx.mono e3
  refine⟨_,rfl,n,dxn,_,rfl,etd _ _ hn3,rfl,n,dp,dt,S,rfl,N3.mono etd,ask.pz,fun ll H4 e4 h4 hll=>?_⟩
  have htd4:=e4 _ _ (a9 (H:=H3) (a:=td) (o:=HO.dK []))
  have nll:ll≠td:=fun z=>by rw[z,a9]at h4;cases h4
  have k34:∀ {G:Hp},(∀ b o,b≠td->H4 b=some o->G b=some o)->Same H3 G:=fun {G} k b o hb=>k b o (ah hb htd) (e4 _ _ (etd _ _ hb))
  refine⟨ll,rfl,⟨_,SqL.of hll⟩,c8 (K:=K) (xs:=S.lis.map V.str) (fun i σ G=>(∃ o9 o10,σ=[some (.ref n),some (.ref d),some (.int (many:Int)),some (.int p),some x,some (.ref e),some (.ref fx),some (.ref re),some (.ref td),o9,o10])/\(∀ b o,b≠td->H4 b=some o->G b=some o)/\∃ kvs,G td=some (.dK kvs)/\kvs.length<=i)
   ⟨⟨none,none,rfl⟩,fun b o _ hb=>hb,[],htd4,yi _⟩ (fun i σ G _ h=>SqL.of (h.2.1 _ _ nll hll)) ?_ ?_⟩
  ·rintro i v σ G ev ⟨⟨o9,o10,rfl⟩,kG,kvs,hkv,hkl⟩
   obtain⟨g,eg,rfl⟩:=yG.mp (yf▸ev)
   have il:i<(S.lis.map V.str).length:=(yd.mp ev).1
   obtain⟨hgn,hin,hgl⟩:=lis g (yh eg)
   have eG:=k34 kG
   refine⟨_,rfl,n,dxn,_,rfl,eG _ _ hn3,rfl,_,rfl,n,dp,dt,S,g,rfl,N3.mono eG,hgn,by have:=ask.tz;omega,fun li G2 e2' h2' hli=>?_⟩
   have eG2:=eG.trans e2'
   have pl3:=pl2.mono eG2
   refine⟨li,rfl,⟨_,SqL.of hli⟩,fO (fun i=>match bb rs2 ((S.into g).getD i 0) with|some r=>.ref r.2.1|none=>.non) hli (by rw[y9];omega) (fun i y G3 ey e3'=>?_) (fun l G3 hl0 e3' hl=>?_)⟩
   ·obtain⟨k,ek,rfl⟩:=gv ey
    obtain⟨r,hr',rk,_⟩:=row k (hin k (yh ek))
    have hv:=cu rs2 k
    rw[<- rk,cS rnd r hr',Option.map_some,rk]at hv
    refine⟨_,rfl,_,rfl,re,_,rfl,hv▸DGet.k (k:=Sum.inl k) (e3' _ _ pl3.dict),?_,Same.refl _⟩
    rw[aH ek,<- rk,cS rnd r hr']
   have tb:Tb G3 (.ref l) ((S.into g).map fun k=>dX p rs fo (aG S) many k):=by
    refine⟨l,_,rfl,hl,dG (by simp) fun i v cs hv hc=>?_⟩
    rw[yf]at hc
    obtain⟨k,ek,rfl⟩:=yG.mp hc
    have il':i<(S.into g).length:=(yd.mp ek).1
    rw[yf,zi (by rw[y9];exact il')]at hv
    have hv:(match bb rs2 ((S.into g).getD i 0) with|some r=>V.ref r.2.1|none=>.non)=v:=Option.some.inj hv
    obtain⟨r,hr',rk,rc⟩:=row k (hin k (yh ek))
    rw[aH ek,<- rk,cS rnd r hr']at hv
    rw[<- rc]
    exact⟨_,hv.symm,e3' _ _ (pl3.row r hr')⟩
   have shd:Shd p many ((S.into g).map fun k=>dX p rs fo (aG S) many k):=⟨⟨fun r hr'=>by
     obtain⟨k,_,rfl⟩:=yw.mp hr'
     exact uK _ _ _ _ _ _,fun r hr'=>by
     obtain⟨k,_,rfl⟩:=yw.mp hr'
     exact uL p0 _ _ _ _ _⟩,by rw[y9];exact hgl,by omega⟩
   have eG3:=eG2.trans e3'
   refine⟨_,rfl,_,rfl,_,rfl,fx,.ref l,p,many,_,rfl,hfx3.mono eG3,hP,hp,tb,shd,hm,fun b G4 e4' h4' hj=>?_⟩
   have e24:=(e2'.trans e3').trans e4'
   refine⟨_,rfl,_,rfl,td,_,rfl,DPut.k (k:=Sum.inr g) (e24 _ _ hkv) ?_,⟨_,_,rfl⟩,fun b' o' hb' ho'=>by rw[af hb'];exact e24 _ _ (kG b' o' hb' ho'),_,a9,yM (ve _ _) (by omega)⟩
   have sl:S.lis.length<=1000:=by
    unfold NS.lis
    rw[y9]
    exact yM (z9 _ _) ask.pz
   rw[y9]at il
   show _<2 ^ 24
   omega
  ·rintro σ G ⟨⟨o9,o10,rfl⟩,kG,kvs,hkv,hkl⟩
   exact⟨_,rfl,q6 td G (e03.trans (k34 kG))⟩
end
end K52
namespace K52
open PySem L2
theorem lI {bs:List (Str×List Str)}(A:mQ bs):∀ k,k<=bs.length->∀ (i:Nat) x,(bP bs k)[i]?=some x->∃ b∈bs,b.1=x/\∀ y∈b.2,y∈(bP bs k).take i
 | 0,_,i,x,h=>by simp[bP]at h
 | k+1,hk,i,x,h=>by
  have hl:=(jF A k (by omega)).2
  unfold bP at h ⊢
  by_cases c:i<(bP bs k).length
  ·rw[yK c]at h
   obtain⟨b,hb,e,hy⟩:=lI A k (by omega) i x h
   exact⟨b,hb,e,fun y yy=>by rw[List.take_append_of_le_length (by omega)];exact hy y yy⟩
  ·rw[yF (by omega)]at h
   have ei:i=(bP bs k).length:=by
    by_cases c2:i - (bP bs k).length=0
    ·omega
    ·rw[yo (by simp;omega)]at h;cases h
   subst ei
   rw[Nat.sub_self]at h
   obtain⟨z,ez,_,_⟩:=fB A (ts:=bP bs k) (by omega)
   rw[ez]at h
   have h:z=x:=by simpa using h
   subst h
   unfold br at ez
   obtain⟨b,hf,hb⟩:=yG.mp ez
   refine⟨b,zk hf,hb,fun y hy=>?_⟩
   rw[List.take_append_of_le_length (yi _),zh]
   have hr:=zY hf
   unfold cB at hr
   simp only[z7,zJ,zU]at hr
   exact hr.2 y hy
theorem tq {α β:Type}(f:α->List β):∀ (ns:List α)(i:Nat)(m:β),(ns.flatMap f)[i]?=some m->∃ j x,ns[j]?=some x/\m∈f x/\∀ m'∈(ns.take j).flatMap f,m'∈(ns.flatMap f).take i
 | [],i,m,h=>by simp at h
 | a::ns,i,m,h=>by
  rw[Bs]at h ⊢
  by_cases c:i<(f a).length
  ·rw[yK c]at h
   exact⟨0,a,rfl,yh h,fun m' hm=>by simp at hm⟩
  ·rw[yF (by omega)]at h
   obtain⟨j,x,hj,hm,k⟩:=tq f ns _ m h
   refine⟨j+1,x,hj,hm,fun m' hm'=>?_⟩
   rw[List.take_append,zK (by omega)]
   rw[List.take_succ_cons,Bs]at hm'
   rcases yE.mp hm' with z|z
   ·exact z8 _ z
   ·exact yT _ (k m' z)
theorem cX {α:Type}{xs:List α} (nd:xs.Nodup) {i j:Nat}{x:α} (h1:xs[i]?=some x) (h2:xs[j]?=some x):i=j:=by
 obtain⟨hi,e1⟩:=yd.mp h1
 obtain⟨hj,e2⟩:=yd.mp h2
 exact (List.getElem_inj nd).mp (e1.trans e2.symm)
abbrev LT:=Int×Str×Str
def jf (R:List LT)(x:Str):List Int:=(R.filter fun r=>decide (r.2.2=x)).map (·.1)
structure LN (S : NS) (ord : List Str) (R : List LT) : Prop where
  names : S.names.Perm ord
  nd : ord.Nodup
  home : fQ S.home = .str "h"
  zero : ord[0]? = some ("h" : Str)
  ties : S.ties.map (fun t => (t.1, t.2.1, t.2.2.1)) = R
  ok : ∀ r ∈ R, ∃ u v : Nat, u < v /\ ord[u]? = some r.2.1 /\ ord[v]? = some r.2.2
  asc : (R.map (·.1)).Pairwise (· < ·)
  len : ord.length <= 20
  rlen : R.length <= 40
section
variable {S : NS}{ord : List Str}{R : List LT}
theorem LN.tie (h:LN S ord R){t:Tie}(ht:t∈S.ties):∃ u v:Nat,u<v/\ord[u]?=some t.2.1/\ord[v]?=some t.2.2.1:=h.ok (t.1,t.2.1,t.2.2.1) (h.ties▸yD (f:=fun t:Tie=>(t.1,t.2.1,t.2.2.1)) ht)
theorem LN.bnames (h:LN S ord R):(bE S).map (·.1)=S.names:=by
 unfold bE
 rw[yq]
 exact AD _
theorem LN.ends (h:LN S ord R):∀ t∈S.ties,t.2.2.1∈S.names:=fun t ht=>by
 obtain⟨_,_,_,_,z⟩:=h.tie ht
 exact h.names.mem_iff.mpr (yh z)
theorem LN.acyc (h:LN S ord R):mQ (bE S) where
 nd:=by rw[h.bnames];exact h.names.nodup_iff.mpr h.nd
 ends:=fun b hb y hy=>by
  rw[h.bnames]
  unfold bE at hb
  obtain⟨x,hx,rfl⟩:=yw.mp hb
  unfold cE at hy
  obtain⟨t,ht,rfl⟩:=yw.mp hy
  obtain⟨_,_,_,z,_⟩:=h.tie (zo.mp ht).1
  exact h.names.mem_iff.mpr (yh z)
 rk:=by
  refine⟨fun x=>ord.idxOf x,fun b hb y hy=>?_⟩
  unfold bE at hb
  obtain⟨x,hx,rfl⟩:=yw.mp hb
  unfold cE at hy
  obtain⟨t,ht,rfl⟩:=yw.mp hy
  obtain⟨ht,htx⟩:=zo.mp ht
  have htx:t.2.2.1=x:=yr htx
  obtain⟨u,v,uv,h1,h2⟩:=h.tie ht
  rw[htx]at h2
  have ix:∀ (i:Nat) z,ord[i]?=some z->ord.idxOf z=i:=fun i z hz=>by
   have hm:=yh hz
   have hl:=List.idxOf_lt_length_of_mem hm
   exact cX h.nd (by rw[yb hl,List.getElem_idxOf hl]) hz
  show ord.idxOf t.2.1<ord.idxOf x
  rw[ix _ _ h1,ix _ _ h2]
  exact uv
theorem LN.mixes (h:LN S ord R):(aG S).Perm (S.ties.map fun t=>(t.1,dS S t.2.1)):=by
 have bl:(bE S).length=S.names.length:=y9 _
 obtain⟨ond,olen⟩:=jF h.acyc S.names.length (by omega)
 have osub:∀ x∈bP (bE S) S.names.length,x∈S.names:=fun x hx=>by
  have:=oJ h.acyc S.names.length (by omega) x hx
  rw[h.bnames]at this
  exact this
 have ofull:=Mw.sub_full _ _ ond osub (by omega)
 have fin:∀ t∈S.ties,t.2.1∈bP (bE S) S.names.length:=fun t ht=>by
  obtain⟨_,_,_,h1,_⟩:=h.tie ht
  exact ofull _ (h.names.mem_iff.mpr (yh h1))
 have e1:aG S=((bP (bE S) S.names.length).flatMap fun x=>S.ties.filter fun t=>decide (t.2.1=x)).map fun t=>(t.1,dS S t.2.1):=by
  unfold aG K52.mixes NS.outOf
  rw[List.map_flatMap]
  congr 1
  funext x
  rw[yq]
  refine zn fun t ht=>?_
  have ht:t.2.1=x:=yr (zo.mp ht).2
  rw[ht]
  rfl
 rw[e1]
 exact (Mw.flat_perm (fun t:Tie=>t.2.1) _ S.ties ond fin).map _
theorem LN.keys (h:LN S ord R):((aG S).map (·.1)).Perm (R.map (·.1)):=by
 have:=h.mixes.map (·.1)
 rw[yq]at this
 rw[<- h.ties,yq]
 exact this
theorem LN.into (h:LN S ord R)(x:Str):S.into x=jf R x:=by
 unfold NS.into jf
 rw[<- h.ties,AL,yq]
 rfl
theorem LN.intoz (h:LN S ord R)(x:Str):(S.into x).length<=1000:=by
 rw[h.into]
 unfold jf
 rw[y9]
 have:=z9 (fun r:LT=>decide (r.2.2=x)) R
 have:=h.rlen
 omega
theorem LN.fits (h:LN S ord R):wx (aG S) where
 nd:=h.keys.nodup_iff.mpr (h.asc.imp fun z=>Int.ne_of_lt z)
 ahead:=fun i m ks hi hk=>by
  have bl:(bE S).length=S.names.length:=y9 _
  unfold aG K52.mixes at hi ⊢
  obtain⟨j,x,hj,hm,up⟩:=tq _ _ _ _ hi
  obtain⟨k0,_,rfl⟩:=yw.mp hm
  have hk:dS S x=some ks:=hk
  have ek:ks=S.into x:=by
   unfold dS at hk
   by_cases c:V.str x=fQ S.home
   ·rw[if_pos c]at hk;cases hk
   ·rw[if_neg c]at hk;exact (Option.some.inj hk).symm
  subst ek
  refine⟨h.intoz x,fun k hk=>?_⟩
  unfold NS.into at hk
  obtain⟨t,ht0,rfl⟩:=yw.mp hk
  obtain⟨ht1,htx⟩:=zo.mp ht0
  obtain⟨b,hb,e,hy⟩:=lI h.acyc S.names.length (by omega) j x hj
  unfold bE at hb
  obtain⟨x',_,rfl⟩:=yw.mp hb
  have e:x'=x:=e
  subst e
  have y:=hy t.2.1 (yD (f:=fun t:Tie=>t.2.1) (zo.mpr ⟨ht1,htx⟩))
  have:=up (t.1,dS S t.2.1) (List.mem_flatMap.mpr ⟨_,y,yw.mpr ⟨t.1,yD (f:=fun t:Tie=>t.1) (zo.mpr ⟨ht1,ye rfl⟩),rfl⟩⟩)
  exact yD (f:=fun m:Mix=>m.1) this
theorem LN.few (h:LN S ord R):(aG S).length<64:=by
 have:=h.keys.length_eq
 rw[y9,y9]at this
 have:=h.rlen
 omega
end
def TieT (H:Hp)(v:V)(r:LT):Prop:=∃ b,v=.ref b/\H b=some (.tup [.int r.1,.str r.2.1,.str r.2.2])
def TiesS (H:Hp)(l:Addr)(R:List LT):Prop:=∃ xs,H l=some (.lst xs)/\Paired (TieT H) xs R
theorem TieT.mono {H H':Hp}(e:Same H H'){v:V}{r:LT}:TieT H v r->TieT H' v r:=fun⟨b,a,h⟩=>⟨b,a,e _ _ h⟩
theorem TiesS.mono {H H':Hp}{l:Addr}{R:List LT} (e:Same H H') (h:TiesS H l R):TiesS H' l R:=by
 obtain⟨xs,h1,h2⟩:=h
 exact⟨xs,e _ _ h1,Paired.mapP h2 fun _ _ z=>z.mono e⟩
theorem vE {x:Str}(h:cL x=true):x.length<=8:=by
 unfold cL at h
 rw[z7,z7]at h
 exact yr h.1.2
theorem wc {X:Xc}{S:NS}{x:Str}{k:Kd} (h1:cL x=true) (h2:¬ x∈S.names) (h3:¬ (hrB k=false/\S.home.isSome=true)) (h4:ma S k=false):due X S x k=none:=by
 unfold due
 rw[if_neg (by rw[h1];exact fun z=>nomatch z),if_neg h2,if_neg h3,if_neg (by rw[h4];exact fun z=>nomatch z)]
theorem vK {ln:List Str}(nd:ln.Nodup){ts:List Tie}(h:∀ t∈ts,∃ u v:Nat,u<v/\ln[u]?=some t.2.1/\ln[v]?=some t.2.2.1){y x:Str}{v:Nat} (hy:ln[v]?=some y) (L:dc ts y x):∃ w,v<=w/\ln[w]?=some x:=by
 induction L with
 | refl=>exact⟨v,yi _,hy⟩
 | step ht _ ih=>
  obtain⟨w,hw,e⟩:=ih
  obtain⟨u',v',a,b,c⟩:=h _ ht
  have:=cX nd e b
  subst this
  exact⟨v',by omega,c⟩
theorem su {S:NS}{hd y:Str} (h:∀ p∈S.posts,hrB p.2=false->p.1=hd) (ne:y≠hd):hrB (S.kind y)=true:=by
 unfold NS.kind
 cases hf:S.posts.find? (fun p=>decide (p.1=y)) with
 | none=>rfl
 | some p=>
  have m1:=zk hf
  have m2:p.1=y:=by simpa using zY hf
  show hrB p.2=true
  cases hb:hrB p.2 with
  | true=>rfl
  | false=>exact absurd (m2.symm.trans (h p m1 hb)) ne
structure PB (nms : List Str) (i : Nat) (ps : List (Str × Kd)) : Prop where
  names : ps.map (·.1) = nms.take i
  kinds : ∀ p ∈ ps, hrB p.2 = false ↔ p.1 = ("h" : Str)
structure Nms (nms : List Str) : Prop where
  nd : nms.Nodup
  ok : ∀ x ∈ nms, cL x = true
  len : nms.length <= 20
  non : ¬ ("none" : Str) ∈ nms
theorem PB.start (nms:List Str):PB nms 0 []:=⟨by rw[Ai];rfl,fun p h=>(yJ h).elim⟩
theorem PB.len {nms:List Str}{i:Nat}{ps:List (Str×Kd)} (h:PB nms i ps) (hi:i<=nms.length):ps.length=i:=by
 have:=congrArg List.length h.names
 rw[y9,yO]at this
 omega
theorem PB.due {X:Xc}{nms:List Str} (N:Nms nms) {i:Nat}{ps:List (Str×Kd)} (h:PB nms i ps) {x:Str} (hx:nms[i]?=some x) {k:Kd} (hk:hrB k=false ↔ x=("h":Str)) (hl:rdB k=true->(NS.lis ⟨ps,[],0⟩).length<8):due X ⟨ps,[],0⟩ x k=none/\PB nms (i+1) (ps++[(x,k)])/\x.length<=1000:=by
 have hi:=(yd.mp hx).1
 have pl:=h.len (by omega)
 have xn:=N.ok x (yh hx)
 have nl:=N.len
 have fresh:¬ x∈nms.take i:=fun z=>by
  obtain⟨j,hj,ej⟩:=zD.mp z
  have:=cX N.nd (i:=j) (j:=i) (x:=x) (by rw[yb (by omega),ej]) hx
  omega
 refine⟨wc xn ?_ (fun⟨z1,z2⟩=>?_) ?_,⟨?_,fun p hp=>?_⟩,yM (vE xn) (by decide)⟩
 ·show ¬ x∈ps.map (·.1)
  rw[h.names]
  exact fresh
 ·have hxh:=hk.mp z1
  obtain⟨q,hq⟩:=Bv.mp z2
  unfold NS.home at hq
  have m1:q∈ps:=zk hq
  have m2:hrB q.2=false:=by simpa using zY hq
  have m3:=(h.kinds q m1).mp m2
  exact fresh (by rw[<- h.names,hxh,<- m3];exact yD m1)
 ·unfold ma
  show (decide (20<=ps.length) || (rdB k&&decide (8<=(NS.lis ⟨ps,[],0⟩).length)))=false
  rw[yj (by omega)]
  cases hr:rdB k with
  | false=>rfl
  | true=>
   rw[yj (by have:=hl hr;omega)]
   rfl
 ·rw[yI,h.names,za,hx]
  rfl
 ·rcases yE.mp hp with z|z
  ·exact h.kinds p z
  ·rw[yL.mp z];exact hk
structure LX (S : NS) (ord : List Str) (R : List LT) : Prop where
  ln : LN S ord R
  nxt : ∀ r ∈ R, r.1 < S.next
  hou : ∀ p ∈ S.posts, hrB p.2 = false -> p.1 = ("h" : Str)
  lih : ∀ p ∈ S.posts, p.1 = ("h" : Str) -> hrB p.2 = false
  non : ¬ ("none" : Str) ∈ ord
theorem LX.first {nms ord:List Str}{ps:List (Str×Kd)} (N:Nms nms) (h:PB nms nms.length ps) (pm:nms.Perm ord) (h0:ord[0]?=some ("h":Str)):LX ⟨ps,[],0⟩ ord [] where
 ln:=by
  have nm:NS.names ⟨ps,[],0⟩=nms:=by
   show ps.map (·.1)=_
   rw[h.names,zh]
  refine⟨by rw[nm];exact pm,pm.nodup_iff.mp N.nd,?_,h0,rfl,fun r hr=>(yJ hr).elim,List.Pairwise.nil,by rw[<- pm.length_eq];exact N.len,by simp⟩
  have hm:("h":Str)∈ps.map (·.1):=by
   rw[h.names,zh]
   exact pm.mem_iff.mpr (yh h0)
  obtain⟨p,hp,e⟩:=yw.mp hm
  have hb:=(h.kinds p hp).mpr e
  show fQ (ps.find? fun p=>!hrB p.2)=_
  cases hf:ps.find? (fun p=>!hrB p.2) with
  | none=>exact absurd (show (!hrB p.2)=true by rw[hb];rfl) (zc.mp hf p hp)
  | some q=>
   have m1:q∈ps:=zk hf
   have m2:hrB q.2=false:=by simpa using zY hf
   show V.str q.1=_
   rw[(h.kinds q m1).mp m2]
 nxt:=fun r hr=>(yJ hr).elim
 hou:=fun p hp hb=>(h.kinds p hp).mp hb
 lih:=fun p hp hb=>(h.kinds p hp).mpr hb
 non:=fun z=>N.non (pm.mem_iff.mpr z)
theorem LX.step {S:NS}{ord:List Str}{R:List LT} (h:LX S ord R) (hR:R.length<40) {a b:Nat}{x y:Str}{d:Int} (hab:a<b) (hx:ord[a]?=some x) (hy:ord[b]?=some y):LX (S.tie x y d) ord (R++[(S.next,x,y)]) where
 ln:=by
  refine⟨h.ln.names,h.ln.nd,h.ln.home,h.ln.zero,?_,fun r hr=>?_,?_,h.ln.len,by rw[yu,zF];omega⟩
  ·show (S.ties++[(S.next,x,y,d)]).map _=_
   rw[yI,h.ln.ties]
   rfl
  ·rcases yE.mp hr with z|z
   ·exact h.ln.ok r z
   ·rw[yL.mp z]
    exact⟨a,b,hab,hx,hy⟩
  ·rw[yI,List.pairwise_append]
   refine⟨h.ln.asc,by simp,fun u hu v hv=>?_⟩
   obtain⟨r,hr,rfl⟩:=yw.mp hu
   have:v=S.next:=by simpa using hv
   rw[this]
   exact h.nxt r hr
 nxt:=fun r hr=>by
  show r.1<S.next+1
  rcases yE.mp hr with z|z
  ·have:=h.nxt r z;omega
  ·rw[yL.mp z]
   show S.next<S.next+1
   omega
 hou:=h.hou
 lih:=h.lih
 non:=h.non
theorem LX.free {S:NS}{ord:List Str}{R:List LT} (h:LX S ord R) {a b:Nat}{x y:Str} (hab:a<b) (hx:ord[a]?=some x) (hy:ord[b]?=some y):x∈S.names/\y∈S.names/\hrB (S.kind y)=true/\¬ dc S.ties y x/\S.ties.length=R.length/\∀ t∈S.ties,t.1<S.next:=by
 refine⟨h.ln.names.mem_iff.mpr (yh hx),h.ln.names.mem_iff.mpr (yh hy),su h.hou fun z=>?_,fun L=>?_,?_,fun t ht=>?_⟩
 ·rw[z]at hy
  have:=cX h.ln.nd hy h.ln.zero
  omega
 ·obtain⟨w',hw,ew⟩:=vK h.ln.nd (fun t ht=>h.ln.tie ht) hy L
  have:=cX h.ln.nd ew hx
  omega
 ·rw[<- h.ln.ties,y9]
 ·exact h.nxt (t.1,t.2.1,t.2.2.1) (h.ln.ties▸yD (f:=fun t:Tie=>(t.1,t.2.1,t.2.2.1)) ht)
theorem NetAt.updL {c:Cl}{H:Hp}{n dp dt l:Addr}{S:NS}{xs:List V}{o:HO} (N:NetAt c H n dp dt S) (hl:H l=some (.lst xs)):NetAt c (upd H l o) n dp dt S:=by
 have k:∀ b u,H b=some u->(∀ ys,u≠.lst ys)->upd H l o b=some u:=fun b u hb hu=>by
  rw[af (fun z=>by rw[z,hl]at hb;cases hb;exact hu _ rfl)];exact hb
 obtain⟨⟨dx,h1⟩,⟨kp,h2,q2⟩,⟨kt,h3,q3⟩,h4⟩:=N
 exact⟨⟨dx,k _ _ h1 (fun _ z=>nomatch z)⟩,⟨kp,k _ _ h2 (fun _ z=>nomatch z),Paired.mapP q2 fun kv p ⟨e,a,dy,ev,ha⟩=>⟨e,a,dy,ev,k _ _ ha (fun _ z=>nomatch z)⟩⟩,⟨kt,k _ _ h3 (fun _ z=>nomatch z),Paired.mapP q3 fun kv p ⟨e,a,ev,ha⟩=>⟨e,a,ev,k _ _ ha (fun _ z=>nomatch z)⟩⟩,h4⟩
theorem TiesS.but {c:Cl}{H H':Hp}{n dp dt l:Addr}{S:NS}{R:List LT} (N:NetAt c H n dp dt S) (b:But2 n dt H H') (h:TiesS H l R):TiesS H' l R:=by
 obtain⟨xs,h1,h2⟩:=h
 obtain⟨dx,hn⟩:=N.ins
 obtain⟨kt,hd,_⟩:=N.ties
 exact⟨xs,b _ _ (bn h1 hn (fun z=>nomatch z)) (bn h1 hd (fun z=>nomatch z)) h1,Paired.mapP h2 fun v r ⟨t,e,ht⟩=>⟨t,e,b _ _ (bn ht hn (fun z=>nomatch z)) (bn ht hd (fun z=>nomatch z)) ht⟩⟩
theorem TiesS.snoc {H:Hp}{l T:Addr}{R:List LT}{xs:List V}{r:LT} (hl:H l=some (.lst xs)) (hp:Paired (TieT H) xs R) (hT:H T=some (.tup [.int r.1,.str r.2.1,.str r.2.2])):TiesS (upd H l (.lst (xs++[.ref T]))) l (R++[r]):=by
 refine⟨_,a9,Paired.snoc' (Paired.mapP hp fun v r ⟨b,e,hb⟩=>⟨b,e,?_⟩) ⟨T,rfl,?_⟩⟩
 ·rw[af (bn hb hl (fun z=>nomatch z))];exact hb
 ·rw[af (bn hT hl (fun z=>nomatch z))];exact hT
end K52
namespace K52
open PySem L2
open PyProof.Rows (boot_list boot_int boot_bool boot_tuple boot_str boot_dict boot_all boot_sorted)
theorem dj {α:Type}{xs:List α}{j:Nat}{x:α} (h:xs[j]?=some x):atI xs (j:Int)=some x:=by
 have hj:=(yd.mp h).1
 unfold atI ixN
 rw[if_pos (Int.natCast_nonneg j),if_pos (by simpa using hj)]
 simpa using h
theorem gB {α:Type}{xs:List α}{i:Int} (h0:0<=i) (h:i<xs.length):∃ v,xs[i.toNat]?=some v/\atI xs i=some v:=by
 have hj:i.toNat<xs.length:=by omega
 refine⟨xs[i.toNat],yb hj,?_⟩
 have:=dj (xs:=xs) (j:=i.toNat) (yb hj)
 rwa [Int.toNat_of_nonneg h0]at this
structure sN (mg : Str -> Option Value) : Prop where
  n_len : mg "len" = none
  n_range : mg "range" = none
  n_list : mg "list" = none
  n_sorted : mg "sorted" = none
  n_enumerate : mg "enumerate" = none
  n_isinstance : mg "isinstance" = none
  n_int : mg "int" = none
  n_bool : mg "bool" = none
  n_tuple : mg "tuple" = none
  n_all : mg "all" = none
  n_any : mg "any" = none
  n_set : mg "set" = none
  n_min : mg "min" = none
  n_max : mg "max" = none
theorem wf (c b:Int)(hb:0<b)(i:Nat):c / b ^ i / b=c / b ^ (i+1):=by
 have hp:0<b ^ i:=Int.pow_pos hb
 rw[Int.pow_succ,Int.ediv_ediv]
 have:¬ (b ^ i<0/\¬ b ∣ c / b ^ i):=fun z=>by omega
 simp only[this,As,Int.sub_zero]
def jH (c:Int):Int:=if c / 2 % 2=0 then 1000 else 1000000000
theorem vF (c:Int):0<jH c/\jH c<1073741824:=by
 unfold jH
 split <;> decide
def mix1 (c k:Int):Int:=(c+7919 * k+1) % 2147483647 * 48271 % 2147483647
def mix2 (x:Int):Int:=x * (x / 1009+69621) % 2147483647
def mix3 (x:Int):Int:=x * (x / 127+30011) % 2147483647
theorem t3 (x:Int):-(2 ^ 64)<x % 2147483647/\x % 2147483647<2 ^ 64:=by
 have b1:=zd x (show (2147483647:Int)≠0 by decide)
 have b2:=yW x (show (0:Int)<2147483647 by decide)
 omega
def cc (c k:Int):Int:=if c % 2=0/\0<c / 4 / jH c ^ k.toNat then c / 4 / jH c ^ k.toNat % jH c else mix3 (mix2 (mix1 c k))
section
variable {P : Program}{w : World}{K : PySem.W.Frag}{mg : Str -> Option Value}{base : Heap}
abbrev iA:Stmt:=top 64
theorem pT:am ["_law_script","_law_k"] ["_law_script","_law_k"] (ag iA):=⟨rfl,rfl,rfl,by decide +kernel,rfl,by decide +kernel,by decide +kernel⟩
def g7 (K:PySem.W.Frag):Sp:=fun vs H Q _=>∃ (a:Addr)(k:Int)(ns:List Int),vs=[.ref a,.int k]/\0<=k/\SqL K H a (ns.map V.int)/\∀ c:Int,Q (.int c) H
theorem qw {f:Addr}{fd:FuncData} (F:Fun K "_law_cell_at" "_law_cell_at" iA f fd) (T:sN mg):FnOk P w K mg base CX0 1 f fd ["_law_script","_law_k"] (g7 K):=by
 refine F.ok pT (fun vs H Q E h=>?_) (fun cdv A outer s H vs Q E hr h=>?_)
 ·obtain⟨a,k,ns,rfl,_⟩:=h
  rfl
 ·obtain⟨a,k,ns,rfl,hk,hS,q⟩:=h
  refine⟨_,(aa (ba (aw n5 (pv 1) (aA (gU K) rfl T.n_len boot_len (a8 (pv 0) ad)) (aD _))
  (ae (ar (bK (eZ K) (pv 0) (pv 1) (fun _ _=>rfl))))
  aE)
 (ae (ar ai))),?_⟩
  refine⟨_,rfl,_,rfl,a,_,rfl,.inl hS,_,_,rfl,rfl,_,rfl,?_⟩
  refine bB (fun hc=>?_) (fun hc=>?_)
  ·have hc:=yr hc
   obtain⟨v,ev,e⟩:=gB hk hc
   rw[yf]at ev
   cases hn:ns[k.toNat]? with
   | none=>rw[hn]at ev;cases ev
   | some z=>
    rw[hn]at ev
    have:v=.int z:=by simpa using ev.symm
    subst this
    exact⟨_,rfl,_,rfl,a,_,k,_,rfl,rfl,hS,e,q z⟩
  ·exact q 0
abbrev rK:Stmt:=top 65
theorem sc_Lmix:am ["_law_cell","_law_k","_law_base","_law_left","_law_step","_law_number"] ["_law_cell","_law_k"] (ag rK):=⟨rfl,rfl,rfl,by decide +kernel,rfl,by decide +kernel,by decide +kernel⟩
def kD:Sp:=fun vs H Q _=>∃ (c k:Int),vs=[.int c,.int k]/\0<=k/\k<1000/\∀ H',Same H H'->Q (.int (cc c k)) H'
theorem xt {f:Addr}{fd:FuncData} (F:Fun K "_law_mix" "_law_mix" rK f fd) (T:sN mg):FnOk P w K mg base CX0 1 f fd ["_law_cell","_law_k"] kD:=by
 refine F.ok sc_Lmix (fun vs H Q E h=>?_) (fun cdv A outer s H vs Q E hr h=>?_)
 ·obtain⟨c,k,rfl,_⟩:=h
  rfl
 ·obtain⟨c,k,rfl,hk,hk2,q⟩:=h
  have ND:=sc_Lmix.nd
  refine⟨_,(aa (eE (aw ci (aF be (pv 0) ai) ai (aD _))
  (aa (ax (i:=2) ND rfl (by trivial) (bK (eZ K) (bg (a8 ai (a8 (aF vw ai ai) ad))) (aF be (aF bZ (pv 0) ai) ai) (fun _ _=>rfl)))
 (aa (ax (i:=3) ND rfl (by trivial) (aF bZ (pv 0) ai))
 (aa (bN yV rfl (cg rfl T.n_range (a8 (pv 1) ad)) (aj (i:=4) ND rfl (by trivial))
  (ae (ax (i:=3) ND rfl (by trivial) (aF bZ (pv 3) (pv 2)))))
 (ae (ba (aw sZ (pv 3) ai (aD _))
  (ae (ar (aF be (pv 3) (pv 2))))
  aE)))))
  aE)
 (aa (ax (i:=5) ND rfl (by trivial) (aF be (aF gq (aF be (aF dH (aF dH (pv 0) (aF gq ai (pv 1))) ai) ai) ai) ai))
 (aa (ax (i:=5) ND rfl (by trivial) (aF be (aF gq (pv 5) (aF dH (aF bZ (pv 5) ai) ai)) ai))
 (ae (ar (aF be (aF gq (pv 5) (aF dH (aF bZ (pv 5) ai) ai)) ai)))))),?_⟩
  obtain⟨bp,bq⟩:=vF c
  refine⟨fun σ' H'=>(∃ o2 o3 o4,σ'=[some (.int c),some (.int k),o2,o3,o4,none])/\Same H H'/\¬ (c % 2=0/\0<c / 4 / jH c ^ k.toNat),?_,?_⟩
  ·rintro σ' H' ⟨⟨o2,o3,o4,rfl⟩,e',hn⟩
   refine⟨_,rfl,_,rfl,_,_,rfl,rfl,.inl ⟨by decide,by decide⟩,_,_,rfl,rfl,_,_,rfl,rfl,_,_,rfl,rfl,(by show (0:Int)<2147483647;decide),_,_,rfl,rfl,.inr ⟨by decide,by decide⟩,_,_,rfl,rfl,(by show (0:Int)<2147483647;decide),?_⟩
   refine⟨_,rfl,_,rfl,_,_,rfl,rfl,⟨by decide,by decide⟩,_,_,rfl,rfl,_,_,rfl,rfl,.inl (t3 _),_,_,rfl,rfl,(by show (0:Int)<2147483647;decide),?_⟩
   refine⟨_,rfl,_,rfl,_,_,rfl,rfl,⟨by decide,by decide⟩,_,_,rfl,rfl,_,_,rfl,rfl,.inl (t3 _),_,_,rfl,rfl,(by show (0:Int)<2147483647;decide),?_⟩
   have:=q H' e'
   unfold cc at this
   rw[if_neg hn]at this
   exact this
  ·refine⟨_,rfl,_,_,rfl,rfl,(by show (0:Int)<2;decide),rfl,_,rfl,bB (fun g=>?_) (fun g=>?_)⟩
   ·have g:c % 2=0:=by
     have:=yr g
     injection this
    refine⟨_,_,rfl,rfl,⟨by decide,by decide⟩,(by show 2<=sizeLine;decide),fun l H1 e1 h1 hl=>?_⟩
    have c3:0<=c / 2 % 2:=zd _ (by decide)
    have c4:c / 2 % 2<2:=yW _ (by decide)
    have hb:atI [V.int 1000,V.int ((10:Int) ^ (9:Int).toNat)] (c / 2 % 2)=some (.int (jH c)):=by
     by_cases h:c / 2 % 2=0
     ·rw[h]
      unfold jH
      rw[if_pos h]
      rfl
     ·have h1:c / 2 % 2=1:=by omega
      rw[h1]
      unfold jH
      rw[if_neg h]
      rfl
    refine⟨_,rfl,_,_,rfl,rfl,⟨by decide,by decide⟩,_,_,rfl,rfl,(by show (0:Int)<2;decide),l,_,_,_,rfl,rfl,SqL.of hl,hb,?_⟩
    refine⟨_,rfl,_,_,rfl,rfl,⟨by decide,by decide⟩,?_⟩
    refine⟨_,rfl,_,rfl,by omega,by omega,fc (lo:=0) (n:=k.toNat) (fun i σ H'=>(∃ o4,σ=[some (.int c),some (.int k),some (.int (jH c)),some (.int (c / 4 / jH c ^ i)),o4,none])/\H'=H1) ⟨⟨none,by rw[Int.pow_zero,Int.ediv_one];rfl⟩,rfl⟩ ?_ ?_⟩
    ·rintro i σ H' hi ⟨⟨o4,rfl⟩,rfl⟩
     refine⟨_,rfl,_,rfl,_,_,rfl,rfl,⟨bp,bq⟩,⟨some (.int (0+(i:Int))),?_⟩,rfl⟩
     rw[<- wf (c / 4) (jH c) bp i]
     rfl
    ·rintro σ H' ⟨⟨o4,rfl⟩,rfl⟩
     refine⟨_,rfl,_,_,rfl,rfl,_,rfl,bB (fun g2=>?_) (fun g2=>?_)⟩
     ·have g2:=yr g2
      refine⟨_,rfl,_,rfl,_,_,rfl,rfl,bp,?_⟩
      have:=q H' e1
      unfold cc at this
      rw[if_pos ⟨g,g2⟩]at this
      exact this
     ·exact⟨⟨_,_,_,rfl⟩,e1,fun z=>g2 (ye z.2)⟩
   ·exact⟨⟨_,_,_,rfl⟩,Same.refl _,fun z=>g (ye (show V.int (c % 2)=V.int 0 by rw[z.1]))⟩
end
end K52
namespace L2
open PySem
theorem vS {A:Around}{k:Nat} (hr:Room k A):A.units+(0+1+1)<cLine:=by
 have:=hr.un
 omega
end L2
namespace K52
open PySem L2
open PyProof.Rows (boot_list boot_int boot_bool boot_tuple boot_str boot_dict boot_all boot_sorted boot_max)
def NT:List Str:=["h","one","two","three","ear","eye"]
theorem nt_nms:Nms NT:=⟨by decide +kernel,by decide +kernel,by decide,by decide +kernel⟩
theorem nM:∀ {R:List LT},(R.map (·.1)).Nodup->∀ {i:Nat}{r:LT},R[i]?=some r->R.eraseIdx i=R.filter fun x=>decide (x.1≠r.1)
 | [],_,_,_,h=>by simp at h
 | x::R,nd,0,r,h=>by
  rw[yN,zt]at nd
  have:x=r:=by simpa using h
  subst this
  rw[List.eraseIdx_cons_zero,zS,if_neg (by simp)]
  exact (List.filter_eq_self.mpr fun y hy=>ye fun z:y.1=x.1=>nd.1 (z▸yD hy)).symm
 | x::R,nd,i+1,r,h=>by
  rw[yN,zt]at nd
  have h:R[i]?=some r:=by simpa using h
  have ne:x.1≠r.1:=fun z=>nd.1 (z▸yD (yh h))
  rw[List.eraseIdx_cons_succ,zS,if_pos (ye ne),nM nd.2 h]
theorem iW {α β:Type}{F:α->β->Prop}:∀ {xs:List α}{ys:List β},Paired F xs ys->∀ i,Paired F (xs.eraseIdx i) (ys.eraseIdx i)
 | _,_,.nil,_=>.nil
 | _,_,.cons _ r,0=>r
 | _,_,.cons h r,i+1=>.cons h (iW r i)
theorem LX.cut {S:NS}{ord:List Str}{R:List LT} (h:LX S ord R) (k:Int):LX (S.cut k) ord (R.filter fun r=>decide (r.1≠k)) where
 ln:=by
  refine⟨h.ln.names,h.ln.nd,h.ln.home,h.ln.zero,?_,fun r hr=>h.ln.ok r (zo.mp hr).1,?_,h.ln.len,yM (z9 _ _) h.ln.rlen⟩
  ·show (S.ties.filter fun t=>decide (t.1≠k)).map _=_
   rw[<- h.ln.ties,AL]
   rfl
  ·exact List.Pairwise.sublist (List.Sublist.map _ List.filter_sublist) h.ln.asc
 nxt:=fun r hr=>h.nxt r (zo.mp hr).1
 hou:=h.hou
 lih:=h.lih
 non:=h.non
theorem xy (ps:List (Str×Kd)):(NS.lis ⟨ps,[],0⟩).length<=ps.length:=by
 unfold NS.lis
 rw[y9]
 exact z9 _ _
section
variable {P : Program}{w : World}{K : PySem.W.Frag}{mg : Str -> Option Value}{base : Heap}
theorem tie_is {H:Hp}{v:V}{r:LT} (h:TieT H v r):xF K isA H v [Sum.inl r.1,Sum.inr r.2.1,Sum.inr r.2.2]:=by
 obtain⟨b,e,hb⟩:=h
 exact⟨b,_,e,SqT.of hb,.cons (show V.int r.1=kV (Sum.inl r.1) from rfl) (.cons (show V.str r.2.1=kV (Sum.inr r.2.1) from rfl) (.cons (show V.str r.2.2=kV (Sum.inr r.2.2) from rfl) .nil))⟩
def om (c:Cl):Sp:=fun vs H Q _=>∃ (a:Addr)(cs:List Int),vs=[.ref a]/\H a=some (.lst (cs.map V.int))/\cs.length<=8/\
 ∀ t n lt dp dt H' S R,Same H H'->H t=none->H' t=some (.tup [.ref n,.ref lt])->NetAt c H' n dp dt S->TiesS H' lt R->LX S NT R->R.length<=8->(∀ r∈R,0<=r.1/\r.1<8)->Q (.ref t) H'
abbrev rJ:Stmt:=top 66
theorem sc_Lnet:am ["_law_cells","_law_names","_law_net_here","_law_name","_law_ties","_law_cell","_law_one","_law_other","_law_low","_law_high","_law_gone"] ["_law_cells"] (ag rJ):=⟨rfl,rfl,rfl,by decide +kernel,rfl,by decide +kernel,by decide +kernel⟩
theorem xr {c:Cl}{X:Xc}{Y:Xt}{f:Addr}{fd:FuncData} (F:Fun K "_law_net" "_law_net" rJ f fd) (T:sN mg) (D_Net:Dk P w K mg base 1 "Net" c.net ["self"] (kP c)) (D_Lmix:Df P w K mg base 1 "_law_mix" ["_law_cell","_law_k"] kD)
  (D_Net_house:DmX P w K mg base 4 c.net "house" ["self","name"] (fk c X .house)) (D_Net_listener:DmX P w K mg base 4 c.net "listener" ["self","name"] (fk c X .listener)) (D_Net_post:DmX P w K mg base 4 c.net "post" ["self","name"] (fk c X .post))
  (D_Net_tied:y8 P w K mg base 3 c.net "tie" ["self","one","other","delay"] [.int 1] (o0 c Y)) (D_Net_cut_tie:Dm P w K mg base 2 c.net "cut_tie" ["self","number"] (i0 c)):FnOk P w K mg base CX0 5 f fd ["_law_cells"] (om c):=by
 refine F.ok sc_Lnet (fun vs H Q E h=>?_) (fun cdv A outer s H vs Q E hr h=>?_)
 ·obtain⟨a,cs,rfl,_⟩:=h
  rfl
 ·obtain⟨a,cs,rfl,ha,hcs,q⟩:=h
  have ND:=sc_Lnet.nd
  refine⟨_,(aa (ax (i:=1) ND rfl (by trivial) (bg (a8 d7 (a8 d7 (a8 d7 (a8 d7 (a8 d7 (a8 d7 ad))))))))
 (aa (ax (i:=2) ND rfl (by trivial) (ub D_Net (hr.mono (by decide)) rfl))
 (aa (aU (bO n9 (pv 2) D_Net_house (hr.mono (by decide)) (a8 d7 ad)))
 (aa (bN yV rfl (c6 K (cU (pK K) (pv 1) (cP ai) (cP ai))) (aj (i:=3) ND rfl (by trivial))
  (ae (aU (bO n9 (pv 2) D_Net_post (hr.mono (by decide)) (a8 (pv 3) ad)))))
 (aa (aU (bO n9 (pv 2) D_Net_listener (hr.mono (by decide)) (a8 d7 ad)))
 (aa (aU (bO n9 (pv 2) D_Net_listener (hr.mono (by decide)) (a8 d7 ad)))
 (aa (ax (i:=4) ND rfl (by trivial) (bg ad))
 (aa (bN yV rfl (c6 K (pv 0)) (aj (i:=5) ND rfl (by trivial))
  (aa (ax (i:=6) ND rfl (by trivial) (aF be (aq D_Lmix (hr.mono (by decide)) rfl (a8 (pv 5) (a8 ai ad))) ai))
 (aa (ax (i:=7) ND rfl (by trivial) (aF be (aq D_Lmix (hr.mono (by decide)) rfl (a8 (pv 5) (a8 ai ad))) ai))
 (aa (eE (aw n0 (pv 6) (pv 7) (aD _))
  (aa (ax (i:=8) ND rfl (by trivial) (bK (eZ K) (pv 1) (aA (uP rfl) rfl T.n_min my (a8 (pv 6) (a8 (pv 7) ad))) (fun _ _=>rfl)))
 (aa (ax (i:=9) ND rfl (by trivial) (bK (eZ K) (pv 1) (aA (uQ rfl) rfl T.n_max boot_max (a8 (pv 6) (a8 (pv 7) ad))) (fun _ _=>rfl)))
 (ae (aU (bmK K zA Ae Ad dm (pv 4) (a8 (bC (a8 (ua n9 (pv 2) D_Net_tied (hr.mono (by decide)) (a8 (pv 8) (a8 (pv 9) ad))) (a8 (pv 8) (a8 (pv 9) ad)))) ad))))))
  aE)
 (ae (eE (PW.pt (iC (aw ci (aF be (aq D_Lmix (hr.mono (by decide)) rfl (a8 (pv 5) (a8 ai ad))) ai) ai (aD _)) (fC (aw (neLK K (xU xV) (vS hr)) (pv 4) (bg ad) (aD _)))))
  (aa (ax (i:=10) ND rfl (by trivial) (bmK K zA PySem.F.slot_list_pop PySem.F.type_list_pop qA (pv 4) (a8 (aF be (aq D_Lmix (hr.mono (by decide)) rfl (a8 (pv 5) (a8 ai ad))) (aA (gU K) rfl T.n_len boot_len (a8 (pv 4) ad))) ad)))
 (ae (aU (aZ (pv 2) D_Net_cut_tie (hr.mono (by decide)) (a8 (bK (xC K) (pv 10) ai (fun _ _=>rfl)) ad)))))
  aE))))))
 (ae (ar (bC (a8 (pv 2) (a8 (pv 4) ad))))))))))))),?_⟩
  refine⟨(by show 6<=sizeLine;decide),fun Ln H0 e0 h0 hLn=>?_⟩
  have hLn:H0 Ln=some (.lst (NT.map V.str)):=hLn
  intro n dx hn hdx nd
  refine⟨n,dx,rfl,a9,fun dp dt H1 p1 p2 p3 b1 hi hp ht=>⟨rfl,?_⟩⟩
  have x1:dp≠n:=fun z=>by rw[z,a9]at p1;cases p1
  have x2:dt≠n:=fun z=>by rw[z,a9]at p2;cases p2
  have y1:dp≠dx:=fun z=>by rw[af x1,z,a9]at p1;cases p1
  have y2:dt≠dx:=fun z=>by rw[af x2,z,a9]at p2;cases p2
  have p1:H0 dp=none:=by rw[af x1,af y1]at p1;exact p1
  have p2:H0 dt=none:=by rw[af x2,af y2]at p2;exact p2
  have e1:Same H0 H1:=fun a o ha=>b1 a o (ah ha hn) (by rw[af (ah ha hn),af (ah ha hdx)];exact ha)
  have N1:NetAt c H1 n dp dt ⟨[],[],0⟩:=⟨⟨dx,hi⟩,⟨[],hp,.nil⟩,⟨[],ht,.nil⟩,p3⟩
  clear hp ht b1 hi
  have put:∀ {i:Nat}{ps:List (Str×Kd)}{x:Str} (k:Kd),PB NT i ps->NT[i]?=some x->(hrB k=false ↔ x=("h":Str))->due X ⟨ps,[],0⟩ x k=none/\PB NT (i+1) (ps++[(x,k)])/\x.length<=1000/\(NS.posts ⟨ps,[],0⟩).length<=1000:=fun {i ps x} k hB hx hk=>by
   have il:i<6:=(yd.mp hx).1
   have pl:=hB.len (by show i<=6;omega)
   obtain⟨a1,a2,a3⟩:=hB.due (X:=X) nt_nms hx hk (fun _=>by have:=xy ps;omega)
   exact⟨a1,a2,a3,by show ps.length<=1000;omega⟩
  obtain⟨dx1,hN1⟩:=id N1.ins
  obtain⟨d1,B1,d3,d4⟩:=put .house (PB.start NT) (x:="h") rfl ⟨fun _=>rfl,fun _=>rfl⟩
  refine⟨_,rfl,n,dx1,_,rfl,hN1,rfl,n,dp,dt,_,"h",rfl,N1,d3,d4,fun r hr'=>absurd hr' (by rw[d1];exact fun z=>nomatch z),fun _ H2 b2 N2=>?_⟩
  have e2:Same H0 H2:=fun b o hb=>b2 b o (ah hb p1) (e1 _ _ hb)
  have N2:NetAt c H2 n dp dt ⟨[]++[(("h":Str),Kd.house)],[],0⟩:=N2
  refine⟨_,rfl,_,rfl,_,rfl,Ln,_,rfl,SqL.of (e2 _ _ hLn),fun L3 H3 e3 h3 hL3=>?_⟩
  have hL3:H3 L3=some (.lst ((["one","two","three"]:List Str).map V.str)):=hL3
  refine⟨L3,rfl,⟨_,SqL.of hL3⟩,c8 (K:=K) (xs:=(["one","two","three"]:List Str).map V.str) (fun i σ G=>(∃ o3,σ=[some (.ref a),some (.ref Ln),some (.ref n),o3,none,none,none,none,none,none,none])/\Same H0 G/\G L3=some (.lst ((["one","two","three"]:List Str).map V.str))/\∃ ps,PB NT (1+i) ps/\NetAt c G n dp dt ⟨ps,[],0⟩)
   ⟨⟨none,rfl⟩,e2.trans e3,hL3,_,B1,N2.mono e3⟩ (fun i σ G _ h=>SqL.of h.2.2.1) ?_ ?_⟩
  ·rintro i v σ G ev ⟨⟨o3,rfl⟩,eG,lG,ps,hB,NG⟩
   obtain⟨x,ex,rfl⟩:=yG.mp (yf▸ev)
   have hx:NT[1+i]?=some x:=by
    have il:i<3:=(yd.mp ex).1
    rw[<- ex]
    match i,il with
    | 0,_=>rfl
    | 1,_=>rfl
    | 2,_=>rfl
   have xh:¬ x=("h":Str):=fun z=>by
    rw[z]at hx
    have:=cX nt_nms.nd hx (show NT[0]?=some ("h":Str) from rfl)
    omega
   obtain⟨d1,B2,d3,d4⟩:=put .post hB hx ⟨(fun z=>nomatch z),fun z=>absurd z xh⟩
   obtain⟨dxG,hNG⟩:=id NG.ins
   obtain⟨kvp,hkp,_⟩:=id NG.posts
   refine⟨_,rfl,n,dxG,_,rfl,hNG,rfl,_,rfl,n,dp,dt,_,x,rfl,NG,d3,d4,fun r hr'=>absurd hr' (by rw[d1];exact fun z=>nomatch z),fun _ G2 b' a4=>?_⟩
   exact⟨⟨_,rfl⟩,fun b o hb=>b' b o (ah hb p1) (eG _ _ hb),b' _ _ (fun y=>by rw[<- y,lG]at hkp;cases hkp) lG,_,B2,a4⟩
  rintro σ H4 ⟨⟨o3,rfl⟩,e4,_,ps,hB,N4⟩
  have hB:PB NT 4 ps:=hB
  obtain⟨dx4,hN4⟩:=id N4.ins
  obtain⟨d1,B5,d3,d4⟩:=put .listener hB (x:="ear") rfl ⟨(fun z=>nomatch z),fun z=>absurd z (by decide)⟩
  refine⟨_,rfl,n,dx4,_,rfl,hN4,rfl,n,dp,dt,_,"ear",rfl,N4,d3,d4,fun r hr'=>absurd hr' (by rw[d1];exact fun z=>nomatch z),fun _ H5 b5 N5=>?_⟩
  have e5:Same H0 H5:=fun b o hb=>b5 b o (ah hb p1) (e4 _ _ hb)
  clear d1 d3 d4
  have N5:NetAt c H5 n dp dt ⟨ps++[(("ear":Str),Kd.listener)],[],0⟩:=N5
  obtain⟨dx5,hN5⟩:=id N5.ins
  obtain⟨d1,B6,d3,d4⟩:=put .listener B5 (x:="eye") rfl ⟨(fun z=>nomatch z),fun z=>absurd z (by decide)⟩
  refine⟨_,rfl,n,dx5,_,rfl,hN5,rfl,n,dp,dt,_,"eye",rfl,N5,d3,d4,fun r hr'=>absurd hr' (by rw[d1];exact fun z=>nomatch z),fun _ H6 b6 N6=>?_⟩
  have e6:Same H0 H6:=fun b o hb=>b6 b o (ah hb p1) (e5 _ _ hb)
  have N6:NetAt c H6 n dp dt ⟨ps++[(("ear":Str),Kd.listener)]++[(("eye":Str),Kd.listener)],[],0⟩:=N6
  have X6:=LX.first nt_nms B6 (.refl _) rfl
  generalize ps++[(("ear":Str),Kd.listener)]++[(("eye":Str),Kd.listener)]=qs at N6 X6
  refine⟨(by show 0<=sizeLine;decide),fun tl H7 e7 h7 htl=>?_⟩
  have e07:=e6.trans e7
  have tln:H0 tl=none:=e6.free h7
  have ha7:=e07 _ _ (e0 _ _ ha)
  have ntL:tl≠Ln:=(ah hLn tln).symm
  have nta:tl≠a:=(ah (e0 _ _ ha) tln).symm
  have at6:∀ r:Int,∃ u:Nat,r % 6=(u:Int)/\u<6:=fun r=>by
   obtain⟨u,eu⟩:=AR (zd r (show (6:Int)≠0 by decide))
   have:=yW r (show (0:Int)<6 by decide)
   exact⟨u,eu,by omega⟩
  refine⟨_,rfl,a,rfl,⟨_,SqL.of ha7⟩,c8 (K:=K) (xs:=cs.map V.int) (fun i σ G=>(∃ o3 o5 o6 o7 o8 o9 o10,σ=[some (.ref a),some (.ref Ln),some (.ref n),o3,some (.ref tl),o5,o6,o7,o8,o9,o10])/\Same H0 G/\∃ S R,NetAt c G n dp dt S/\LX S NT R/\TiesS G tl R/\R.length<=i/\0<=S.next/\S.next<=i/\∀ r∈R,0<=r.1)
   ⟨⟨_,_,_,_,_,_,_,rfl⟩,e07,_,[],N6.mono e7,X6,⟨[],htl,.nil⟩,yi _,Int.le_refl _,Int.le_refl _,fun r h=>(yJ h).elim⟩ (fun i σ G _ h=>SqL.of (h.2.1 _ _ (e0 _ _ ha))) ?_ ?_⟩
  ·rintro i v σ G ev ⟨⟨o3,o5,o6,o7,o8,o9,o10,rfl⟩,eG,S,R,NG,XG,TG,hR,s0,s1,r0⟩
   obtain⟨cell,ec,rfl⟩:=yG.mp (yf▸ev)
   have i8:i<8:=by have:=(yd.mp ec).1;omega
   refine⟨_,rfl,cell,1,rfl,by decide,by decide,fun G1 e1'=>⟨_,_,rfl,rfl,(by show (0:Int)<6;decide),?_⟩⟩
   refine⟨_,rfl,cell,2,rfl,by decide,by decide,fun G2 e2'=>⟨_,_,rfl,rfl,(by show (0:Int)<6;decide),?_⟩⟩
   have eG2:=(eG.trans e1').trans e2'
   have N2':=(NG.mono e1').mono e2'
   have T2':=(TG.mono e1').mono e2'
   obtain⟨u,eu,hu⟩:=at6 (cc cell 1)
   obtain⟨v,ev',hv⟩:=at6 (cc cell 2)
   refine⟨fun σ G=>(∃ o8 o9 o10,σ=[some (.ref a),some (.ref Ln),some (.ref n),o3,some (.ref tl),some (.int cell),some (.int (cc cell 1 % 6)),some (.int (cc cell 2 % 6)),o8,o9,o10])/\Same H0 G/\∃ S R,NetAt c G n dp dt S/\LX S NT R/\TiesS G tl R/\R.length<=i+1/\0<=S.next/\S.next<=((i+1:Nat):Int)/\∀ r∈R,0<=r.1,?_,?_⟩
   case refine_2=>
    refine⟨_,rfl,_,rfl,rfl,_,rfl,bB (fun g=>?_) (fun g=>?_)⟩
    ·have g:(!decide (V.int (cc cell 1 % 6)=V.int (cc cell 2 % 6)))=true:=g
     have ne:u≠v:=fun z=>by
      rw[eu,ev',z]at g
      exact absurd g (by simp)
     obtain⟨lo,hi,elo,ehi,hlh,hhi⟩:∃ lo hi:Nat,(if cc cell 2 % 6<cc cell 1 % 6 then cc cell 2 % 6 else cc cell 1 % 6)=(lo:Int)/\(if cc cell 2 % 6 > cc cell 1 % 6 then cc cell 2 % 6 else cc cell 1 % 6)=(hi:Int)/\lo<hi/\hi<6:=by
      rw[eu,ev']
      by_cases h:v<u
      ·exact⟨v,u,if_pos (by omega),if_neg (by omega),h,hu⟩
      ·exact⟨u,v,if_neg (by omega),if_pos (by omega),by omega,hv⟩
     obtain⟨xa,hxa⟩:∃ x,NT[lo]?=some x:=⟨_,yb (show lo<NT.length by show lo<6;omega)⟩
     obtain⟨ya,hya⟩:∃ x,NT[hi]?=some x:=⟨_,yb (show hi<NT.length from hhi)⟩
     have a1:atI (NT.map V.str) (if cc cell 2 % 6<cc cell 1 % 6 then cc cell 2 % 6 else cc cell 1 % 6)=some (.str xa):=by rw[elo];exact dj (by rw[yf,hxa];rfl)
     have a2:atI (NT.map V.str) (if cc cell 2 % 6 > cc cell 1 % 6 then cc cell 2 % 6 else cc cell 1 % 6)=some (.str ya):=by rw[ehi];exact dj (by rw[yf,hya];rfl)
     have hL2:=eG2 _ _ hLn
     refine⟨_,rfl,_,rfl,_,rfl,_,_,rfl,Ln,_,_,_,rfl,rfl,SqL.of hL2,a1,?_⟩
     refine⟨_,rfl,_,rfl,_,rfl,_,_,rfl,Ln,_,_,_,rfl,rfl,SqL.of hL2,a2,?_⟩
     obtain⟨dx8,hN8⟩:=id N2'.ins
     obtain⟨ts8,htl8,hp8⟩:=id T2'
     have isd:dW 1=true:=by decide
     obtain⟨f1,f2,k1,k2,tlen,tnum⟩:=XG.free hlh hxa hya
     have rl:=XG.ln.rlen
     refine⟨_,rfl,.inl ⟨rfl,_,SqL.of htl8⟩,_,rfl,n,dx8,_,rfl,hN8,rfl,_,rfl,_,rfl,?_⟩
     refine⟨n,dp,dt,S,xa,ya,1,rfl,N2',f1,f2,by omega,tnum,fun y=>?_,fun _ y=>absurd y k2,fun _ _ y=>?_,fun _ _ _ y=>?_,fun _ _ _ _ H9 b9 N9=>?_⟩
     ·rw[k1]at y;cases y
     ·rw[isd]at y;cases y
     ·omega
     have T9:TiesS H9 tl R:=TiesS.but N2' b9 ⟨ts8,htl8,hp8⟩
     refine⟨_,rfl,_,rfl,(by show 3<=sizeLine;decide),fun T' H10 e10 h10 hT=>?_⟩
     obtain⟨ts10,htl10,hp10⟩:=T9.mono e10
     have tsl:ts10.length=R.length:=Paired.length hp10
     refine⟨tl,ts10,_,rfl,rfl,htl10,(by rw[tsl];have:sizeLine=2 ^ 24:=rfl;omega),⟨_,_,_,rfl⟩,?_,_,R++[(S.next,xa,ya)],(N9.mono e10).updL htl10,XG.step (by omega) hlh hxa hya,TiesS.snoc htl10 hp10 hT,by rw[yu,zF];omega,?_,?_,?_⟩
     ·exact au (fun b o hb=>e10 _ _ (b9 _ _ (ah hb hn) (ah hb p2) (eG2 _ _ hb))) tln
     ·show 0<=S.next+1
      omega
     ·show S.next+1<=((i+1:Nat):Int)
      omega
     ·intro r hr'
      rcases yE.mp hr' with z|z
      ·exact r0 r z
      ·rw[yL.mp z];exact s0
    ·exact⟨⟨_,_,_,rfl⟩,eG2,S,R,N2',XG,T2',by omega,s0,by omega,r0⟩
   clear eG2 N2' T2' TG XG NG hR s0 s1 r0 eG S R
   rintro σ G3 ⟨⟨o8,o9,o10,rfl⟩,eG,S,R,NG,XG,TG,hR,s0,s1,r0⟩
   obtain⟨ts,hts,hp⟩:=id TG
   have tsl:ts.length=R.length:=Paired.length hp
   refine⟨_,fun σ' G' h=>h,?_⟩
   refine⟨_,rfl,cell,3,rfl,by decide,by decide,fun G4 e4'=>⟨_,_,rfl,rfl,(by show (0:Int)<5;decide),rfl,_,rfl,bB (fun g=>?_) (fun g=>?_)⟩⟩
   case refine_2=>exact⟨⟨_,_,_,_,_,_,_,rfl⟩,eG.trans e4',S,R,NG.mono e4',XG,TG.mono e4',hR,s0,s1,r0⟩
   refine⟨_,rfl,(by show 0<=sizeLine;decide),fun le G5 e5' h5' hle=>⟨R.map fun r=>[Sum.inl r.1,Sum.inr r.2.1,Sum.inr r.2.2],[],⟨tl,ts,rfl,SqL.of (e5' _ _ (e4' _ _ hts)),dR (g:=fun r:LT=>([Sum.inl r.1,Sum.inr r.2.1,Sum.inr r.2.2]:List Key)) hp fun v r h=>tie_is ((h.mono e4').mono e5')⟩,⟨le,[],rfl,SqL.of hle,.nil⟩,_,rfl,bB (fun g2=>?_) (fun g2=>?_)⟩⟩
   case refine_2=>exact⟨⟨_,_,_,_,_,_,_,rfl⟩,(eG.trans e4').trans e5',S,R,(NG.mono e4').mono e5',XG,(TG.mono e4').mono e5',hR,s0,s1,r0⟩
   have rpos:0<R.length:=by
    cases R with
    | nil=>exact absurd g2 (by simp)
    | cons _ _=>simp
   have lpos:(0:Int)<(ts.length:Int):=by omega
   obtain⟨k,ek⟩:=AR (zd (cc cell 4) (b:=(ts.length:Int)) (by omega))
   have hk:k<ts.length:=by
    have:=yW (cc cell 4) lpos
    omega
   have kR:k<R.length:=by omega
   obtain⟨r,er,b,eb,hb⟩:=Paired.at hp (yb hk)
   refine⟨_,rfl,.inl ⟨rfl,_,SqL.of (e5' _ _ (e4' _ _ hts))⟩,_,rfl,cell,4,rfl,by decide,by decide,fun G6 e6'=>?_⟩
   have e36:=(e4'.trans e5').trans e6'
   have hts6:=e36 _ _ hts
   have si:seqIndex? (cc cell 4 % (ts.length:Int)) ts.length=some k:=by
    rw[ek,PySem.seqIndex_of (by omega) (by omega)]
    rfl
   refine⟨_,rfl,tl,_,rfl,.inl (SqL.of hts6),_,_,rfl,rfl,lpos,tl,ts,cc cell 4 % (ts.length:Int),k,.ref b,rfl,rfl,hts6,by rw[ek];omega,by rw[ek];have:=XG.ln.rlen;omega,si,by rw[<- eb];exact yb hk,?_⟩
   have N6':NetAt c (upd G6 tl (.lst (ts.eraseIdx k))) n dp dt S:=(NG.mono e36).updL hts6
   have hb6:(upd G6 tl (.lst (ts.eraseIdx k))) b=some (.tup [.int r.1,.str r.2.1,.str r.2.2]):=by rw[af (bn (e36 _ _ hb) hts6 (fun z=>nomatch z))];exact e36 _ _ hb
   have T6':TiesS (upd G6 tl (.lst (ts.eraseIdx k))) tl (R.eraseIdx k):=⟨_,a9,iW (Paired.mapP hp fun v r' ⟨b',e',hb'⟩=>⟨b',e',by rw[af (bn (e36 _ _ hb') hts6 (fun z=>nomatch z))];exact e36 _ _ hb'⟩) k⟩
   have eH6:Same H0 (upd G6 tl (.lst (ts.eraseIdx k))):=au (eG.trans e36) tln
   generalize upd G6 tl (.lst (ts.eraseIdx k))=G7 at N6' hb6 T6' eH6
   obtain⟨dx7,hN7⟩:=id N6'.ins
   obtain⟨kt,hkt,_⟩:=id N6'.ties
   have rmem:r∈R:=yh er
   refine⟨_,rfl,n,dx7,_,rfl,hN7,rfl,_,rfl,b,_,0,.int r.1,rfl,rfl,SqT.of hb6,rfl,n,dp,dt,S,r.1,rfl,N6',?_,fun G8 b8 N8=>?_⟩
   ·have:=congrArg (List.map (·.1)) XG.ln.ties
    rw[yq]at this
    have e:S.ties.map (·.1)=R.map (·.1):=this
    rw[e]
    exact yD rmem
   have rf:=nM (XG.ln.asc.imp fun h=>Int.ne_of_lt h) er
   obtain⟨xs7,hx7,hp7⟩:=T6'
   refine⟨⟨_,_,_,_,_,_,_,rfl⟩,fun b' o' hb'=>b8 _ _ (ah hb' p2) (eH6 _ _ hb'),S.cut r.1,R.eraseIdx k,N8,by rw[rf];exact XG.cut r.1,⟨xs7,b8 _ _ (bn hx7 hkt (fun z=>nomatch z)) hx7,Paired.mapP hp7 fun v r' ⟨b',e',hb'⟩=>⟨b',e',b8 _ _ (bn hb' hkt (fun z=>nomatch z)) hb'⟩⟩,?_,s0,s1,fun r' hr'=>r0 r' (List.mem_of_mem_eraseIdx hr')⟩
   rw[List.length_eraseIdx]
   split <;> omega
  ·rintro σ G ⟨⟨o3,o5,o6,o7,o8,o9,o10,rfl⟩,eG,S,R,NG,XG,TG,hR,s0,s1,r0⟩
   rw[y9]at hR s1
   refine⟨_,rfl,_,rfl,(by show 2<=sizeLine;decide),fun t G2 e2' h2' ht=>q t n tl dp dt G2 S R (e0.trans (eG.trans e2')) (e0.free (eG.free h2')) ht (NG.mono e2') (TG.mono e2') XG (by omega) fun r hr'=>⟨r0 r hr',?_⟩⟩
   have:=XG.nxt r hr'
   omega
end
end K52
namespace K52
open PySem L2
open PyProof.Rows (boot_list boot_int boot_bool boot_tuple boot_str boot_dict boot_all boot_sorted)
theorem nL {α β:Type}(f:α->β):∀ (xs:List α)(k:Nat),(xs.map f).eraseIdx k=(xs.eraseIdx k).map f
 | [],_=>rfl
 | _::_,0=>rfl
 | x::xs,k+1=>congrArg (f x::·) (nL f xs k)
def cf (R:List LT)(x:Str)(many:Int):Int:=if x="h" then many else ((jf R x).length:Int)
structure PQ (m : Nat) (H : Hp) (d : Addr) (rows : List aO) : Prop where
  at_ : PlanAt H d rows
  kd : (rows.map (·.1)).Nodup
  ln : ∀ r ∈ rows, r.2.2.length <= m
theorem PQ.mono {m m':Nat}{H H':Hp}{d:Addr}{rows:List aO} (h:PQ m H d rows) (hm:m<=m') (e:Same H H'):PQ m' H' d rows:=⟨h.at_.mono e,h.kd,fun r hr=>yM (h.ln r hr) hm⟩
theorem u4 {rows:List aO}{n:Int} (h:¬ n∈rows.map (·.1)):bb rows n=none:=zc.mpr fun x hx z=>h (yr z▸yD hx)
theorem PQ.put {m:Nat}{H:Hp}{d a:Addr}{rows:List aO}{k:Int}{vs:List Int} (h:PQ m H d rows) (ha:H a=some (.lst (vs.map V.int))) (hv:vs.length<=m):
  ∃ rows',PQ m (upd H d (.dK (cT (aI rows) (Sum.inl k) (.ref a)))) d rows'/\rows'.length<=rows.length+1/\(¬ k∈rows.map (·.1)->rows'=rows++[(k,a,vs)]):=by
 have keep:∀ {b:Addr}{xs:List V},H b=some (.lst xs)->upd H d (.dK (cT (aI rows) (Sum.inl k) (.ref a))) b=some (.lst xs):=fun {b xs} hb=>by
  rw[af (fun z=>by rw[z,h.at_.dict]at hb;cases hb)];exact hb
 by_cases c:k∈rows.map (·.1)
 ·refine⟨rows.map fun r=>if r.1=k then (r.1,a,vs) else r,⟨⟨?_,fun r hr=>?_⟩,?_,fun r hr=>?_⟩,by simp,fun z=>absurd c z⟩
  ·rw[a9]
   unfold cT aI
   rw[if_pos]
   ·rw[yq,yq]
    congr 2
    refine zn fun r _=>?_
    show (if (Sum.inl r.1:Key)=Sum.inl k then ((Sum.inl r.1:Key),V.ref a) else (Sum.inl r.1,V.ref r.2.1))=_
    by_cases z:r.1=k
    ·rw[if_pos (by rw[z])]
     show _=((Sum.inl (if r.1=k then (r.1,a,vs) else r).1:Key),V.ref (if r.1=k then (r.1,a,vs) else r).2.1)
     rw[if_pos z]
    ·rw[if_neg (fun y=>z (Sum.inl.inj y))]
     show _=((Sum.inl (if r.1=k then (r.1,a,vs) else r).1:Key),V.ref (if r.1=k then (r.1,a,vs) else r).2.1)
     rw[if_neg z]
   ·obtain⟨r,hr,e⟩:=yw.mp c
    rw[List.any_eq_true]
    exact⟨_,yD (f:=fun r:aO=>((Sum.inl r.1:Key),V.ref r.2.1)) hr,ye (by show (Sum.inl r.1:Key)=Sum.inl k;rw[show r.1=k from e])⟩
  ·obtain⟨r0,hr0,rfl⟩:=yw.mp hr
   by_cases z:r0.1=k
   ·rw[if_pos z];exact keep ha
   ·rw[if_neg z];exact keep (h.at_.row r0 hr0)
  ·rw[yq]
   have:((fun r:aO=>r.1) ∘ fun r:aO=>if r.1=k then (r.1,a,vs) else r)=fun r:aO=>r.1:=by
    funext r
    show (if r.1=k then (r.1,a,vs) else r).1=r.1
    by_cases z:r.1=k
    ·rw[if_pos z]
    ·rw[if_neg z]
   rw[this]
   exact h.kd
  ·obtain⟨r0,hr0,rfl⟩:=yw.mp hr
   by_cases z:r0.1=k
   ·rw[if_pos z];exact hv
   ·rw[if_neg z];exact h.ln r0 hr0
 ·refine⟨rows++[(k,a,vs)],⟨⟨?_,fun r hr=>?_⟩,?_,fun r hr=>?_⟩,by simp,fun _=>rfl⟩
  ·rw[a9,dF _ (by rw[cu,u4 c];rfl)]
   unfold aI
   rw[yI]
   rfl
  ·rcases yE.mp hr with z|z
   ·exact keep (h.at_.row r z)
   ·rw[yL.mp z];exact keep ha
  ·rw[yI,Az]
   exact⟨h.kd,by simp,fun x hx y hy z=>c (by have:y=k:=(by simpa using hy);rw[<- this,<- z];exact hx)⟩
  ·rcases yE.mp hr with z|z
   ·exact h.ln r z
   ·rw[yL.mp z];exact hv
theorem PQ.pop {m:Nat}{H:Hp}{d:Addr}{rows:List aO}{k:Int} (G:PQ m H d rows):
  PQ m (upd H d (.dK (ff (aI rows) (Sum.inl k)))) d (rows.filter fun r=>decide (r.1≠k)):=by
 have sb:(rows.filter fun r=>decide (r.1≠k)).Sublist rows:=List.filter_sublist
 refine⟨⟨?_,fun r2 hr2=>?_⟩,G.kd.sublist (sb.map _),fun r2 hr2=>G.ln r2 (sb.subset hr2)⟩
 ·rw[a9]
  unfold aI ff
  rw[AL]
  congr 3
  refine List.filter_congr fun r _=>?_
  show decide ((Sum.inl r.1:Key)≠Sum.inl k)=decide (r.1≠k)
  rw[ze,zU,zU]
  exact⟨fun h z=>h (by rw[z]),fun h z=>h (Sum.inl.inj z)⟩
 ·have h1:=G.at_.row r2 (sb.subset hr2)
  rw[af (bn h1 G.at_.dict (fun z=>nomatch z))]
  exact h1
section
variable {P : Program}{w : World}{K : PySem.W.Frag}{mg : Str -> Option Value}{base : Heap}
def iS:Sp:=fun vs H Q _=>∃ (tl:Addr)(x:Str)(many:Int)(R:List LT),vs=[.ref tl,.str x,.int many]/\TiesS H tl R/\R.length<=1000/\∀ H',Same H H'->Q (.int (cf R x many)) H'
abbrev oB:Stmt:=top 67
theorem v7:am ["_law_ties","_law_one","_law_many"] ["_law_ties","_law_one","_law_many"] (ag oB):=⟨rfl,rfl,rfl,by decide +kernel,rfl,by decide +kernel,by decide +kernel⟩
theorem vC {f:Addr}{fd:FuncData} (F:Fun K "_law_size" "_law_size" oB f fd) (T:sN mg):FnOk P w K mg base CX0 1 f fd ["_law_ties","_law_one","_law_many"] iS:=by
 refine F.ok v7 (fun vs H Q E h=>?_) (fun cdv A outer s H vs Q E hr h=>?_)
 ·obtain⟨tl,x,many,R,rfl,_⟩:=h
  rfl
 ·obtain⟨tl,x,many,R,rfl,⟨ts,hts,hp⟩,hz,q⟩:=h
  have hl:=Paired.length hp
  refine⟨_,(aa (ba (aw ci (pv 1) d7 (aD _))
  (ae (ar (pv 2)))
  aE)
 (ae (ar (aA (gU K) rfl T.n_len boot_len (a8 (aX rfl (ak (nT:=1) (js:=[1]) (N':=["_law_row","_law_one"]) rfl rfl (by kernel_rfl)) (c6 K (pv 0))
  (fun _ _ _ _ _=>(aj (i:=0) (show List.Nodup (["_law_row","_law_one"]:List Str) by decide +kernel) rfl (by trivial)))
  (fun _ _ _ _ _=>(dQ (aw ci (bK (xC K) (pv 0) ai (fun _ _=>rfl)) (pv 1) (aD _))))
  (fun _ _ _ _ _=>(pv 0))) ad))))),?_⟩
  refine⟨_,rfl,rfl,_,rfl,?_⟩
  by_cases c:x=("h":Str)
  ·rw[ye (show V.str x=V.str "h" by rw[c])]
   have:=q H (Same.refl _)
   unfold cf at this
   rw[if_pos c]at this
   exact bA ⟨_,rfl,this⟩
  rw[yj (show ¬ V.str x=V.str "h" from fun z=>c (by injection z))]
  refine bv ⟨_,rfl,tl,rfl,⟨_,SqL.of hts⟩,sH (keep:=fun i=>decide ((R.getD i (0,"","")).2.2=x)) (g:=fun i=>ts.getD i .non) hts (by omega) (fun i v H2 ex e2=>?_) (fun l H2 h2 e2 hl2=>?_)⟩
  ·obtain⟨r,er,b,rfl,hb⟩:=Paired.at hp ex
   have gd:R.getD i (0,"","")=r:=by rw[yk,er];rfl
   rw[gd]
   refine⟨_,rfl,b,_,2,.str r.2.2,rfl,rfl,SqT.of (e2 _ _ hb),rfl,_,rfl,rfl,_,rfl,?_⟩
   by_cases c:r.2.2=x
   ·rw[ye (show V.str r.2.2=V.str x by rw[c]),ye c]
    exact bA ⟨_,rfl,rfl,by rw[aH ex],Same.refl _⟩
   ·rw[yj (show ¬ V.str r.2.2=V.str x from fun z=>c (by injection z)),yj c]
    exact bv ⟨rfl,Same.refl _⟩
  ·refine⟨l,_,rfl,.inl (SqL.of hl2),?_⟩
   have:=q H2 e2
   unfold cf at this
   rw[if_neg c]at this
   rw[y9,hl]
   have fe:=congrArg List.length (jM (d:=((0,"",""):LT)) (fun r=>decide (r.2.2=x)) (fun r=>r) R)
   rw[y9,y9]at fe
   rw[fe]
   unfold jf at this
   rw[y9]at this
   exact this
def ju:Sp:=fun vs H Q _=>∃ (d ln:Addr)(p x:Int)(rows:List aO)(ns:List Int)(H0:Hp)(m:Nat),vs=[.ref d,.ref ln,.int p,.int x]/\m<=100/\PQ m H d rows/\Same H0 H/\H0 d=none/\rows.length<=100/\H ln=some (.lst (ns.map V.int))/\ns.length<=1000/\
 ∀ H' rows',Same H0 H'->PQ (m+1) H' d rows'->rows'.length<=rows.length+1->Q .non H'
abbrev lg:Stmt:=top 68
theorem sc_Lspoil:am ["_law_plan","_law_numbers","_law_prime","_law_drawn","_law_way","_law_at","_law_some","_law_k"] ["_law_plan","_law_numbers","_law_prime","_law_drawn"] (ag lg):=⟨rfl,rfl,rfl,by decide +kernel,rfl,by decide +kernel,by decide +kernel⟩
theorem uk {f:Addr}{fd:FuncData} (F:Fun K "_law_spoil" "_law_spoil" lg f fd) (T:sN mg):FnOk P w K mg base CX0 1 f fd ["_law_plan","_law_numbers","_law_prime","_law_drawn"] ju:=by
 refine F.ok sc_Lspoil (fun vs H Q E h=>?_) (fun cdv A outer s H vs Q E hr h=>?_)
 ·obtain⟨d,ln,p,x,rows,ns,H0,m,rfl,_⟩:=h
  rfl
 ·obtain⟨d,ln,p,x,rows,ns,H0,m,rfl,hm,G,e0,hd0,hrl,hln,hnl,q⟩:=h
  have ND:=sc_Lspoil.nd
  have plz:(aI rows).length<2 ^ 24:=by unfold aI;rw[y9];omega
  refine⟨_,(aa (ax (i:=4) ND rfl (by trivial) (aF be (pv 3) ai))
 (aa (ba (PW.pt (qa (aw (eqLK K pi (bc hr)) (pv 1) (bg ad) (aD _)) (lA (aw ci (pv 4) ai (aD _)))))
  (aa (cO (bc hr) (pv 0) (bK (eZ K) (bg (a8 ai (a8 ai (a8 (aF dH ai (aF be (aF bZ (pv 3) ai) ai)) ad)))) (aF be (aF bZ (pv 3) ai) ai) (fun _ _=>rfl)) (bg ad) rfl)
 (ae wT))
  aE)
 (aa (ax (i:=5) ND rfl (by trivial) (bK (eZ K) (pv 1) (aF be (aF bZ (pv 3) ai) (aA (gU K) rfl T.n_len boot_len (a8 (pv 1) ad))) (fun _ _=>rfl)))
 (ae (eE (aw ci (pv 4) ai (aD _))
  (ae (aU (vm (pv 0) (pv 5) bD ⟨rfl,rfl,rfl,rfl⟩)))
  (ae (eE (PW.pt (iC (fD (oH (bc hr) (pv 5) (pv 0))) (fC (aw ci (pv 4) ai (aD _)))))
  (ae (cO (bc hr) (pv 0) (pv 5) (aF iZ (bL (bc hr) (pv 0) (pv 5) (fun _ _=>rfl)) (bg (a8 ai ad))) rfl))
  (ae (eE (PW.pt (iC (fD (oH (bc hr) (pv 5) (pv 0))) (fC (aw (neLK K pi (bc hr)) (bL (bc hr) (pv 0) (pv 5) (fun _ _=>rfl)) (bg ad) (aD _)))))
  (aa (ax (i:=6) ND rfl (by trivial) (bY (vI K) rfl T.n_list boot_list (a8 (bL (bc hr) (pv 0) (pv 5) (fun _ _=>rfl)) ad)))
 (aa (ax (i:=7) ND rfl (by trivial) (aF be (aF bZ (pv 3) ai) (aA (gU K) rfl T.n_len boot_len (a8 (pv 6) ad))))
 (aa (eE (aw ci (pv 4) ai (aD _))
  (ae (aU (bmK K zA PySem.F.slot_list_pop PySem.F.type_list_pop qA (pv 6) (a8 (pv 7) ad))))
  (ae (rN (bK (eZ K) (bg (a8 (pe_un uX ai) (a8 (pv 2) (a8 (aF dH (pv 2) ai) ad)))) (aF be (pv 4) ai) (fun _ _=>rfl)) (vi (pv 6) (pv 7) pL))))
 (ae (cO (bc hr) (pv 0) (pv 5) (pv 6) rfl)))))
  aE))))))))),?_⟩
  refine⟨_,rfl,_,_,rfl,rfl,(by show (0:Int)<7;decide),?_⟩
  refine⟨_,rfl,(by show 0<=sizeLine;decide),fun le H1 e1 h1 hle=>⟨ns,[],je (e1 _ _ hln),je (r:=[]) hle,_,rfl,bB (fun g=>?_) (fun g=>?_)⟩⟩
  ·refine⟨(by show 0<=sizeLine;decide),fun la H2 e2 h2 hla=>⟨_,rfl,_,rfl,_,_,rfl,rfl,⟨by decide,by decide⟩,_,_,rfl,rfl,(by show (0:Int)<50;decide),_,_,rfl,rfl,(by show 3<=sizeLine;decide),fun lk H3 e3 h3 hlk=>?_⟩⟩
   obtain⟨kk,hkk⟩:∃ kk:Int,atI [V.int 40,V.int 97,V.int (41+x / 7 % 50)] (x / 70 % 3)=some (.int kk):=by
    obtain⟨v,hv,ha⟩:=gB (xs:=[V.int 40,V.int 97,V.int (41+x / 7 % 50)]) (i:=x / 70 % 3) (zd _ (by decide)) (yW _ (by decide))
    have:=yh hv
    simp only[yB,yJ,AT]at this
    rcases this with rfl|rfl|rfl
    ·exact⟨_,ha⟩
    ·exact⟨_,ha⟩
    ·exact⟨_,ha⟩
   have e13:=(e1.trans e2).trans e3
   have G3:=G.mono (Ao m) e13
   obtain⟨rows',P',L',_⟩:=G3.put (k:=kk) (vs:=[]) (a:=la) (e3 _ _ hla) (yP _)
   exact⟨_,rfl,_,_,rfl,rfl,⟨by decide,by decide⟩,_,_,rfl,rfl,(by show (0:Int)<3;decide),lk,_,_,.int kk,rfl,rfl,SqL.of hlk,hkk,d,_,rfl,DPut.k (k:=Sum.inl kk) G3.at_.dict plz,q _ rows' (au (e0.trans e13) hd0) P' L'⟩
  refine⟨_,rfl,rfl,_,rfl,bB (fun g2=>?_) (fun g2=>?_)⟩
  ·refine⟨(by show 0<=sizeLine;decide),fun la H2 e2 h2 hla=>⟨_,rfl,_,rfl,_,_,rfl,rfl,⟨by decide,by decide⟩,_,_,rfl,rfl,(by show (0:Int)<50;decide),_,_,rfl,rfl,(by show 3<=sizeLine;decide),fun lk H3 e3 h3 hlk=>?_⟩⟩
   obtain⟨kk,hkk⟩:∃ kk:Int,atI [V.int 40,V.int 97,V.int (41+x / 7 % 50)] (x / 70 % 3)=some (.int kk):=by
    obtain⟨v,hv,ha⟩:=gB (xs:=[V.int 40,V.int 97,V.int (41+x / 7 % 50)]) (i:=x / 70 % 3) (zd _ (by decide)) (yW _ (by decide))
    have:=yh hv
    simp only[yB,yJ,AT]at this
    rcases this with rfl|rfl|rfl
    ·exact⟨_,ha⟩
    ·exact⟨_,ha⟩
    ·exact⟨_,ha⟩
   have e13:=(e1.trans e2).trans e3
   have G3:=G.mono (Ao m) e13
   obtain⟨rows',P',L',_⟩:=G3.put (k:=kk) (vs:=[]) (a:=la) (e3 _ _ hla) (yP _)
   exact⟨_,rfl,_,_,rfl,rfl,⟨by decide,by decide⟩,_,_,rfl,rfl,(by show (0:Int)<3;decide),lk,_,_,.int kk,rfl,rfl,SqL.of hlk,hkk,d,_,rfl,DPut.k (k:=Sum.inl kk) G3.at_.dict plz,q _ rows' (au (e0.trans e13) hd0) P' L'⟩
  have npos:0<ns.length:=by
   cases ns with
   | nil=>exact absurd (show decide (([]:List Int)=[])=true from rfl) g
   | cons _ _=>simp
  have lpos:(0:Int)<((ns.map V.int).length:Int):=by rw[y9];omega
  obtain⟨at_,hat⟩:∃ z:Int,atI (ns.map V.int) (x / 7 % ((ns.map V.int).length:Int))=some (.int z):=by
   obtain⟨v,hv,ha⟩:=gB (xs:=ns.map V.int) (i:=x / 7 % ((ns.map V.int).length:Int)) (zd _ (by omega)) (yW _ lpos)
   obtain⟨z,_,rfl⟩:=yw.mp (yh hv)
   exact⟨z,ha⟩
  have hln1:=e1 _ _ hln
  refine⟨_,rfl,_,rfl,_,_,rfl,rfl,⟨by decide,by decide⟩,_,rfl,ln,_,rfl,.inl (SqL.of hln1),_,_,rfl,rfl,lpos,ln,_,_,.int at_,rfl,rfl,SqL.of hln1,hat,?_⟩
  have G1:=G.mono (yi m) e1
  have same:∀ {H'},Same H1 H'->Q .non H':=fun {H'} e=>q H' rows (e0.trans (e1.trans e)) (G.mono (Ao m) (e1.trans e)) (by omega)
  refine⟨_,fun σ' H' h=>h,⟨_,rfl,rfl,_,rfl,bB (fun g3=>?_) (fun g3=>?_)⟩⟩
  ·refine⟨_,rfl,d,rfl,.inl ⟨_,.inl G1.at_.dict⟩,_,rfl,aI rows,Sum.inl at_,G1.at_.dict,rfl,fun v hv=>?_,fun hn=>same (Same.refl _)⟩
   exact q _ _ (au (e0.trans e1) hd0) ((G.mono (Ao m) e1).pop (k:=at_)) (yM (z9 _ _) (by omega))
  have isS:∀ {H'},Same H1 H'->DGet H' d (.int at_) ((bb rows at_).map fun r=>V.ref r.2.1):=fun {H'} e=>by
   have:=DGet.k (k:=Sum.inl at_) (e _ _ G1.at_.dict)
   rw[cu]at this
   exact this
  cases hrow:bb rows at_ with
  | none=>
   rw[hrow]at isS
   refine⟨_,fun σ' H' h=>h,⟨_,rfl,_,rfl,d,_,rfl,isS (Same.refl _),_,rfl,bv ⟨_,fun σ' H' h=>h,⟨_,rfl,_,rfl,d,_,rfl,isS (Same.refl _),_,rfl,bv (same (Same.refl _))⟩⟩⟩⟩
  | some r=>
   rw[hrow]at isS
   have rm:=(c9 hrow).1
   have hr1:=G1.at_.row r rm
   have rl:=G.ln r rm
   refine⟨_,fun σ' H' h=>h,⟨_,rfl,_,rfl,d,_,rfl,isS (Same.refl _),_,rfl,bA ⟨_,rfl,rfl,_,rfl,bB (fun g4=>?_) (fun g4=>?_)⟩⟩⟩
   ·refine⟨_,rfl,_,rfl,d,_,rfl,isS (Same.refl _),(by show 1<=sizeLine;decide),fun lz H2 e2 h2 hlz=>⟨r.2.1,lz,_,_,rfl,rfl,e2 _ _ hr1,hlz,?_,fun la H3 e3 h3 hla=>?_⟩⟩
    ·rw[y9]
     show _+1<=2 ^ 24
     omega
    have e13:=e2.trans e3
    have G3:=G.mono (Ao m) (e1.trans e13)
    obtain⟨rows',P',L',_⟩:=G3.put (k:=at_) (vs:=r.2.2++[0]) (a:=la) (by rw[hla,yI];rfl) (by rw[yu];simp;omega)
    exact⟨_,rfl,_,rfl,d,_,rfl,DPut.k (k:=Sum.inl at_) G3.at_.dict plz,q _ rows' (au (e0.trans (e1.trans e13)) hd0) P' L'⟩
   ·refine⟨_,fun σ' H' h=>h,⟨_,rfl,_,rfl,d,_,rfl,isS (Same.refl _),_,rfl,bA ⟨_,rfl,_,rfl,d,_,rfl,isS (Same.refl _),(by show 0<=sizeLine;decide),fun lz H2 e2 h2 hlz=>⟨r.2.2,[],je (e2 _ _ hr1),je (r:=[]) hlz,_,rfl,bB (fun g5=>?_) (fun g5=>same e2)⟩⟩⟩⟩
    have rpos:0<r.2.2.length:=by
     cases hz:r.2.2 with
     | nil=>rw[hz]at g5;exact absurd g5 (by simp)
     | cons _ _=>simp
    refine⟨_,rfl,_,rfl,d,_,rfl,isS e2,r.2.1,_,rfl,.inl (SqL.of (e2 _ _ hr1)),fun ls H3 e3 h3 hls=>?_⟩
    have lpos2:(0:Int)<((r.2.2.map V.int).length:Int):=by rw[y9];omega
    refine⟨_,rfl,_,_,rfl,rfl,⟨by decide,by decide⟩,_,rfl,ls,_,rfl,.inl (SqL.of hls),_,_,rfl,rfl,lpos2,?_⟩
    obtain⟨k,ek⟩:=AR (zd (x / 50) (b:=((r.2.2.map V.int).length:Int)) (by omega))
    have hk:k<(r.2.2.map V.int).length:=by
     have:=yW (x / 50) lpos2
     omega
    have e13:=e2.trans e3
    have hls0:H0 ls=none:=(e0.trans (e1.trans e2)).free h3
    have nls:d≠ls:=ah (e2 _ _ G1.at_.dict) h3
    have keepG:∀ {H4:Hp}{o:HO},Same H3 H4->PQ m (upd H4 ls o) d rows:=fun {H4 o} e4=>⟨⟨by rw[af nls];exact e4 _ _ (e13 _ _ G1.at_.dict),fun r' hr'=>by
      have:=e2 _ _ (G1.at_.row r' hr')
      rw[af (ah this h3)]
      exact e4 _ _ (e3 _ _ this)⟩,G.kd,G.ln⟩
    change bd 7 (V.int (x / 50 % ((r.2.2.map V.int).length:Int))) _ _ _
    rw[ek]
    refine⟨fun σ H'=>(∃ (H4:Hp)(vs:List Int),Same H3 H4/\H'=upd H4 ls (.lst (vs.map V.int))/\vs.length<=m+1)/\σ=[some (.ref d),some (.ref ln),some (.int p),some (.int x),some (.int (x % 7)),some (.int at_),some (.ref ls),some (.int (k:Int))],?_,?_⟩
    case refine_2=>
     refine⟨_,rfl,rfl,_,rfl,bB (fun g6=>?_) (fun g6=>?_)⟩
     ·refine⟨_,rfl,.inl ⟨rfl,_,SqL.of hls⟩,_,rfl,ls,_,_,k,.int (r.2.2.getD k 0),rfl,rfl,hls,by omega,by rw[y9]at hk;omega,by rw[PySem.seqIndex_of (by omega) (by omega)];rfl,?_,⟨H3,r.2.2.eraseIdx k,Same.refl _,?_,?_⟩,rfl⟩
      ·rw[y9]at hk
       rw[yf,yb hk,aH (yb hk)]
       rfl
      ·rw[nL]
      ·rw[List.length_eraseIdx]
       split <;> omega
     ·obtain⟨z,hz⟩:∃ z:Int,atI [V.int (-1),V.int p,V.int (p+5)] (x % 7 % 3)=some (.int z):=by
       obtain⟨v,hv,ha⟩:=gB (xs:=[V.int (-1),V.int p,V.int (p+5)]) (i:=x % 7 % 3) (zd _ (by decide)) (yW _ (by decide))
       have:=yh hv
       simp only[yB,yJ,AT]at this
       rcases this with rfl|rfl|rfl
       ·exact⟨_,ha⟩
       ·exact⟨_,ha⟩
       ·exact⟨_,ha⟩
      refine⟨_,rfl,_,rfl,_,rfl,_,_,rfl,rfl,(by show 3<=sizeLine;decide),fun lw H4 e4 h4 hlw=>⟨_,rfl,_,_,rfl,rfl,(by show (0:Int)<3;decide),lw,_,_,.int z,rfl,rfl,SqL.of hlw,hz,_,rfl,_,rfl,ls,_,_,k,rfl,rfl,e4 _ _ hls,t6 hk,⟨H4,r.2.2.set k z,e4,?_,?_⟩,rfl⟩⟩
      ·rw[List.map_set]
      ·rw[List.length_set];omega
    rintro σ H5 ⟨⟨H4,vs,e4,rfl,hvl⟩,rfl⟩
    obtain⟨rows',P',L',_⟩:=((keepG e4).mono (Ao m) (Same.refl _)).put (k:=at_) (vs:=vs) (a:=ls) a9 hvl
    exact⟨_,rfl,_,rfl,_,rfl,d,_,rfl,DPut.k (k:=Sum.inl at_) (keepG e4).at_.dict plz,q _ rows' (au (au (e0.trans (e1.trans (e13.trans e4))) hls0) hd0) P' L'⟩
end
end K52
namespace K52
open PySem L2
open PyProof.Rows (boot_list boot_int boot_bool boot_tuple boot_str boot_dict boot_all boot_sorted boot_any)
def Rm (R:List LT)(many:Int):List (Int×Int):=R.map fun r=>(r.1,cf R r.2.1 many)
theorem pB (R:List LT)(many:Int):(Rm R many).map (·.1)=R.map (·.1):=by
 unfold Rm
 rw[yq]
 rfl
def DueIs (ms:List (Int×Int))(rows:List aO)(p:Int):Option Int->Prop
 | some k=>(∃ m,ms.find? (cF rows p)=some m/\k=m.1)\/(ms.find? (cF rows p)=none/\k∈fH ms rows/\∀ j∈fH ms rows,k<=j)
 | none=>ms.find? (cF rows p)=none/\fH ms rows=[]
def xk:Option Int->V
 | none=>.non
 | some k=>.int k
def lm (rows:List aO)(p n:Int):List Int:=((bb rows n).map (·.2.2)).getD [p]
theorem sL (rows:List aO)(p:Int)(m:Int×Int):cF rows p m=!dJ p (lm rows p m.1) m.2:=by
 unfold cF lm
 cases bb rows m.1 with
 | some r=>rfl
 | none=>
  show true=!dJ p [p] m.2
  unfold dJ dU
  simp
theorem xX (p:Int)(vs:List Int):(vs.map fun y=>decide (y<0) || decide (p<=y)).any id=!vs.all (dU p):=by
 induction vs with
 | nil=>rfl
 | cons y vs ih=>
  rw[yN,Af,Bx,ih]
  have:dU p y=!(decide (y<0) || decide (p<=y)):=by
   unfold dU
   by_cases h1:y<0
   ·rw[ye h1,yj (by omega)];rfl
   ·by_cases h2:p<=y
    ·rw[yj h1,ye h2,yj (show ¬ y<p by omega),Bool.and_false];rfl
    ·rw[yj h1,yj h2,ye (show 0<=y by omega),ye (show y<p by omega)];rfl
  rw[this]
  show ((decide (y<0) || decide (p<=y)) || !vs.all (dU p))=_
  cases (decide (y<0) || decide (p<=y)) <;> cases vs.all (dU p) <;> rfl
section
variable {P : Program}{w : World}{K : PySem.W.Frag}{mg : Str -> Option Value}{base : Heap}
def oo:Sp:=fun vs H Q _=>∃ (tl d:Addr)(many p:Int)(R:List LT)(rows:List aO),vs=[.ref d,.ref tl,.int many,.int p]/\TiesS H tl R/\R.length<=1000/\PlanAt H d rows/\rows.length<=1000/\(∀ r∈rows,r.2.2.length<=1000)/\∀ o H',Same H H'->DueIs (Rm R many) rows p o->Q (xk o) H'
abbrev rL:Stmt:=top 69
theorem sc_Ldue:am ["_law_plan","_law_ties","_law_many","_law_prime","_law_number","_law_one","_law_other","_law_row","_law_known"] ["_law_plan","_law_ties","_law_many","_law_prime"] (ag rL):=⟨rfl,rfl,rfl,by decide +kernel,rfl,by decide +kernel,by decide +kernel⟩
theorem xu {f:Addr}{fd:FuncData} (F:Fun K "_law_due" "_law_due" rL f fd) (T:sN mg) (D_Lsize:Df P w K mg base 1 "_law_size" ["_law_ties","_law_one","_law_many"] iS):FnOk P w K mg base CX0 2 f fd ["_law_plan","_law_ties","_law_many","_law_prime"] oo:=by
 refine F.ok sc_Ldue (fun vs H Q E h=>?_) (fun cdv A outer s H vs Q E hr h=>?_)
 ·obtain⟨tl,d,many,p,R,rows,rfl,_⟩:=h
  rfl
 ·obtain⟨tl,d,many,p,R,rows,rfl,⟨ts,hts,hp⟩,hz,PA,hrz,hln,q⟩:=h
  have ND:=sc_Ldue.nd
  have hl:=Paired.length hp
  refine⟨_,(aa (bN yV rfl (c6 K (pv 1)) (gT K (n:=3) rfl (av (aj (i:=4) ND rfl (by trivial)) (av (aj (i:=5) ND rfl (by trivial)) (av (aj (i:=6) ND rfl (by trivial)) bw))))
  (aa (ax (i:=7) ND rfl (by trivial) (vo (bc hr) (pv 0) (pv 4) (bg (a8 (pv 3) ad)) ⟨rfl,rfl,rfl,rfl⟩))
 (ae (ba (PW.pt (qa (aw n0 (aA (gU K) rfl T.n_len boot_len (a8 (pv 7) ad)) (aq D_Lsize (hr.mono (by decide)) rfl (a8 (pv 1) (a8 (pv 5) (a8 (pv 2) ad)))) (aD _)) (lA (d6 (aA (uR K rfl) rfl T.n_any boot_any (a8 (aX rfl (ak (nT:=1) (js:=[3]) (N':=["_law_part","_law_prime"]) rfl rfl (by kernel_rfl)) (c6 K (pv 7))
  (fun _ _ _ _ _=>(aj (i:=0) (show List.Nodup (["_law_part","_law_prime"]:List Str) by decide +kernel) rfl (by trivial)))
  (fun _ _ _ _ _=>aM)
  (fun _ _ _ _ _=>(pe_or (fE n5 (pv 0) ai (aD _)) (gl (fE t0 (pv 0) (pv 1) (aD _)))))) ad))))))
  (ae (ar (pv 4)))
  aE))))
 (aa (ax (i:=8) ND rfl (by trivial) (aX rfl (ak (nT:=1) (js:=[]) (N':=["_law_row"]) rfl rfl (by kernel_rfl)) (c6 K (pv 1))
  (fun _ _ _ _ _=>(aj (i:=0) (show List.Nodup (["_law_row"]:List Str) by decide +kernel) rfl (by trivial)))
  (fun _ _ _ _ _=>aM)
  (fun _ _ _ _ _=>(bK (xC K) (pv 0) ai (fun _ _=>rfl)))))
 (ae (ar (wZ K rfl rfl T.n_min my (a8 (eS rfl (ak (nT:=1) (js:=[8]) (N':=["_law_number","_law_known"]) rfl rfl (by kernel_rfl)) (gL (pv 0))
  (fun _ _ _ _ _=>(aj (i:=0) (show List.Nodup (["_law_number","_law_known"]:List Str) by decide +kernel) rfl (by trivial)))
  (fun _ _ _ _ _=>(dQ (aw (rX K) (pv 0) (pv 1) (by with_unfolding_all rfl))))
  (fun _ _ _ _ _=>(pv 0))) ad) (wW bD pk_nil)))))),?_⟩
  refine⟨_,rfl,tl,rfl,⟨_,SqL.of hts⟩,c8 (K:=K) (a:=tl) (xs:=ts) (fun i σ H'=>(∃ o4 o5 o6 o7,σ=[some (.ref d),some (.ref tl),some (.int many),some (.int p),o4,o5,o6,o7,none])/\Same H H'/\∀ m∈(Rm R many).take i,cF rows p m=false)
   ⟨⟨none,none,none,none,rfl⟩,Same.refl _,by simp⟩ (fun i σ H' _ h=>SqL.of (h.2.1 _ _ hts)) ?_ ?_⟩
  ·rintro i x σ H2 ex ⟨⟨o4,o5,o6,o7,rfl⟩,e2,hh⟩
   obtain⟨r,er,b,rfl,hb⟩:=Paired.at hp ex
   have em:(Rm R many)[i]?=some (r.1,cf R r.2.1 many):=by
    unfold Rm
    rw[yf,er]
    rfl
   have tk:(Rm R many).take (i+1)=(Rm R many).take i++[(r.1,cf R r.2.1 many)]:=by rw[za,em];rfl
   have P2:=PA.mono e2
   have found:cF rows p (r.1,cf R r.2.1 many)=true->∀ H3,Same H2 H3->Q (.int r.1) H3:=fun hb' H3 e3=>by
    refine q (some r.1) H3 (e2.trans e3) (.inl ⟨(r.1,cf R r.2.1 many),?_,rfl⟩)
    rw[Ak]
    obtain⟨hi,e6⟩:=yd.mp em
    refine⟨hb',i,hi,e6,fun j hj=>?_⟩
    rw[hh _ (zD.mpr ⟨j,by omega,rfl⟩)]
    rfl
   refine⟨b,[.int r.1,.str r.2.1,.str r.2.2],rfl,SqT.of (e2 _ _ hb),rfl,_,_,rfl,_,_,rfl,_,[],rfl,rfl,?_⟩
   refine⟨_,rfl,d,rfl,.inl ⟨_,.inl P2.dict⟩,_,rfl,_,rfl,(by show 1<=sizeLine;decide),fun lp H3 e3 h3 hlp=>⟨_,DGet.k (k:=Sum.inl r.1) (e3 _ _ P2.dict),?_⟩⟩
   obtain⟨la,ela,hla,lal⟩:∃ la,(b7 (aI rows) (Sum.inl r.1)).getD (.ref lp)=.ref la/\H3 la=some (.lst ((lm rows p r.1).map V.int))/\(lm rows p r.1).length<=1000:=by
    rw[cu]
    unfold lm
    cases hr':bb rows r.1 with
    | none=>exact⟨lp,rfl,hlp,by show 1<=1000;decide⟩
    | some y=>exact⟨y.2.1,rfl,e3 _ _ (P2.row y (c9 hr').1),hln y (c9 hr').1⟩
   rw[ela]
   have hbm:=sL rows p (r.1,cf R r.2.1 many)
   generalize lm rows p r.1=vs at hla lal hbm
   have e23:=e2.trans e3
   refine⟨_,rfl,la,_,rfl,.inl (SqL.of hla),_,rfl,_,rfl,_,rfl,tl,r.2.1,many,R,rfl,⟨ts,e23 _ _ hts,Paired.mapP hp fun v r ⟨b,eb,hb⟩=>⟨b,eb,e23 _ _ hb⟩⟩,hz,fun H4 e4=>⟨rfl,_,rfl,?_⟩⟩
   rw[y9]
   by_cases hw:(vs.length:Int)=cf R r.2.1 many
   case neg=>
    rw[yj (show ¬ V.int (vs.length:Int)=V.int (cf R r.2.1 many) from fun z=>hw (by injection z))]
    refine bA ⟨_,rfl,found ?_ H4 (e3.trans e4)⟩
    rw[hbm]
    unfold dJ
    rw[yj hw]
    rfl
   rw[ye (show V.int (vs.length:Int)=V.int (cf R r.2.1 many) by rw[hw])]
   refine bv ?_
   refine⟨_,rfl,la,rfl,⟨_,SqL.of (e4 _ _ hla)⟩,fO (fun i=>.bl (decide (vs.getD i 0<0) || decide (p<=vs.getD i 0))) (e4 _ _ hla) (by rw[y9];exact lal) (fun i x H5 ex e5=>?_) (fun l H5 h5 e5 hl5=>?_)⟩
   ·obtain⟨y,ey,rfl⟩:=yG.mp (yf▸ex)
    rw[aH ey]
    refine⟨_,rfl,_,_,rfl,rfl,_,rfl,?_⟩
    by_cases c1:y<0
    ·rw[ye c1]
     exact bA ⟨by rw[Bool.true_or],Same.refl _⟩
    ·rw[yj c1,By]
     exact bv ⟨_,rfl,_,rfl,_,_,rfl,rfl,rfl,Same.refl _⟩
   have ef:(List.range (vs.map V.int).length).map (fun i=>V.bl (decide (vs.getD i 0<0) || decide (p<=vs.getD i 0)))=(vs.map fun y=>decide (y<0) || decide (p<=y)).map V.bl:=by
    rw[y9,yq]
    exact iB (f:=fun y:Int=>V.bl (decide (y<0) || decide (p<=y)))
   rw[ef]at hl5
   refine⟨l,_,rfl,SqL.of hl5,_,rfl,?_⟩
   rw[xX]
   have e35:=(e3.trans e4).trans e5
   cases hall:vs.all (dU p) with
   | true=>
    refine bv ⟨⟨_,_,_,_,rfl⟩,e2.trans e35,fun m' hm'=>?_⟩
    rw[tk]at hm'
    rcases yE.mp hm' with z|z
    ·exact hh m' z
    ·rw[yL.mp z,hbm]
     unfold dJ
     rw[ye hw,hall]
     rfl
   | false=>
    refine bA ⟨_,rfl,found ?_ H5 e35⟩
    rw[hbm]
    unfold dJ
    rw[hall,Bool.and_false]
    rfl
  ·rintro σ H2 ⟨⟨o4,o5,o6,o7,rfl⟩,e2,hh⟩
   have nob:(Rm R many).find? (cF rows p)=none:=by
    rw[zc]
    intro m hm
    rw[zK (by unfold Rm;rw[y9,hl];exact yi _)]at hh
    rw[hh m hm]
    exact yv
   have P2:=PA.mono e2
   refine⟨_,rfl,tl,rfl,⟨_,SqL.of (e2 _ _ hts)⟩,cM (fun i=>(R.getD i (0,"","")).1) (e2 _ _ hts) (by omega) (fun i x H3 ex e3=>?_) (fun lk H3 h3 e3 hlk=>?_)⟩
   ·obtain⟨r,er,b,rfl,hb⟩:=Paired.at hp ex
    exact⟨_,rfl,b,_,0,.int r.1,rfl,rfl,SqT.of (e3 _ _ (e2 _ _ hb)),rfl,by rw[aH er],Same.refl _⟩
   have ek:(List.range ts.length).map (fun i=>(R.getD i (0,"","")).1)=R.map (·.1):=by
    rw[hl]
    exact iB (f:=fun r:LT=>r.1)
   rw[ek]at hlk
   have P3:=P2.mono e3
   refine⟨_,rfl,d,_,rfl,P3.dict,fun o2 M2 hM2=>?_⟩
   have hpl:(aI rows).length=rows.length:=by unfold aI;rw[y9]
   have nkd:lk≠d:=bn hlk P3.dict (fun z=>nomatch z)
   refine iL (keep:=fun i=>!decide ((rows.getD i (0,0,[])).1∈R.map (·.1))) (g:=fun i=>.int (rows.getD i (0,0,[])).1) a9 (by rw[hpl];exact hrz) (fun i kv H6 ek e6=>?_) (fun l H6 hl0 e6 hl=>?_)
   ·have hi:i<rows.length:=by rw[<- hpl];exact (yd.mp ek).1
    have er:rows[i]?=some rows[i]:=yb hi
    have gd:rows.getD i (0,0,[])=rows[i]:=by rw[yk,er];rfl
    have ekv:kv=((Sum.inl rows[i].1:Key),V.ref rows[i].2.1):=by
     unfold aI at ek
     rw[yf,er]at ek
     exact (Option.some.inj ek).symm
    subst ekv
    rw[gd]
    refine⟨_,rfl,_,rfl,lk,_,rfl,.inl (SqL.of (e6 _ _ (by rw[af nkd];exact hlk))),rfl,nI _,_,rfl,?_⟩
    rw[if_pos rfl]
    have iv:inV (kV ((Sum.inl rows[i].1:Key),V.ref rows[i].2.1).1) ((R.map (·.1)).map V.int)=decide (rows[i].1∈R.map (·.1)):=by
     show inV (V.int rows[i].1) ((R.map (·.1)).map V.int)=_
     rw[m8]
    rw[iv]
    cases hb:decide (rows[i].1∈R.map (·.1)) with
    | true=>exact bv ⟨rfl,Same.refl _⟩
    | false=>exact bA ⟨_,rfl,rfl,rfl,Same.refl _⟩
   ·refine⟨d,o2,_,hM2,e6 _ _ a9,?_⟩
    have odd:((List.range (aI rows).length).filter fun i=>!decide ((rows.getD i (0,0,[])).1∈R.map (·.1))).map (fun i=>V.int (rows.getD i (0,0,[])).1)=(fH (Rm R many) rows).map V.int:=by
     rw[hpl]
     rw[cJ rows (fun r=>!decide (r.1∈R.map (·.1))) (fun r=>V.int r.1) _ _ fun i x hx=>by
      rw[yk,hx]
      exact⟨rfl,rfl⟩]
     unfold fH
     rw[pB,AL,yq]
     rfl
    rw[odd]at hl
    have nld:l≠d:=fun z=>by rw[z,a9]at hl0;cases hl0
    have e37:Same H3 (upd H6 d (.dK (aI rows))):=bV P3.dict e6
    have hl7:(upd H6 d (.dK (aI rows))) l=some (.lst ((fH (Rm R many) rows).map V.int)):=by rw[af nld];exact hl
    generalize upd H6 d (.dK (aI rows))=H7 at e37 hl7
    refine⟨l,_,.non,rfl,rfl,SqL.of hl7,fun z=>?_,fun k hk hk2=>?_⟩
    ·exact q none H7 (e2.trans (e3.trans e37)) ⟨nob,z⟩
    ·exact q (some k) H7 (e2.trans (e3.trans e37)) (.inr ⟨nob,hk,hk2⟩)
end
end K52
namespace L2
open PySem PySem.Spec PyProof.Rows PySem.W
section
variable {X : Cx}
theorem isiTd (K:Frag)(hK:X.K=K:=by rfl):CallR X (.builtin "isinstance") (fun xs H Q=>∃ (ea D dx tp:Addr)(Cs:List Addr)(b:Bool),xs=[.ref ea,.ref tp]/\H ea=some (sC ea (.ref D) dx)/\pD K D/\H tp=some (.tup (Cs.map V.ref))/\kitAny K (.ref D) (Cs.map Value.ref)=some b/\Q (.bl b) H):=by
 subst hK
 intro pins s σ H xs us Q I r h
 obtain⟨ea,D,dx,tp,Cs,b,rfl,he,T,ht,e,q⟩:=h
 obtain⟨u,v,rfl,r1,r2⟩:=jR r
 cases r1
 cases r2
 obtain⟨_,its,rv,⟨oc,od,oda,osl⟩,ho,hcl,n,hd⟩:=(show ObjOk X.prog X.w H s.heap tp (.tup (Cs.map V.ref)) from I.hok tp _ ht)
 have ei:=jm rv
 subst ei
 dsimp only at hcl hd
 subst hcl
 subst hd
 exact kia_tup (eY T) I.kIn (mh I he) ho e (fun z=>nomatch z) fun tk=>⟨.bl b,H,I.tok tk,rfl,q⟩
theorem fldXK {X:Cx}(K:PySem.W.Frag){e:Expr}{f:Str}{pos:Pos}{ta:TE} (he:PE X e ta) (hb:attributeBase e f X.env (eval e X.env)=eval e X.env) (h:X.K=K:=by rfl):PE X (.Attribute e f pos) (tFldX K ta f):=h▸x6 he hb
end
end L2
namespace K52
open PySem L2
open PyProof.Rows (boot_list boot_int boot_bool boot_tuple boot_str boot_dict boot_all boot_sorted)
structure TxtW (K : PySem.W.Frag) (mg : Str -> Option Value) (aN aP PE_ : Addr) : Prop where
  c_PostError : mg "PostError" = some (.ref PE_)
  e1 : PySem.W.exmOne K (.ref aN) (.ref PE_) = some true
  e2 : PySem.W.exmOne K (.ref aP) (.ref PE_) = some true
section
variable {P : Program}{w : World}{K : PySem.W.Frag}{mg : Str -> Option Value}{base : Heap}{C aN aP : Addr}
def kS (c:Cl)(aN aP:Addr):Sp:=fun vs H Q _=>∃ (n d dp dt:Addr)(S:NS)(rows:List aO)(many:Nat)(p:Int),vs=[.ref n,.ref d,.int (many:Int),.int p]/\kJ c H n d S rows many p/\NetAt c H n dp dt S/\wx (aG S)/\(aG S).length<64/\many<=100/\
 (∀ g∈S.lis,g∈S.names/\(∀ k∈S.into g,k∈(aG S).map (·.1))/\(S.into g).length<=100)/\
 (¬ (p<=1000000/\My.isP p=true)->∀ ea H',Same H H'->H' ea=some (w4 ea (.ref aN))->Q (.ref ea) H')/\
 (p<=1000000->My.isP p=true->∀ ms:List (Int×Int),ms.Perm (wants S many)->(ms.map (·.1)).Pairwise (·<=·)->
  (∀ k,DueIs ms rows p (some k)->∀ ea dx H',Same H H'->H' ea=some (sC ea (.ref aP) dx)->H' dx=some (.xd [("number",.int k)])->Q (.ref ea) H')/\
  (DueIs ms rows p none->∀ H',Same H H'->Q .non H'))
abbrev oA:Stmt:=top 70
theorem sc_Lword:am ["_law_net_here","_law_plan","_law_many","_law_prime","_law_word_here","e"] ["_law_net_here","_law_plan","_law_many","_law_prime"] (ag oA):=⟨rfl,rfl,rfl,by decide +kernel,rfl,by decide +kernel,by decide +kernel⟩
theorem vB {c:Cl}{PE_:Addr}{f:Addr}{fd:FuncData} (F:Fun K "_law_word" "_law_word" oA f fd) (T:TxtW K mg aN aP PE_) (D_judgedd:wy P w K mg base 8 "judged" ["net","plan","many","prime","fallen"] [.non] (gG c C aN aP)):FnOk P w K mg base CX0 9 f fd ["_law_net_here","_law_plan","_law_many","_law_prime"] (kS c aN aP):=by
 refine F.ok sc_Lword (fun vs H Q E h=>?_) (fun cdv A outer s H vs Q E hr h=>?_)
 ·obtain⟨n,d,dp,dt,S,rows,many,p,rfl,_⟩:=h
  rfl
 ·obtain⟨n,d,dp,dt,S,rows,many,p,rfl,ask,N,fits,few,hm,lis,q1,q2⟩:=h
  have ND:=sc_Lword.nd
  refine⟨_,(aa (ax (i:=4) ND rfl (by trivial) bD)
 (aa (ps_try (i:=5) ⟨rfl,rfl,rfl⟩ ND rfl rfl rfl T.c_PostError
  (fun _ _=>(ae (aU (uc on_try D_judgedd (hr.mono (by decide)) rfl (a8 (pv 0) (a8 (pv 1) (a8 (pv 2) (a8 (pv 3) ad))))))))
  (fun _ _=>(ae (ax (i:=4) ND rfl (by trivial) (pv 5)))))
 (ae (ar (pv 4))))),?_⟩
  refine⟨_,rfl,_,rfl,_,rfl,_,rfl,n,d,dp,dt,S,rows,many,p,.non,none,rfl,ask,N,fits,few,hm,rfl,(fun ks z=>nomatch z),lis,fun hn H1 e1=>⟨T.e1,fun ea hea=>?_⟩,fun hp hP ms pm pw=>?_⟩
  ·exact⟨_,rfl,_,rfl,q1 hn ea _ (az e1 hea) a9⟩
  ·obtain⟨q3,q4⟩:=q2 hp hP ms pm pw
   have bad:∀ k,DueIs ms rows p (some k)->∀ dx H1,Same H H1->H1 dx=some (.xd [("number",.int k)])->∀ ea,H1 ea=none->Q (.ref ea) (upd H1 ea (vY ea (.ref aP) (some dx))):=fun k hk dx H1 e1 hd ea hea=>q3 k hk ea dx _ (az e1 hea) a9 (by rw[af (ah hd hea)];exact hd)
   refine⟨fun m hm' dx H1 e1 hd=>⟨T.e2,fun ea hea=>⟨_,rfl,_,rfl,bad m.1 (.inl ⟨m,hm',rfl⟩) dx H1 e1 hd ea hea⟩⟩,fun nb k hk hk2 dx H1 e1 hd=>⟨T.e2,fun ea hea=>⟨_,rfl,_,rfl,bad k (.inr ⟨nb,hk,hk2⟩) dx H1 e1 hd ea hea⟩⟩,fun nb no e H1 e1=>⟨_,rfl,q4 ⟨nb,no⟩ H1 e1⟩⟩
end
end K52
namespace L2
open PySem PySem.Spec PyProof.Rows
theorem cV {X:Cx}{i:Int}{j:Nat}{p:Pos}{es:List Expr}{t:TA} (hr:PA X es t):PA X (.Constant (.int i) j p::es) (bF (tC (.int i)) t):=a8 ai hr
theorem vt {X:Cx}{l r:Expr}{o:Operator}{p:Pos}{es:List Expr}{te:TE}{t:TA} (h:PE X (.BinOp l o r p) te) (hr:PA X es t):PA X (.BinOp l o r p::es) (bF te t):=a8 h hr
theorem vq {X:Cx}{l:Expr}{o:UnaryOp}{p:Pos}{es:List Expr}{te:TE}{t:TA} (h:PE X (.UnaryOp o l p) te) (hr:PA X es t):PA X (.UnaryOp o l p::es) (bF te t):=a8 h hr
theorem xb {X:Cx}{i1 i2 i3 i4 i5 i6 i7 i10 a b u:Int}{j1 j2 j3 j4 j5 j6 j7 j8 j9 j10 j11:Nat}{p1 p2 p3 p4 p5 p6 p7 p8 p9 p10 p11 p12 p13:Pos}:PA X [.Constant (.int i1) j1 p1,.Constant (.int i2) j2 p2,.Constant (.int i3) j3 p3,.Constant (.int i4) j4 p4,.Constant (.int i5) j5 p5,.Constant (.int i6) j6 p6,.Constant (.int i7) j7 p7,.BinOp (.Constant (.int a) j8 p8) .Pow (.Constant (.int b) j9 p9) p10,.UnaryOp .USub (.Constant (.int u) j10 p11) p12,.Constant (.int i10) j11 p13] (bF (tC (.int i1)) (bF (tC (.int i2)) (bF (tC (.int i3)) (bF (tC (.int i4)) (bF (tC (.int i5)) (bF (tC (.int i6)) (bF (tC (.int i7)) (bF (tOp (rI CPow fun i j=>.int (i ^ j.toNat)) (tC (.int a)) (tC (.int b))) (bF (tUn (rU fun i=>.int (-i)) (tC (.int u))) (bF (tC (.int i10)) kg)))))))))):=by
 refine cV ?_
 refine cV ?_
 refine cV ?_
 refine cV ?_
 refine cV ?_
 refine cV ?_
 refine cV ?_
 refine vt (aF vw ai ai) ?_
 refine vq (pe_un uX ai) ?_
 refine cV ?_
 exact ad
theorem PA.of_eq {X:Cx}{es es':List Expr}{t:TA} (h:es=es') (k:PA X es' t):PA X es t:=h▸k
section
variable {K : PySem.W.Frag}{js : List Nat}{te : TE}{σ : St}{F : Addr -> Hp -> Prop}{H : Hp}
theorem qZ {o:Obj}{d:Addr}{kvs:List (Key×V)} (R:Nat->Hp->V->Prop) (mono:∀ i H H' v,Same H H'->R i H v->R i H' v) (hfr:H d=some (.frz o (.dK kvs))) (hz:kvs.length<=1000)
  (hs:∀ (i:Nat)(kv:Key×V) H2,kvs[i]?=some kv->Same H H2->te (some (kV kv.1)::some kv.2::bz σ js) H2 fun v H5=>(∀ l,H l=none->H2 l≠none->R i (hide l H5) v)/\Same H2 H5)
  (hd:∀ l H' vs,H l=none->Same H H'->H' l=some (.lst vs)->vs.length=kvs.length->(∀ i v,vs[i]?=some v->R i (hide l H') v)->F l H'):bi 2 js (qM K 2 (dM (bd 0) (dM (bd 1) sA))) fU te σ F (Iti o d) H:=by
 intro l hl0
 refine⟨fun i m σ' H2=>m=kvs.length - i/\i<=kvs.length/\(∃ o o2,σ'=o::o2::bz σ js)/\Same H H2/\∃ vs:List V,vs.length=i/\H2 l=some (.lst vs)/\∀ i v,vs[i]?=some v->R i (hide l H2) v,⟨kvs.length,by simp,yP _,⟨none,none,rfl⟩,az (Same.refl _) hl0,[],rfl,a9,fun i v h=>by simp at h⟩,?_⟩
 rintro i m σ' H2 ⟨rfl,hi,⟨o',o2,rfl⟩,e,vs,hlen,hl,hp⟩
 have q:H2 d=some (.frz o (.dK kvs)):=e _ _ hfr
 by_cases hlt:i<kvs.length
 ·refine .inr ⟨⟨kvs,kvs[i],q,by simp[hlt]⟩,fun x H3 y=>?_⟩
  obtain⟨T,hT,rfl,kv,ex,rfl⟩:=y
  have ek:=ex kvs q
  refine⟨T,[kV kv.1,kv.2],rfl,SqT.of a9,rfl,_,[kv.2],rfl,_,[],rfl,rfl,?_⟩
  have eT:Same H2 (upd H2 T (.tup [kV kv.1,kv.2])):=az (Same.refl _) hT
  generalize upd H2 T (.tup [kV kv.1,kv.2])=H3 at eT
  refine⟨fun H4=>False,fun v H5=>(∀ l,H l=none->H3 l≠none->R i (hide l H5) v)/\Same H3 H5,fun H4 z=>z.elim,fun v H5 ⟨pv,e5⟩=>?_,hs i kv H3 ek (e.trans eT)⟩
  have e25:=eT.trans e5
  refine⟨_,e25 _ _ hl,by rw[hlen];exact yH hi (yH hz (by decide)),_,?_,rfl,hlt,⟨_,_,rfl⟩,au (e.trans e25) hl0,vs++[v],by rw[yu,hlen];rfl,a9,fun j w hj=>?_⟩
  ·omega
  ·rw[m9]
   by_cases c:j<vs.length
   ·rw[yK c]at hj
    exact mono _ _ _ _ (jL e25) (hp j w hj)
   ·rw[yF (by omega)]at hj
    by_cases c2:j - vs.length=0
    ·rw[c2]at hj
     have:v=w:=by simpa using hj
     have ej:j=i:=by omega
     rw[ej,<- this]
     exact pv l hl0 (by rw[eT _ _ hl];exact fun z=>nomatch z)
    ·rw[yo (by simp;omega)]at hj;cases hj
 ·have ei:i=kvs.length:=by omega
  subst ei
  exact .inl ⟨⟨kvs,q,yi _⟩,hd l H2 vs hl0 e hl hlen hp⟩
end
end L2
namespace K52
open PySem L2
theorem pX {H:Hp}:∀ {vs:List V}{rows:List aO},Paired (fun v (r:aO)=>∃ b g,v=V.ref b/\H b=some (.tup [.int r.1,.ref g])/\H g=some (.lst (r.2.2.map V.int))) vs rows->
  ∃ ws:List aO,ws.map (fun r=>(r.1,r.2.2))=rows.map (fun r=>(r.1,r.2.2))/\Paired (fun v (r:aO)=>∃ b,v=V.ref b/\H b=some (.tup [.int r.1,.ref r.2.1])) vs ws/\∀ r∈ws,H r.2.1=some (.lst (r.2.2.map V.int))
 | _,_,.nil=>⟨[],rfl,.nil,fun _ h=>(yJ h).elim⟩
 | _,m::_,.cons ⟨b,g,e,hb,hg⟩ t=>by
  obtain⟨ws,h1,h2,h3⟩:=pX t
  refine⟨(m.1,g,m.2.2)::ws,by rw[yN,yN,h1],.cons ⟨b,e,hb⟩ h2,fun r hr=>?_⟩
  rcases yB.mp hr with rfl|hr
  ·exact hg
  ·exact h3 r hr
section
variable {S : NS}{ord : List Str}{R : List LT}
theorem LN.wide (h:LN S ord R)(many:Int)(x:Str):wide many (dS S x)=cf R x many:=by
 unfold dS cf
 rw[h.home]
 by_cases c:x=("h":Str)
 ·rw[if_pos (by rw[c]),if_pos c]
  rfl
 ·rw[if_neg (fun z=>c (by injection z)),if_neg c,h.into]
  rfl
theorem LN.wants (h:LN S ord R)(many:Int):(K52.wants S many).Perm (Rm R many):=by
 have e1:K52.wants S many=(aG S).map fun r=>(r.1,K52.wide many r.2):=rfl
 rw[e1]
 refine (h.mixes.map _).trans (.of_eq ?_)
 unfold Rm
 rw[yq]
 have:=congrArg (List.map fun r:LT=>(r.1,cf R r.2.1 many)) h.ties
 rw[yq]at this
 rw[<- this]
 refine zn fun t _=>?_
 show (t.1,K52.wide many (dS S t.2.1))=(t.1,cf R t.2.1 many)
 rw[h.wide]
theorem LN.ms (h:LN S ord R){many:Int}{ms:List (Int×Int)} (p:ms.Perm (K52.wants S many)) (pw:(ms.map (·.1)).Pairwise (·<=·)):ms=Rm R many:=by
 have p2:=p.trans (h.wants many)
 have nd:((Rm R many).map (·.1)).Pairwise (·<·):=by
  rw[pB]
  exact h.asc
 refine p2.eq_of_pairwise (le:=fun a b=>a.1<=b.1) (fun a b ha hb h1 h2=>?_) (zV.mp pw) ((zV.mp nd).imp fun h=>Int.le_of_lt h)
 have e:a.1=b.1:=Int.le_antisymm h1 h2
 have ha:=p2.mem_iff.mp ha
 obtain⟨i,hi,e1⟩:=Ah ha
 obtain⟨j,hj,e2⟩:=Ah hb
 have nr:((Rm R many).map (·.1)).Nodup:=nd.imp fun h=>Int.ne_of_lt h
 have:i=j:=cX nr (x:=a.1) (by rw[yf,yb hi,e1];rfl) (by rw[yf,yb hj,e2];exact congrArg some e.symm)
 subst this
 rw[<- e1,<- e2]
end
theorem qx {n e:Int}(h:n<2\/(2<=e/\e * e<=n/\Int.fmod n e=0)):My.isP n=false:=by
 cases hp:My.isP n with
 | false=>rfl
 | true=>
  obtain⟨h1,h2⟩:=(My.isP_iff n).mp hp
  rcases h with h|⟨a,b,c⟩
  ·omega
  ·exact absurd c (h2 e a b)
theorem u7 (i:Int)(h0:0<=i)(h8:i<4):∃ p:Int,atI [V.int 2,V.int 3,V.int 7,V.int 999983] i=some (.int p)/\My.isP p=true/\0<p/\p<=1000000:=by
 obtain⟨v,hv,ha⟩:=gB (xs:=[V.int 2,V.int 3,V.int 7,V.int 999983]) h0 h8
 have:=yh hv
 simp only[yB,yJ,AT]at this
 rcases this with rfl|rfl|rfl|rfl
 ·exact⟨_,ha,My.isP_chk (p:=2) (by decide +kernel) (by decide),by decide,by decide⟩
 ·exact⟨_,ha,My.isP_chk (p:=3) (by decide +kernel) (by decide),by decide,by decide⟩
 ·exact⟨_,ha,My.isP_chk (p:=7) (by decide +kernel) (by decide),by decide,by decide⟩
 ·exact⟨_,ha,My.last_prime,by decide,by decide⟩
theorem xw (i:Int)(h0:0<=i)(h8:i<10):∃ p:Int,atI [V.int 0,V.int 1,V.int 4,V.int 9,V.int 25,V.int 999981,V.int 1000003,V.int ((10:Int) ^ (30:Int).toNat),V.int (-7),V.int 6] i=some (.int p)/\¬ (p<=1000000/\My.isP p=true):=by
 obtain⟨v,hv,ha⟩:=gB (xs:=[V.int 0,V.int 1,V.int 4,V.int 9,V.int 25,V.int 999981,V.int 1000003,V.int ((10:Int) ^ (30:Int).toNat),V.int (-7),V.int 6]) h0 h8
 have:=yh hv
 simp only[yB,yJ,AT]at this
 have no:∀ {n:Int},My.isP n=false->¬ (n<=1000000/\My.isP n=true):=fun h z=>by rw[h]at z;exact absurd z.2 yv
 rcases this with rfl|rfl|rfl|rfl|rfl|rfl|rfl|rfl|rfl|rfl
 ·exact⟨_,ha,no (qx (e:=2) (.inl (by decide)))⟩
 ·exact⟨_,ha,no (qx (e:=2) (.inl (by decide)))⟩
 ·exact⟨_,ha,no (qx (e:=2) (.inr (by decide)))⟩
 ·exact⟨_,ha,no (qx (e:=3) (.inr (by decide)))⟩
 ·exact⟨_,ha,no (qx (e:=5) (.inr (by decide)))⟩
 ·exact⟨_,ha,no (qx (e:=3) (.inr (by decide)))⟩
 ·exact⟨_,ha,fun z=>absurd z.1 (by decide)⟩
 ·exact⟨_,ha,fun z=>absurd z.1 (by decide)⟩
 ·exact⟨_,ha,no (qx (e:=2) (.inl (by decide)))⟩
 ·exact⟨_,ha,no (qx (e:=2) (.inr (by decide)))⟩
def d9 (rows:List aO):List (Key×List Int):=rows.map fun r=>((Sum.inl r.1:Key),r.2.2)
theorem jU {α β γ:Type}{F:α->β->Prop} (f:γ->α) (g:γ->β):∀ zs:List γ,(∀ z∈zs,F (f z) (g z))->Paired F (zs.map f) (zs.map g)
 | [],_=>.nil
 | z::zs,h=>.cons (h z (by simp)) (jU f g zs fun y hy=>h y (by simp[hy]))
theorem PlanAt.ds {K:PySem.W.Frag}{H:Hp}{d:Addr}{rows:List aO} (h:PlanAt H d rows):vP (jK K isI) H (.ref d) (d9 rows):=
 ⟨d,aI rows,rfl,h.dict,jU _ _ rows fun r hr=>⟨rfl,je (h.row r hr)⟩⟩
theorem uu (rows:List aO)(n:Int):look (d9 rows) (Sum.inl n)=(bb rows n).map (·.2.2):=by
 unfold look d9 bb
 induction rows with
 | nil=>rfl
 | cons x ws ih=>
  rw[yN,yQ,yQ]
  by_cases h:x.1=n
  ·rw[ye h,ye (show (Sum.inl x.1:Key)=Sum.inl n by rw[h])]
   rfl
  ·rw[yj h,yj (show ¬ (Sum.inl x.1:Key)=Sum.inl n from fun z=>h (Sum.inl.inj z))]
   exact ih
theorem tX {rows:List aO}(nd:(rows.map (·.1)).Nodup):kW (d9 rows) (d9 rows)=true:=by
 unfold kW
 rw[z7,zJ]
 refine⟨by simp,fun d hd=>?_⟩
 unfold d9 at hd
 obtain⟨r,hr,rfl⟩:=yw.mp hd
 rw[zU,uu,cS nd r hr]
 rfl
theorem wj {a b:List aO}(h:a.map (fun r=>(r.1,r.2.2))=b.map (fun r=>(r.1,r.2.2))):d9 a=d9 b:=by
 have:=congrArg (List.map fun g:Int×List Int=>((Sum.inl g.1:Key),g.2)) h
 rw[yq,yq]at this
 exact this
theorem lq {n:Int}:∀ {a b:List aO},a.map (fun r=>(r.1,r.2.2))=b.map (fun r=>(r.1,r.2.2))->(bb a n).map (·.2.2)=(bb b n).map (·.2.2)
 | [],[],_=>rfl
 | [],_::_,h=>by cases h
 | _::_,[],h=>by cases h
 | x::a,y::b,h=>by
  rw[yN,yN]at h
  obtain⟨h1,h2⟩:=List.cons.inj h
  have k1:x.1=y.1:=congrArg (fun z:Int×List Int=>z.1) h1
  have k2:x.2.2=y.2.2:=congrArg (fun z:Int×List Int=>z.2) h1
  have ih:=lq (n:=n) h2
  unfold bb at ih ⊢
  rw[yQ,yQ,k1]
  by_cases c:y.1=n
  ·rw[ye c]
   show some x.2.2=some y.2.2
   rw[k2]
  ·rw[yj c]
   exact ih
theorem qQ {ms:List (Int×Int)}{p:Int}{a b:List aO} (h:a.map (fun r=>(r.1,r.2.2))=b.map (fun r=>(r.1,r.2.2))):∀ o,DueIs ms a p o->DueIs ms b p o:=by
 have h1:cF a p=cF b p:=by
  funext m
  rw[sL,sL]
  unfold lm
  rw[lq h]
 have h2:fH ms a=fH ms b:=by
  unfold fH
  have:=congrArg (List.map Prod.fst) h
  rw[yq,yq]at this
  rw[show a.map (·.1)=b.map (·.1) from this]
 intro o ho
 cases o with
 | none=>unfold DueIs at ho ⊢;rw[<- h1,<- h2];exact ho
 | some k=>unfold DueIs at ho ⊢;rw[<- h1,<- h2];exact ho
theorem DueIs.one {ms:List (Int×Int)}{rows:List aO}{p:Int}:∀ {a b:Option Int},DueIs ms rows p a->DueIs ms rows p b->a=b
 | none,none,_,_=>rfl
 | none,some k,⟨h1,h2⟩,h=>by
  rcases h with⟨m,e,_⟩|⟨_,hk,_⟩
  ·rw[h1]at e;cases e
  ·rw[h2]at hk;exact (yJ hk).elim
 | some k,none,h,⟨h1,h2⟩=>by
  rcases h with⟨m,e,_⟩|⟨_,hk,_⟩
  ·rw[h1]at e;cases e
  ·rw[h2]at hk;exact (yJ hk).elim
 | some k,some j,h,h'=>by
  rcases h with⟨m,e,rfl⟩|⟨n1,hk,hm⟩
  ·rcases h' with⟨m',e',rfl⟩|⟨n1',_,_⟩
   ·rw[e]at e';cases e';rfl
   ·rw[n1']at e;cases e
  ·rcases h' with⟨m',e',rfl⟩|⟨_,hj,hm'⟩
   ·rw[n1]at e';cases e'
   ·rw[Int.le_antisymm (hm j hj) (hm' k hk)]
theorem wm (ns:List Int)(lo hi:Option Int):∃ cs:List Int,jO (ns.map V.int) lo hi=cs.map V.int:=by
 unfold jO
 rw[<- List.map_drop,<- List.map_take]
 exact⟨_,rfl⟩
theorem uG (xs:List V):(jO xs (some 2) (some 10)).length<=8:=by
 unfold jO
 rw[show (some (2:Int))=some ((2:Nat):Int) from rfl,show (some (10:Int))=some ((10:Nat):Int) from rfl,HT.sIx_nat,HT.sIx_nat,yO,B9]
 omega
end K52
namespace K52
open PySem L2
open PyProof.Rows (boot_list boot_int boot_bool boot_tuple boot_str boot_dict boot_all boot_sorted)
theorem ky:bootBuiltins "ValueError"=some (.type "ValueError"):=by decide +kernel
structure TxtQ (K : PySem.W.Frag) (mg : Str -> Option Value) (aN aP aB : Addr) : Prop where
  n_range : mg "range" = none
  n_list : mg "list" = none
  n_dict : mg "dict" = none
  n_isinstance : mg "isinstance" = none
  n_ValueError : mg "ValueError" = none
  c_NoPrime : mg "NoPrime" = some (.ref aN)
  c_NoPlan : mg "NoPlan" = some (.ref aP)
  c_NoBack : mg "NoBack" = some (.ref aB)
  xN : pD K aN
  xP : ExcA K aP "number"
  k1 : PySem.W.kitOne K (.ref aN) (.ref aN) = some true
  k2 : PySem.W.kitOne K (.ref aN) (.type "ValueError") = some true
  k3 : PySem.W.kitAny K (.ref aN) [.ref aP, .ref aB] = some false
  k4 : PySem.W.kitOne K (.ref aP) (.ref aP) = some true
  k5 : PySem.W.kitAny K (.ref aP) [.ref aN, .ref aB] = some false
section
variable {P : Program}{w : World}{K : PySem.W.Frag}{mg : Str -> Option Value}{base : Heap}{aN aP aB : Addr}
def oa (K:PySem.W.Frag):Sp:=fun vs H Q _=>∃ (a:Addr)(ns:List Int),vs=[.ref a]/\SqL K H a (ns.map V.int)/\ns.length<=63/\∀ H',Q (.bl true) H'
abbrev mV:Stmt:=top 71
theorem sc_law:am ["_law_script","_law_first","_law_second","_law_net_here","_law_ties","_law_many","_law_good","_law_plan","_law_number","_law_one","_law_other","_law_turn","_law_prime","_law_handed","_law_word_here","_law_due_here"] ["_law_script"] (ag mV):=⟨rfl,rfl,rfl,by decide +kernel,rfl,by decide +kernel,by decide +kernel⟩
def elems:List Expr:=match aJ mV with|_::_::_::_::_::_::_::_::_::.If _ [.Assign _ (.Subscript (.List e _) _ _) _] _ _::_=>e|_=>[]
def tP (es:List Expr):List Stmt:=match aJ mV with|s0::s1::s2::s3::s4::s5::s6::s7::s8::.If t [.Assign tg (.Subscript (.List _ p) i sp) q] o ip::r=>s0::s1::s2::s3::s4::s5::s6::s7::s8::.If t [.Assign tg (.Subscript (.List es p) i sp) q] o ip::r|_=>[]
theorem ok_law {c:Cl}{f:Addr}{fd:FuncData} (F:Fun K "law" "law" mV f fd) (T:TxtQ K mg aN aP aB)
  (D_Lcell_at:Df P w K mg base 1 "_law_cell_at" ["_law_script","_law_k"] (g7 K)) (D_Lmix:Df P w K mg base 1 "_law_mix" ["_law_cell","_law_k"] kD) (D_Lnet:Df P w K mg base 5 "_law_net" ["_law_cells"] (om c)) (D_Lsize:Df P w K mg base 1 "_law_size" ["_law_ties","_law_one","_law_many"] iS)
  (D_Lspoil:Df P w K mg base 1 "_law_spoil" ["_law_plan","_law_numbers","_law_prime","_law_drawn"] ju) (D_Ldue:Df P w K mg base 2 "_law_due" ["_law_plan","_law_ties","_law_many","_law_prime"] oo) (D_Lword:Df P w K mg base 9 "_law_word" ["_law_net_here","_law_plan","_law_many","_law_prime"] (kS c aN aP)):FnOk P w K mg base CX0 10 f fd ["_law_script"] (oa K):=by
 refine F.ok sc_law (fun vs H Q E h=>?_) (fun cdv A outer s H vs Q E hr h=>?_)
 ·obtain⟨a,ns,rfl,_⟩:=h
  rfl
 ·obtain⟨a,ns,rfl,hS,_,q⟩:=h
  have ND:=sc_law.nd
  obtain⟨es,hes,hb⟩:∃ es:List Expr,es=elems/\aJ mV=tP es:=⟨elems,rfl,rfl⟩
  rw[hb]
  refine⟨_,(aa (ax (i:=1) ND rfl (by trivial) (aq D_Lcell_at (hr.mono (by decide)) rfl (a8 (pv 0) (a8 ai ad))))
 (aa (ax (i:=2) ND rfl (by trivial) (aq D_Lcell_at (hr.mono (by decide)) rfl (a8 (pv 0) (a8 ai ad))))
 (aa (rN (aq D_Lnet (hr.mono (by decide)) rfl (a8 (cU (pK K) (pv 0) (cP ai) (cP ai)) ad)) (gT K (n:=2) rfl (av (aj (i:=3) ND rfl (by trivial)) (av (aj (i:=4) ND rfl (by trivial)) bw))))
 (aa (ax (i:=5) ND rfl (by trivial) (aF dH ai (aF be (pv 1) ai)))
 (aa (ax (i:=6) ND rfl (by trivial) (bK (eZ K) (bg (a8 ai (a8 ai (a8 ai (a8 ai ad))))) (aF be (aF bZ (pv 1) ai) ai) (fun _ _=>rfl)))
 (aa (ax (i:=7) ND rfl (by trivial) gm)
 (aa (bN yV rfl (c6 K (pv 4)) (gT K (n:=3) rfl (av (aj (i:=8) ND rfl (by trivial)) (av (aj (i:=9) ND rfl (by trivial)) (av (aj (i:=10) ND rfl (by trivial)) bw))))
  (ae (cO (bc hr) (pv 7) (pv 8) (aX rfl (ak (nT:=1) (js:=[2,8]) (N':=["_law_k","_law_second","_law_number"]) rfl rfl (by kernel_rfl)) (cg rfl T.n_range (a8 (aq D_Lsize (hr.mono (by decide)) rfl (a8 (pv 4) (a8 (pv 9) (a8 (pv 5) ad)))) ad))
  (fun _ _ _ _ _=>(aj (i:=0) (show List.Nodup (["_law_k","_law_second","_law_number"]:List Str) by decide +kernel) rfl (by trivial)))
  (fun _ _ _ _ _=>aM)
  (fun _ _ _ _ _=>(aF be (aq D_Lmix (hr.mono (by decide)) rfl (a8 (aF bZ (pv 1) ai) (a8 (aF dH (aF gq ai (pv 2)) (pv 0)) ad))) ai))) rfl)))
 (aa (bN yV rfl (cg rfl T.n_range (a8 (bK (eZ K) (bg (a8 ai (a8 ai (a8 ai (a8 ai ad))))) (aF be (pv 2) ai) (fun _ _=>rfl)) ad)) (aj (i:=11) ND rfl (by trivial))
  (ae (aU (aq D_Lspoil (hr.mono (by decide)) rfl (a8 (pv 7) (a8 (aX rfl (ak (nT:=1) (js:=[]) (N':=["_law_row"]) rfl rfl (by kernel_rfl)) (c6 K (pv 4))
  (fun _ _ _ _ _=>(aj (i:=0) (show List.Nodup (["_law_row"]:List Str) by decide +kernel) rfl (by trivial)))
  (fun _ _ _ _ _=>aM)
  (fun _ _ _ _ _=>(bK (xC K) (pv 0) ai (fun _ _=>rfl)))) (a8 (pv 6) (a8 (aq D_Lmix (hr.mono (by decide)) rfl (a8 (pv 2) (a8 (aF dH ai (pv 11)) ad))) ad))))))))
 (aa (ax (i:=12) ND rfl (by trivial) (pv 6))
 (aa (eE (aw ci (aF be (aF bZ (pv 1) ai) ai) ai (aD _))
  (ae (ax (i:=12) ND rfl (by trivial) (bK (eZ K) (bg (PA.of_eq hes (@xb _ _ _ _ _ _ _ _ _ _ _ _ _ _ _ _ _ _ _ _ _ _ _ _ _ _ _ _ _ _ _ _ _ _ _ _))) (aF be (aq D_Lmix (hr.mono (by decide)) rfl (a8 (pv 1) (a8 ai ad))) ai) (fun _ _=>rfl))))
  aE)
 (aa (ax (i:=13) ND rfl (by trivial) (bY (bu rfl) rfl T.n_dict boot_dict (a8 (eS rfl (ak (nT:=2) (js:=[]) (N':=["_law_number","_law_row"]) rfl rfl (by kernel_rfl)) (vh (pv 7))
  (fun _ _ _ _ _=>(gT K (n:=2) rfl (av (aj (i:=0) (show List.Nodup (["_law_number","_law_row"]:List Str) by decide +kernel) rfl (by trivial)) (av (aj (i:=1) (show List.Nodup (["_law_number","_law_row"]:List Str) by decide +kernel) rfl (by trivial)) bw))))
  (fun _ _ _ _ _=>aM)
  (fun _ _ _ _ _=>(bC (a8 (pv 0) (a8 (bY (vI K) rfl T.n_list boot_list (a8 (pv 1) ad)) ad))))) ad)))
 (aa (ax (i:=14) ND rfl (by trivial) (aq D_Lword (hr.mono (by decide)) rfl (a8 (pv 3) (a8 (pv 13) (a8 (pv 5) (a8 (pv 12) ad))))))
 (aa (ba (aw (neDK K (w6 pi) (vS hr)) (pv 13) (pv 7) (aD _))
  (ae (ar gn))
  aE)
 (aa (ba (aw n0 (pv 12) (pv 6) (aD _))
  (ae (ar (fF (aA (isiE K) rfl T.n_isinstance b4 (a8 (pv 14) (a8 (bX (v:=.ref _) rfl T.c_NoPrime rfl) ad))) (fF (aA (isiE K) rfl T.n_isinstance b4 (a8 (pv 14) (a8 (kE (v:=.ty "ValueError") rfl T.n_ValueError ky rfl) ad))) (gl (rO (aA (isiT K) rfl T.n_isinstance b4 (a8 (pv 14) (a8 (bC (a8 (bX (v:=.ref _) rfl T.c_NoPlan rfl) (a8 (bX (v:=.ref _) rfl T.c_NoBack rfl) ad))) ad)))))))))
  aE)
 (aa (ax (i:=15) ND rfl (by trivial) (aq D_Ldue (hr.mono (by decide)) rfl (a8 (pv 7) (a8 (pv 4) (a8 (pv 5) (a8 (pv 12) ad))))))
 (aa (ba (aw oN (pv 15) bD (aD _))
  (ae (ar (fE oN (pv 14) bD (aD _))))
  aE)
 (ae (ar (fF (aA (isiEd K) rfl T.n_isinstance b4 (a8 (pv 14) (a8 (bX (v:=.ref _) rfl T.c_NoPlan rfl) ad))) (fF (rO (aA (isiTd K) rfl T.n_isinstance b4 (a8 (pv 14) (a8 (bC (a8 (bX (v:=.ref _) rfl T.c_NoPrime rfl) (a8 (bX (v:=.ref _) rfl T.c_NoBack rfl) ad))) ad)))) (gl (fE ci (fldXK K (pv 14) rfl) (pv 15) (aD _))))))))))))))))))))))),?_⟩
  refine⟨_,rfl,a,0,ns,rfl,by decide,hS,fun c0=>?_⟩
  refine⟨_,rfl,a,1,ns,rfl,by decide,hS,fun c1=>?_⟩
  obtain⟨cs,ecs⟩:=wm ns (some 2) (some 10)
  have csl:cs.length<=8:=by
   have:=uG (ns.map V.int)
   rw[ecs,y9]at this
   exact this
  refine⟨_,rfl,_,rfl,_,rfl,a,_,rfl,hS,fun L H0 e0 h0 hL=>?_⟩
  have hL:H0 L=some (.lst (cs.map V.int)):=by rw[<- ecs];exact hL
  refine⟨L,cs,rfl,hL,csl,fun t n tl dp dt H1 S R e1 ht0 ht N1 T1 X1 rl r8=>⟨t,[.ref n,.ref tl],rfl,SqT.of ht,rfl,_,_,rfl,_,[],rfl,rfl,?_⟩⟩
  have m0:0<=c0 % 6:=zd _ (by decide)
  have m1:c0 % 6<6:=yW _ (by decide)
  obtain⟨many,hmany⟩:=AR (show 0<=1+c0 % 6 by omega)
  refine⟨_,rfl,_,_,rfl,rfl,(by show (0:Int)<6;decide),_,_,rfl,rfl,?_⟩
  change bd 5 (V.int (1+c0 % 6)) _ _ _
  rw[hmany]
  have mhi:many<=6:=by omega
  refine⟨(by show 4<=sizeLine;decide),fun L2' H2 e2 h2 hL2=>?_⟩
  obtain⟨p,ap,pP,p0,p1⟩:=u7 (c0 / 6 % 4) (zd _ (by decide)) (yW _ (by decide))
  refine⟨_,rfl,_,_,rfl,rfl,⟨by decide,by decide⟩,_,_,rfl,rfl,(by show (0:Int)<4;decide),L2',_,_,.int p,rfl,rfl,SqL.of hL2,ap,?_⟩
  have T2':=T1.mono e2
  obtain⟨ts,hts,hp⟩:=id T2'
  have tsl:=Paired.length hp
  have rnd:(R.map (·.1)).Nodup:=X1.ln.asc.imp fun h=>Int.ne_of_lt h
  have wid:∀ x,0<=cf R x many/\cf R x many<=8:=fun x=>by
   unfold cf
   by_cases c:x=("h":Str)
   ·rw[if_pos c];omega
   ·rw[if_neg c]
    have:(jf R x).length<=8:=by
     unfold jf
     rw[y9]
     exact yM (z9 _ _) rl
    omega
  intro d hd
  have nd:tl≠d:=ah hts hd
  refine⟨_,rfl,tl,rfl,⟨_,SqL.of (by rw[af nd];exact hts)⟩,c8 (K:=K) (xs:=ts) (fun i σ G=>(∃ o8 o9 o10,σ=[some (.ref a),some (.int c0),some (.int c1),some (.ref n),some (.ref tl),some (.int (many:Int)),some (.int p),some (.ref d),o8,o9,o10,none,none,none,none,none])/\Same H2 G/\∃ rows,PQ 10 G d rows/\rows.map (·.1)=(R.take i).map (·.1))
   ⟨⟨none,none,none,rfl⟩,az (Same.refl _) hd,[],⟨⟨a9,fun r h=>(yJ h).elim⟩,List.nodup_nil,fun r h=>(yJ h).elim⟩,by rw[Ai];rfl⟩ (fun i σ G _ h=>SqL.of (h.2.1 _ _ hts)) ?_ ?_⟩
  ·rintro i v σ G ev ⟨⟨o8,o9,o10,rfl⟩,eG,rows,PG,hk⟩
   obtain⟨r,er,b,rfl,hb⟩:=Paired.at hp ev
   have rm:=yh er
   have rb:=r8 r rm
   refine⟨b,_,rfl,SqT.of (eG _ _ hb),rfl,_,_,rfl,_,_,rfl,_,[],rfl,rfl,?_⟩
   have hw:=wid r.2.1
   refine⟨_,rfl,_,rfl,_,rfl,tl,r.2.1,(many:Int),R,rfl,T2'.mono eG,by omega,fun G2 e2'=>⟨_,rfl,by omega,by omega,?_⟩⟩
   refine k9 (n:=(cf R r.2.1 many).toNat) (fun k=>cc (c1 / 4) (9 * r.1+(0+(k:Int))) % 2) (by omega) (fun k G3 hk' e3'=>?_) (fun la G3 h3' e3' hla=>?_)
   ·exact⟨_,rfl,_,_,rfl,rfl,⟨by decide,by decide⟩,_,rfl,_,_,rfl,rfl,.inl ⟨by decide,by decide⟩,_,rfl,_,_,rfl,rfl,c1 / 4,_,rfl,by omega,by omega,fun G4 e4'=>⟨_,_,rfl,rfl,(by show (0:Int)<2;decide),rfl,e4'⟩⟩
   have e23:=e2'.trans e3'
   have P3:=PG.mono (yi _) e23
   have kn:¬ r.1∈rows.map (·.1):=fun hm=>by
    rw[hk]at hm
    obtain⟨y,hy,ey⟩:=yw.mp hm
    obtain⟨k,hk',ek'⟩:=zD.mp hy
    have:=cX rnd (i:=k) (j:=i) (x:=r.1) (by rw[yf,yb (by omega),ek'];exact congrArg some ey) (by rw[yf,er];rfl)
    omega
   obtain⟨rows',P',L',N'⟩:=P3.put (k:=r.1) (a:=la) hla (by rw[y9,zq];omega)
   have N':=N' kn
   have rz:rows.length<=8:=by
    have:=congrArg List.length hk
    rw[y9,y9,yO]at this
    omega
   refine⟨_,rfl,_,rfl,d,_,rfl,DPut.k (k:=Sum.inl r.1) P3.at_.dict (by unfold aI;rw[y9];show _<2 ^ 24;omega),⟨_,_,_,rfl⟩,au (eG.trans e23) hd,rows',P',?_⟩
   rw[N',yI,hk,za,er,yI]
   rfl
  rintro σ H3 ⟨⟨o8,o9,o10,rfl⟩,e3,rows,PG,hk⟩
  rw[tsl,zh]at hk
  have rz:rows.length<=8:=by
   have:=congrArg List.length hk
   rw[y9,y9]at this
   omega
  refine⟨(by show 4<=sizeLine;decide),fun L4 H4 e4 h4 hL4=>?_⟩
  obtain⟨tn,htn,tn2⟩:∃ z:Nat,atI [V.int 0,V.int 1,V.int 1,V.int 2] (c1 % 4)=some (.int (z:Int))/\z<=2:=by
   obtain⟨v,hv,ha⟩:=gB (xs:=[V.int 0,V.int 1,V.int 1,V.int 2]) (i:=c1 % 4) (zd _ (by decide)) (yW _ (by decide))
   have:=yh hv
   simp only[yB,yJ,AT]at this
   rcases this with rfl|rfl|rfl|rfl
   ·exact⟨0,ha,by decide⟩
   ·exact⟨1,ha,by decide⟩
   ·exact⟨1,ha,by decide⟩
   ·exact⟨2,ha,by decide⟩
  have e24:=e3.trans e4
  refine⟨_,rfl,_,_,rfl,rfl,(by show (0:Int)<4;decide),L4,_,_,.int (tn:Int),rfl,rfl,SqL.of hL4,htn,_,rfl,by omega,by omega,fc (lo:=0) (n:=((tn:Nat):Int).toNat) (fun i σ G=>(∃ o11,σ=[some (.ref a),some (.int c0),some (.int c1),some (.ref n),some (.ref tl),some (.int (many:Int)),some (.int p),some (.ref d),o8,o9,o10,o11,none,none,none,none])/\Same H2 G/\∃ rows,PQ (10+i) G d rows/\rows.length<=8+i)
   ⟨⟨none,rfl⟩,e24,rows,PG.mono (by omega) e4,by omega⟩ ?_ ?_⟩
  ·rintro i σ G hi ⟨⟨o11,rfl⟩,eG,rw',PG',rl'⟩
   have hi2:i<2:=by omega
   refine⟨_,rfl,_,rfl,tl,rfl,⟨_,SqL.of (eG _ _ hts)⟩,cM (fun i=>(R.getD i (0,"","")).1) (eG _ _ hts) (by omega) (fun k x G2 ex e2'=>?_) (fun lk G2 h2' e2' hlk=>?_)⟩
   ·obtain⟨r,er,b,rfl,hb⟩:=Paired.at hp ex
    exact⟨_,rfl,b,_,0,.int r.1,rfl,rfl,SqT.of (e2' _ _ (eG _ _ hb)),rfl,by rw[aH er],Same.refl _⟩
   refine⟨_,rfl,_,rfl,_,rfl,_,_,rfl,rfl,c1,500+(0+(i:Int)),rfl,by omega,by omega,fun G3 e3'=>?_⟩
   have e23:=e2'.trans e3'
   refine⟨d,lk,p,_,rw',_,H2,10+i,rfl,by omega,PG'.mono (yi _) e23,eG.trans e23,hd,by omega,e3' _ _ hlk,by rw[y9,zq];omega,fun G4 rw2 e4' P4 L4'=>⟨⟨_,rfl⟩,e4',rw2,P4.mono (by omega) (Same.refl _),by omega⟩⟩
  clear PG hk rz e24 hL4 h4 e4 e3
  rintro σ H5 ⟨⟨o11,rfl⟩,e5,rows,PG,rz⟩
  have rz:rows.length<=10:=by omega
  have PG:PQ 12 H5 d rows:=PG.mono (by omega) (Same.refl _)
  refine⟨_,rfl,?_⟩
  refine⟨fun σ G=>∃ pr,σ=[some (.ref a),some (.int c0),some (.int c1),some (.ref n),some (.ref tl),some (.int (many:Int)),some (.int p),some (.ref d),o8,o9,o10,o11,some (.int pr),none,none,none]/\Same H5 G/\(pr=p\/¬ (pr<=1000000/\My.isP pr=true)),?_,?_⟩
  case refine_2=>
   refine⟨_,rfl,_,_,rfl,rfl,⟨by decide,by decide⟩,_,_,rfl,rfl,(by show (0:Int)<4;decide),rfl,_,rfl,bB (fun g=>?_) (fun g=>?_)⟩
   ·refine⟨_,_,rfl,rfl,⟨by decide,by decide⟩,7,rfl,(by show 10<=sizeLine;decide),fun L6 H6 e6 h6 hL6=>?_⟩
    obtain⟨o,ao,on⟩:=xw (cc c0 1 % 10) (zd _ (by decide)) (yW _ (by decide))
    refine⟨_,rfl,c0,1,rfl,by decide,by decide,fun H7 e7=>⟨_,_,rfl,rfl,(by show (0:Int)<10;decide),L6,_,_,.int o,rfl,rfl,SqL.of (e7 _ _ hL6),ao,?_⟩⟩
    exact⟨o,rfl,e6.trans e7,.inr on⟩
   ·exact⟨p,rfl,Same.refl _,.inl rfl⟩
  rintro σ H6 ⟨pr,rfl,e6,hpr⟩
  have P6:=PG.mono (yi _) e6
  have e26:=e5.trans e6
  have hpl:(aI rows).length=rows.length:=by unfold aI;rw[y9]
  refine⟨_,rfl,d,aI rows,rfl,P6.at_.dict,fun ob M hM=>?_⟩
  have kvr:∀ (i:Nat) kv,(aI rows)[i]?=some kv->∃ r,rows[i]?=some r/\kv=((Sum.inl r.1:Key),V.ref r.2.1):=fun i kv h=>by
   unfold aI at h
   rw[yf]at h
   obtain⟨r,er,rfl⟩:=yG.mp h
   exact⟨r,er,rfl⟩
  refine qZ (K:=K) (o:=ob) (d:=d) (kvs:=aI rows) (fun i H v=>∀ r,rows[i]?=some r->∃ b g,v=.ref b/\H b=some (.tup [.int r.1,.ref g])/\H g=some (.lst (r.2.2.map V.int))) (fun i H H' v e h r hr=>let ⟨b,g,a1,a2,a3⟩:=h r hr;⟨b,g,a1,e _ _ a2,e _ _ a3⟩) a9 (by rw[hpl];omega) (fun i kv G ek eG=>?_) (fun l G vs hl0 eG hl vl hv=>?_)
  ·obtain⟨r,er,rfl⟩:=kvr i kv ek
   have rm:=yh er
   have hrow:G r.2.1=some (.lst (r.2.2.map V.int)):=eG _ _ (by rw[af (bn (P6.at_.row r rm) P6.at_.dict (fun z=>nomatch z))];exact P6.at_.row r rm)
   refine⟨_,rfl,_,rfl,r.2.1,_,rfl,.inl (SqL.of hrow),fun g G2 e2' h2' hg=>⟨(by show 2<=sizeLine;decide),fun b G3 e3' h3' hb=>⟨fun l' hl' hl2 r' hr'=>?_,e2'.trans e3'⟩⟩⟩
   rw[er]at hr'
   cases hr'
   exact⟨b,g,rfl,fb hl2 (e2'.free h3') hb,fb hl2 h2' (e3' _ _ hg)⟩
  refine⟨d,ob,_,hM,eG _ _ a9,?_⟩
  have nld:l≠d:=fun z=>by rw[z,a9]at hl0;cases hl0
  have hfz:=eG _ _ (a9 (H:=H6) (a:=d) (o:=HO.frz ob (HO.dK (aI rows))))
  have e67:Same H6 (upd G d (.dK (aI rows))):=bV P6.at_.dict eG
  have hl7:(upd G d (.dK (aI rows))) l=some (.lst vs):=by rw[af nld];exact hl
  have pv7:Paired (fun v (r:aO)=>∃ b g,v=V.ref b/\(upd G d (.dK (aI rows))) b=some (.tup [.int r.1,.ref g])/\(upd G d (.dK (aI rows))) g=some (.lst (r.2.2.map V.int))) vs rows:=dG (by rw[vl,hpl]) fun i v r hv' hr'=>by
   obtain⟨b,g,a1,a2,a3⟩:=hv i v hv' r hr'
   have a2:=dq _ _ a2
   have a3:=dq _ _ a3
   exact⟨b,g,a1,by rw[af (bn a2 hfz (fun z=>nomatch z))];exact a2,by rw[af (bn a3 hfz (fun z=>nomatch z))];exact a3⟩
  generalize upd G d (.dK (aI rows))=H7 at e67 hl7 pv7
  obtain⟨ws,w1,w2,w3⟩:=pX pv7
  have wk:ws.map (·.1)=rows.map (·.1):=by
   have:=congrArg (List.map (·.1)) w1
   rw[yq,yq]at this
   exact this
  have wl:ws.length=rows.length:=by rw[<- y9 (f:=(·.1)),wk,y9]
  have wnd:(ws.map (·.1)).Nodup:=wk▸PG.kd
  have wln:∀ r∈ws,r.2.2.length<=12:=fun r hr'=>by
   have:(r.1,r.2.2)∈rows.map fun r=>(r.1,r.2.2):=w1▸yD (f:=fun r:aO=>(r.1,r.2.2)) hr'
   obtain⟨r0,h0',e0'⟩:=yw.mp this
   have:r0.2.2=r.2.2:=congrArg (fun z:Int×List Int=>z.2) e0'
   rw[<- this]
   exact PG.ln r0 h0'
  refine⟨l,aI ws,rfl,⟨vs,hl7,dR w2 fun v r ⟨b,e,hb⟩=>⟨b,e,hb⟩⟩,by unfold aI;rw[y9];omega,fun dd H8 e8 h8 hdd=>?_⟩
  rw[ce _ [] (by
   rw[zb]
   unfold aI
   rw[yq]
   have:((fun x:Key×V=>x.1) ∘ fun r:aO=>((Sum.inl r.1:Key),V.ref r.2.1))=(fun x:Int=>(Sum.inl x:Key)) ∘ Prod.fst:=rfl
   rw[this,<- yq]
   exact yU.mpr (zV.mpr ((yU.mp wnd).imp fun h z=>h (Sum.inl.inj z)))),zb]at hdd
  have PW:PlanAt H8 dd ws:=⟨hdd,fun r hr'=>e8 _ _ (w3 r hr')⟩
  have e28:=(e26.trans e67).trans e8
  have e18:=e2.trans e28
  have P8:PlanAt H8 d rows:=(P6.at_.mono e67).mono e8
  have rl40:=X1.ln.rlen
  have wp:=X1.ln.wants (many:Int)
  have tle:S.ties.length=R.length:=by
   have:=congrArg List.length X1.ln.ties
   rw[y9]at this
   exact this
  have pz:S.posts.length<=20:=by
   have:=X1.ln.names.length_eq
   unfold NS.names at this
   rw[y9]at this
   have:=X1.ln.len
   omega
  have ask:kJ c H8 n dd S ws many pr:=⟨⟨dp,dt,N1.mono e18⟩,X1.ln.acyc,X1.ln.ends,by omega,by omega,(wp.map _).nodup_iff.mpr (by rw[pB];exact rnd),by rw[wp.length_eq];unfold Rm;rw[y9];omega,PW,by omega,fun r hr'=>by have:=wln r hr';omega⟩
  have lis:∀ g∈S.lis,g∈S.names/\(∀ k∈S.into g,k∈(aG S).map (·.1))/\(S.into g).length<=100:=fun g hg=>by
   refine⟨?_,fun k hk=>?_,?_⟩
   ·unfold NS.lis at hg
    obtain⟨q',hq',rfl⟩:=yw.mp hg
    exact yD (zo.mp hq').1
   ·rw[X1.ln.into]at hk
    unfold jf at hk
    obtain⟨r,hr',rfl⟩:=yw.mp hk
    exact X1.ln.keys.mem_iff.mpr (yD (zo.mp hr').1)
   ·rw[X1.ln.into]
    unfold jf
    rw[y9]
    exact yM (z9 _ _) (by omega)
  have sm:kW (d9 ws) (d9 rows)=true:=by rw[wj w1];exact tX PG.kd
  refine⟨_,rfl,_,rfl,_,rfl,_,rfl,n,dd,dp,dt,S,ws,many,pr,rfl,ask,N1.mono e18,X1.ln.fits,X1.ln.few,by omega,lis,fun hn ea H9 e9 hea=>?_,fun hp' hP' ms pm pw=>?_⟩
  ·refine⟨_,rfl,_,rfl,d9 ws,d9 rows,(PW.mono e9).ds,(P8.mono e9).ds,_,rfl,?_⟩
   rw[sm]
   refine bv ⟨_,rfl,_,rfl,rfl,_,rfl,?_⟩
   rw[yj (show ¬ V.int pr=V.int p from fun z=>hn (by injection z with z;rw[z];exact⟨p1,pP⟩))]
   refine bA ?_
   refine⟨_,rfl,ea,aN,_,true,rfl,hea,T.xN,.inl ⟨_,rfl,T.k1⟩,_,rfl,bA ?_⟩
   refine⟨_,rfl,ea,aN,_,true,rfl,hea,T.xN,.inr ⟨_,rfl,T.k2⟩,_,rfl,bA ?_⟩
   refine⟨_,rfl,(by show 2<=sizeLine;decide),fun tp H10 e10 h10 htp=>⟨ea,aN,tp,[aP,aB],false,rfl,e10 _ _ hea,T.xN,htp,T.k3,_,rfl,q _⟩⟩
  have epr:pr=p:=by
   rcases hpr with h|h
   ·exact h
   ·exact absurd ⟨hp',hP'⟩ h
  subst epr
  cases X1.ln.ms pm pw
  refine⟨fun k hk' ea dx H9 e9 hea hdx=>?_,fun hk' H9 e9=>?_⟩
  ·refine⟨_,rfl,_,rfl,d9 ws,d9 rows,(PW.mono e9).ds,(P8.mono e9).ds,_,rfl,?_⟩
   rw[sm]
   refine bv ⟨_,rfl,_,rfl,rfl,_,rfl,?_⟩
   rw[ye rfl]
   refine bv ?_
   refine⟨_,rfl,_,rfl,_,rfl,_,rfl,tl,d,(many:Int),pr,R,rows,rfl,T1.mono (e18.trans e9),by omega,P8.mono e9,by omega,(fun r hr'=>by have:=PG.ln r hr';omega),fun o H10 e10 ho=>?_⟩
   cases (qQ w1 _ hk').one ho
   refine⟨_,rfl,rfl,_,rfl,?_⟩
   rw[yj (show ¬ xk (some k)=V.non from fun z=>nomatch z)]
   refine bv ?_
   refine⟨_,rfl,ea,aP,dx,_,true,rfl,e10 _ _ hea,T.xP.k,.inl ⟨_,rfl,T.k4⟩,_,rfl,bA ?_⟩
   refine⟨_,rfl,(by show 2<=sizeLine;decide),fun tp H11 e11 h11 htp=>⟨ea,aP,dx,tp,[aN,aB],false,rfl,e11 _ _ (e10 _ _ hea),T.xP.k,htp,T.k5,_,rfl,?_⟩⟩
   refine⟨_,rfl,bA ⟨_,rfl,ea,aP,dx,_,_,rfl,e11 _ _ (e10 _ _ hea),e11 _ _ (e10 _ _ hdx),T.xP,rfl,_,rfl,rfl,?_⟩⟩
   rw[ye (show V.int k=xk (some k) from rfl)]
   exact q _
  ·refine⟨_,rfl,_,rfl,d9 ws,d9 rows,(PW.mono e9).ds,(P8.mono e9).ds,_,rfl,?_⟩
   rw[sm]
   refine bv ⟨_,rfl,_,rfl,rfl,_,rfl,?_⟩
   rw[ye rfl]
   refine bv ?_
   refine⟨_,rfl,_,rfl,_,rfl,_,rfl,tl,d,(many:Int),pr,R,rows,rfl,T1.mono (e18.trans e9),by omega,P8.mono e9,by omega,(fun r hr'=>by have:=PG.ln r hr';omega),fun o H10 e10 ho=>?_⟩
   cases (qQ w1 _ hk').one ho
   refine⟨_,rfl,rfl,_,rfl,?_⟩
   rw[ye (show xk none=V.non from rfl)]
   refine bA ⟨_,rfl,rfl,?_⟩
   rw[ye rfl]
   exact q _
end
end K52
namespace K52
open PySem L2
section
variable {P : Program}{w : World}{K : PySem.W.Frag}{mg : Str -> Option Value}{base h : Heap}
def In0 (K:PySem.W.Frag)(C:Addr)(qual:Str)(st:Stmt):Prop:=∃ f fd,Mk K C f/\Fun K "__init__" qual st f fd
theorem in0_mk {C:Addr}{qual:Str}{st:Stmt}{f:Addr}{oc:Value}{od an:Option Addr}{osl:Array (Option Value)}{kV doc pm cdv ct:Value} (mk:PySem.W.makesIn K C=true) (a:PySem.W.findIn K (.ref C) "__init__"=some (some (.ref f))) (i:PySem.W.isFn K (.ref f)=true) (kc:PySem.W.keepIn K (.ref C)=true)
  (l:K.lookup f=some ⟨oc,od,.func (PySem.W.fnOf "__init__" qual (aY st) (aJ st) (ag st) .none kV doc pm an cdv ct),osl⟩)
  (c:PySem.W.codeIn K cdv qual=true) (k:PySem.W.keepIn K (.ref f)=true):In0 K C qual st:=⟨f,_,⟨mk,a,i,kc⟩,pd l c k⟩
def wv (K:PySem.W.Frag)(C:Addr)(m qual:Str)(st:Stmt):Prop:=∃ (f T:Addr)(t:Tok)(kV doc pm:Value)(an:Option Addr)(cdv ct:Value)(oc:Value)(od:Option Addr)(osl:Array (Option Value))(tc:Value)(td:Option Addr)(n:Nat)(tsl:Array (Option Value)),rh K C m f/\
 K.lookup f=some ⟨oc,od,.func (PySem.W.fnOf m qual (aY st) (aJ st) (ag st) (.ref T) kV doc pm an cdv ct),osl⟩/\PySem.W.codeIn K cdv qual=true/\PySem.W.keepIn K (.ref f)=true/\K.lookup T=some ⟨tc,td,.seq #[.int 1 t] n,tsl⟩
theorem meD0_mk {C:Addr}{m qual:Str}{st:Stmt}{f T:Addr}{t:Tok}{oc tc:Value}{od an td:Option Addr}{osl tsl:Array (Option Value)}{n:Nat}{kV doc pm cdv ct:Value} (a:PySem.W.findIn K (.ref C) m=some (some (.ref f))) (i:PySem.W.isFn K (.ref f)=true)
  (l:K.lookup f=some ⟨oc,od,.func (PySem.W.fnOf m qual (aY st) (aJ st) (ag st) (.ref T) kV doc pm an cdv ct),osl⟩)
  (c:PySem.W.codeIn K cdv qual=true) (k:PySem.W.keepIn K (.ref f)=true) (d:K.lookup T=some ⟨tc,td,.seq #[.int 1 t] n,tsl⟩):wv K C m qual st:=⟨f,T,t,kV,doc,pm,an,cdv,ct,oc,od,osl,tc,td,n,tsl,⟨a,i,k⟩,l,c,k,d⟩
theorem vH {C:Addr}{x qual:Str}{st:Stmt}{ps:List Str}{sp:Sp}{k:Nat} (F:wv K C x qual st) (cl:Cls K C)
  (hb:∀ (T:Addr)(t:Tok)(kV doc pm:Value)(an:Option Addr)(cdv ct:Value)(us:List Value),us.length=ps.length->∃ kk,bindArgs (PySem.W.fnOf x qual (aY st) (aJ st) (ag st) (.ref T) kV doc pm an cdv ct) ⟨us,[]⟩=seqItems? (.ref T) >>= kk/\kk (some #[.int 1 t])=pure (ps.zip us))
  (ok:∀ f fd,FunD K x qual st f fd->FnOk P w K mg base (CXE P w) k f fd ps sp):DmX P w K mg base k C x ps sp:=by
 obtain⟨f,T,t,kV,doc,pm,an,cdv,ct,oc,od,osl,tc,td,n,tsl,m,l,c,kp,d⟩:=F
 refine⟨f,_,cl,m,fun s us hin hl=>?_,ok f _ ⟨⟨oc,od,.ref T,kV,doc,pm,an,cdv,ct,osl,rfl,l,c⟩,kp⟩⟩
 rw[zp]at hl ⊢
 obtain⟨kk,h1,h2⟩:=hb T t kV doc pm an cdv ct us hl
 exact Bh rfl (hin _ _ d) rfl h1 h2
def ww (K:PySem.W.Frag)(x qual:Str)(st:Stmt):Prop:=∃ (f T:Addr)(kV doc pm:Value)(an:Option Addr)(cdv ct:Value)(oc:Value)(od:Option Addr)(osl:Array (Option Value))(tc:Value)(td:Option Addr)(n:Nat)(tsl:Array (Option Value)),PySem.W.nsIn K mainGlobals x=some (some (.ref f))/\
 K.lookup f=some ⟨oc,od,.func (PySem.W.fnOf x qual (aY st) (aJ st) (ag st) (.ref T) kV doc pm an cdv ct),osl⟩/\PySem.W.codeIn K cdv qual=true/\PySem.W.keepIn K (.ref f)=true/\K.lookup T=some ⟨tc,td,.seq #[.none] n,tsl⟩
theorem fnD0_mk {x qual:Str}{st:Stmt}{f T:Addr}{oc tc:Value}{od an td:Option Addr}{osl tsl:Array (Option Value)}{n:Nat}{kV doc pm cdv ct:Value} (a:PySem.W.nsIn K mainGlobals x=some (some (.ref f)))
  (l:K.lookup f=some ⟨oc,od,.func (PySem.W.fnOf x qual (aY st) (aJ st) (ag st) (.ref T) kV doc pm an cdv ct),osl⟩)
  (c:PySem.W.codeIn K cdv qual=true) (k:PySem.W.keepIn K (.ref f)=true) (d:K.lookup T=some ⟨tc,td,.seq #[.none] n,tsl⟩):ww K x qual st:=⟨f,T,kV,doc,pm,an,cdv,ct,oc,od,osl,tc,td,n,tsl,a,l,c,k,d⟩
theorem qN {x qual:Str}{st:Stmt}{ps:List Str}{sp:Sp}{k:Nat} (F:ww K x qual st) (X:K.In h) (G:h.Ns mainGlobals mg)
  (hb:∀ (T:Addr)(kV doc pm:Value)(an:Option Addr)(cdv ct:Value)(us:List Value),us.length=ps.length->∃ kk,bindArgs (PySem.W.fnOf x qual (aY st) (aJ st) (ag st) (.ref T) kV doc pm an cdv ct) ⟨us,[]⟩=seqItems? (.ref T) >>= kk/\kk (some #[.none])=pure (ps.zip us))
  (ok:∀ f fd,FunD K x qual st f fd->FnOk P w K mg base (CXE P w) k f fd ps sp):DfX P w K mg base k x ps sp:=by
 obtain⟨f,T,kV,doc,pm,an,cdv,ct,oc,od,osl,tc,td,n,tsl,a,l,c,kp,d⟩:=F
 refine⟨f,_,yR X G a,kp,fun s us hin hl=>?_,ok f _ ⟨⟨oc,od,.ref T,kV,doc,pm,an,cdv,ct,osl,rfl,l,c⟩,kp⟩⟩
 rw[zp]at hl ⊢
 obtain⟨kk,h1,h2⟩:=hb T kV doc pm an cdv ct us hl
 exact Bh rfl (hin _ _ d) rfl h1 h2
theorem nG {x qual:Str}{st:Stmt}{ps:List Str}{sp:Sp}{k:Nat} (F:ww K x qual st) (X:K.In h) (G:h.Ns mainGlobals mg)
  (hb:∀ (T:Addr)(kV doc pm:Value)(an:Option Addr)(cdv ct:Value)(us:List Value),us.length+1=ps.length->∃ kk,bindArgs (PySem.W.fnOf x qual (aY st) (aJ st) (ag st) (.ref T) kV doc pm an cdv ct) ⟨us,[]⟩=seqItems? (.ref T) >>= kk/\kk (some #[.none])=pure (ps.zip (us++[.none])))
  (ok:∀ f fd,FunD K x qual st f fd->FnOk P w K mg base (CXE P w) k f fd ps sp):wy P w K mg base k x ps [.non] sp:=by
 obtain⟨f,T,kV,doc,pm,an,cdv,ct,oc,od,osl,tc,td,n,tsl,a,l,c,kp,d⟩:=F
 refine⟨f,_,[.none],yR X G a,kp,fun s us hin hl=>?_,.cons rfl .nil,ok f _ ⟨⟨oc,od,.ref T,kV,doc,pm,an,cdv,ct,osl,rfl,l,c⟩,kp⟩⟩
 obtain⟨kk,h1,h2⟩:=hb T kV doc pm an cdv ct us (by rw[yu]at hl;exact hl)
 exact Bh rfl (hin _ _ d) rfl h1 h2
def Xi0 (K:PySem.W.Frag)(C:Addr)(qual:Str)(st:Stmt):Prop:=∃ f fd,ExcMk K C f/\Fun K "__init__" qual st f fd
theorem xi0_mk {C:Addr}{qual:Str}{st:Stmt}{f:Addr}{oc:Value}{od an:Option Addr}{osl:Array (Option Value)}{kV doc pm cdv ct:Value} (a:PySem.W.findIn K (.ref C) "__init__"=some (some (.ref f))) (own:sX K C f=true) (i:PySem.W.isFn K (.ref f)=true) (kc:PySem.W.keepIn K (.ref C)=true)
  (l:K.lookup f=some ⟨oc,od,.func (PySem.W.fnOf "__init__" qual (aY st) (aJ st) (ag st) .none kV doc pm an cdv ct),osl⟩)
  (c:PySem.W.codeIn K cdv qual=true) (k:PySem.W.keepIn K (.ref f)=true):Xi0 K C qual st:=⟨f,_,⟨own,i,kc⟩,pd l c k⟩
theorem ut {C:Addr}{x qual:Str}{st:Stmt}{ps:List Str}{sp:Sp}{k:Nat} (F:wv K C x qual st) (cl:Cls K C)
  (hb:∀ (T:Addr)(t:Tok)(kV doc pm:Value)(an:Option Addr)(cdv ct:Value)(us:List Value),us.length+1=ps.length->∃ kk,bindArgs (PySem.W.fnOf x qual (aY st) (aJ st) (ag st) (.ref T) kV doc pm an cdv ct) ⟨us,[]⟩=seqItems? (.ref T) >>= kk/\kk (some #[.int 1 t])=pure (ps.zip (us++[.int 1 t])))
  (ok:∀ f fd,FunD K x qual st f fd->FnOk P w K mg base (CXE P w) k f fd ps sp):y8 P w K mg base k C x ps [.int 1] sp:=by
 obtain⟨f,T,t,kV,doc,pm,an,cdv,ct,oc,od,osl,tc,td,n,tsl,m,l,c,kp,d⟩:=F
 refine⟨f,_,[.int 1 t],cl,m,fun s us hin hl=>?_,.cons ⟨t,rfl⟩ .nil,ok f _ ⟨⟨oc,od,.ref T,kV,doc,pm,an,cdv,ct,osl,rfl,l,c⟩,kp⟩⟩
 obtain⟨kk,h1,h2⟩:=hb T t kV doc pm an cdv ct us (by rw[yu]at hl;exact hl)
 exact Bh rfl (hin _ _ d) rfl h1 h2
theorem xi0_di {C:Addr}{x qual:Str}{st:Stmt}{ps:List Str}{sp:Sp}{k:Nat} (F:Xi0 K C qual st) (X:K.In h) (G:h.Ns mainGlobals mg) (aC:PySem.W.nsIn K mainGlobals x=some (some (.ref C)))
  (hb:∀ (kV doc pm:Value)(an:Option Addr)(cdv ct:Value)(us:List Value),us.length=ps.length->bindArgs (PySem.W.fnOf "__init__" qual (aY st) (aJ st) (ag st) .none kV doc pm an cdv ct) ⟨us,[]⟩=pure (ps.zip us))
  (ok:∀ f fd,Fun K "__init__" qual st f fd->FnOk P w K mg base CX0 k f fd ps sp):DiX P w K mg base k x C ps sp:=by
 obtain⟨f,fd,m,F⟩:=F
 exact⟨f,fd,yR X G aC,m,F.binds hb,ok f fd F⟩
theorem aR {x qual:Str}{st:Stmt}{ps:List Str}{sp:Sp}{k:Nat} (F:Fn0 K x qual st) (X:K.In h) (G:h.Ns mainGlobals mg)
  (hb:∀ (kV doc pm:Value)(an:Option Addr)(cdv ct:Value)(us:List Value),us.length=ps.length->bindArgs (PySem.W.fnOf x qual (aY st) (aJ st) (ag st) .none kV doc pm an cdv ct) ⟨us,[]⟩=pure (ps.zip us))
  (ok:∀ f fd,Fun K x qual st f fd->FnOk P w K mg base CX0 k f fd ps sp):Df P w K mg base k x ps sp:=by
 obtain⟨f,fd,a,F⟩:=F
 exact⟨f,fd,yR X G a,F.kp,F.binds hb,ok f fd F⟩
theorem bJ {C:Addr}{x qual:Str}{st:Stmt}{ps:List Str}{sp:Sp}{k:Nat} (F:Me0 K C x qual st) (cl:Cls K C)
  (hb:∀ (kV doc pm:Value)(an:Option Addr)(cdv ct:Value)(us:List Value),us.length=ps.length->bindArgs (PySem.W.fnOf x qual (aY st) (aJ st) (ag st) .none kV doc pm an cdv ct) ⟨us,[]⟩=pure (ps.zip us))
  (ok:∀ f fd,Fun K x qual st f fd->FnOk P w K mg base CX0 k f fd ps sp):Dm P w K mg base k C x ps sp:=by
 obtain⟨f,fd,m,F⟩:=F
 exact⟨f,fd,cl,m,F.binds hb,ok f fd F⟩
theorem oY {C:Addr}{x qual:Str}{st:Stmt}{ps:List Str}{sp:Sp}{k:Nat} (F:In0 K C qual st) (X:K.In h) (G:h.Ns mainGlobals mg) (aC:PySem.W.nsIn K mainGlobals x=some (some (.ref C)))
  (hb:∀ (kV doc pm:Value)(an:Option Addr)(cdv ct:Value)(us:List Value),us.length=ps.length->bindArgs (PySem.W.fnOf "__init__" qual (aY st) (aJ st) (ag st) .none kV doc pm an cdv ct) ⟨us,[]⟩=pure (ps.zip us))
  (ok:∀ f fd,Fun K "__init__" qual st f fd->FnOk P w K mg base CX0 k f fd ps sp):Dk P w K mg base k x C ps sp:=by
 obtain⟨f,fd,m,F⟩:=F
 exact⟨f,fd,yR X G aC,m,F.binds hb,ok f fd F⟩
theorem xK {x qual:Str}{st:Stmt}{ps:List Str}{sp:Sp}{k:Nat} (F:Fn0 K x qual st) (X:K.In h) (G:h.Ns mainGlobals mg)
  (hb:∀ (kV doc pm:Value)(an:Option Addr)(cdv ct:Value)(us:List Value),us.length=ps.length->bindArgs (PySem.W.fnOf x qual (aY st) (aJ st) (ag st) .none kV doc pm an cdv ct) ⟨us,[]⟩=pure (ps.zip us))
  (ok:∀ f fd,Fun K x qual st f fd->FnOk P w K mg base (CXE P w) k f fd ps sp):DfX P w K mg base k x ps sp:=by
 obtain⟨f,fd,a,F⟩:=F
 exact⟨f,fd,yR X G a,F.kp,F.binds hb,ok f fd F⟩
theorem gQ {C:Addr}{x qual:Str}{st:Stmt}{ps:List Str}{sp:Sp}{k:Nat} (F:Me0 K C x qual st) (cl:Cls K C)
  (hb:∀ (kV doc pm:Value)(an:Option Addr)(cdv ct:Value)(us:List Value),us.length=ps.length->bindArgs (PySem.W.fnOf x qual (aY st) (aJ st) (ag st) .none kV doc pm an cdv ct) ⟨us,[]⟩=pure (ps.zip us))
  (ok:∀ f fd,Fun K x qual st f fd->FnOk P w K mg base (CXE P w) k f fd ps sp):DmX P w K mg base k C x ps sp:=by
 obtain⟨f,fd,m,F⟩:=F
 exact⟨f,fd,cl,m,F.binds hb,ok f fd F⟩
theorem xG {C:Addr}{x qual:Str}{st:Stmt}{ps:List Str}{sp:Sp}{k:Nat} (F:In0 K C qual st) (X:K.In h) (G:h.Ns mainGlobals mg) (aC:PySem.W.nsIn K mainGlobals x=some (some (.ref C)))
  (hb:∀ (kV doc pm:Value)(an:Option Addr)(cdv ct:Value)(us:List Value),us.length=ps.length->bindArgs (PySem.W.fnOf "__init__" qual (aY st) (aJ st) (ag st) .none kV doc pm an cdv ct) ⟨us,[]⟩=pure (ps.zip us))
  (ok:∀ f fd,Fun K "__init__" qual st f fd->FnOk P w K mg base (CXE P w) k f fd ps sp):DkX P w K mg base k x C ps sp:=by
 obtain⟨f,fd,m,F⟩:=F
 exact⟨f,fd,yR X G aC,m,F.binds hb,ok f fd F⟩
end
@[elab_as_elim] theorem fK {α:Type}{P:List α->Prop}:∀ (us:List α),us.length=1->(∀ a,P [a])->P us
 | [_],_,f=>f _
@[elab_as_elim] theorem cK {α:Type}{P:List α->Prop}:∀ (us:List α),us.length=2->(∀ a b,P [a,b])->P us
 | [_,_],_,f=>f _ _
@[elab_as_elim] theorem jd {α:Type}{P:List α->Prop}:∀ (us:List α),us.length=3->(∀ a b c,P [a,b,c])->P us
 | [_,_,_],_,f=>f _ _ _
@[elab_as_elim] theorem qG {α:Type}{P:List α->Prop}:∀ (us:List α),us.length=4->(∀ a b c d,P [a,b,c,d])->P us
 | [_,_,_,_],_,f=>f _ _ _ _
@[elab_as_elim] theorem xA {α:Type}{P:List α->Prop}:∀ (us:List α),us.length=5->(∀ a b c d e,P [a,b,c,d,e])->P us
 | [_,_,_,_,_],_,f=>f _ _ _ _ _
theorem all_mk {l:PySem.W.OpenLaw}{w:World}{K:PySem.W.Frag}{h:Heap}{mg:Str->Option Value}{fa CN CP CH CL CF:Addr}{xNN xTk xOH xTM xIH xRM xNo xPr xPl xPE xNB:Addr}{t_LETTERS t_LONGEST_NAME t_MOST_POSTS t_MOST_LISTENERS t_MOST_TIES t_LONGEST_DELAY t_GREATEST_PRIME:Tok} (X:K.In h) (G:h.Ns mainGlobals mg) (hfa:mg "law"=some (.ref fa))
  (aCN:PySem.W.nsIn K mainGlobals "Net"=some (some (.ref CN)))
  (aCP:PySem.W.nsIn K mainGlobals "Post"=some (some (.ref CP)))
  (aCH:PySem.W.nsIn K mainGlobals "House"=some (some (.ref CH)))
  (aCL:PySem.W.nsIn K mainGlobals "Listener"=some (some (.ref CL)))
  (aCF:PySem.W.nsIn K mainGlobals "Field"=some (some (.ref CF)))
  (pgCN:PySem.W.plainGet K CN Str.empty=true)
  (hdCN:PySem.W.hasDictIn K CN=true)
  (poCN:PySem.W.plainOver K CN=true)
  (saCN:PySem.W.findIn K (.ref CN) "__setattr__"=some (some (.builtin "object.__setattr__")))
  (pgCP:PySem.W.plainGet K CP Str.empty=true)
  (hdCP:PySem.W.hasDictIn K CP=true)
  (poCP:PySem.W.plainOver K CP=true)
  (saCP:PySem.W.findIn K (.ref CP) "__setattr__"=some (some (.builtin "object.__setattr__")))
  (pgCH:PySem.W.plainGet K CH Str.empty=true)
  (hdCH:PySem.W.hasDictIn K CH=true)
  (poCH:PySem.W.plainOver K CH=true)
  (saCH:PySem.W.findIn K (.ref CH) "__setattr__"=some (some (.builtin "object.__setattr__")))
  (pgCL:PySem.W.plainGet K CL Str.empty=true)
  (hdCL:PySem.W.hasDictIn K CL=true)
  (poCL:PySem.W.plainOver K CL=true)
  (saCL:PySem.W.findIn K (.ref CL) "__setattr__"=some (some (.builtin "object.__setattr__")))
  (pgCF:PySem.W.plainGet K CF Str.empty=true)
  (hdCF:PySem.W.hasDictIn K CF=true)
  (poCF:PySem.W.plainOver K CF=true)
  (saCF:PySem.W.findIn K (.ref CF) "__setattr__"=some (some (.builtin "object.__setattr__")))
  (nCN_kept_posts:PySem.W.findIn K (.ref CN) "kept_posts"=some none)
  (nCN_kept_ties:PySem.W.findIn K (.ref CN) "kept_ties"=some none)
  (nCN_next_number:PySem.W.findIn K (.ref CN) "next_number"=some none)
  (nCP_name:PySem.W.findIn K (.ref CP) "name"=some none)
  (nCH_name:PySem.W.findIn K (.ref CH) "name"=some none)
  (nCL_name:PySem.W.findIn K (.ref CL) "name"=some none)
  (nCF_prime:PySem.W.findIn K (.ref CF) "prime"=some none)
  (e_NoName:PySem.W.nsIn K mainGlobals "NoName"=some (some (.ref xNN)))
  (xc_NoName:PySem.W.excIn K xNN bQ "ValueError.__new__"=true)
  (e_Taken:PySem.W.nsIn K mainGlobals "Taken"=some (some (.ref xTk)))
  (xc_Taken:PySem.W.excIn K xTk bQ "ValueError.__new__"=true)
  (e_OneHouse:PySem.W.nsIn K mainGlobals "OneHouse"=some (some (.ref xOH)))
  (xc_OneHouse:PySem.W.excIn K xOH bQ "ValueError.__new__"=true)
  (e_TooMany:PySem.W.nsIn K mainGlobals "TooMany"=some (some (.ref xTM)))
  (xc_TooMany:PySem.W.excIn K xTM bQ "ValueError.__new__"=true)
  (e_IntoHouse:PySem.W.nsIn K mainGlobals "IntoHouse"=some (some (.ref xIH)))
  (xc_IntoHouse:PySem.W.excIn K xIH bQ "ValueError.__new__"=true)
  (e_RingMade:PySem.W.nsIn K mainGlobals "RingMade"=some (some (.ref xRM)))
  (xc_RingMade:PySem.W.excIn K xRM bQ "ValueError.__new__"=true)
  (e_NoNumber:PySem.W.nsIn K mainGlobals "NoNumber"=some (some (.ref xNo)))
  (xc_NoNumber:PySem.W.excIn K xNo bQ "ValueError.__new__"=true)
  (e_NoPrime:PySem.W.nsIn K mainGlobals "NoPrime"=some (some (.ref xPr)))
  (xc_NoPrime:PySem.W.excIn K xPr bQ "ValueError.__new__"=true)
  (g_LETTERS:PySem.W.nsIn K mainGlobals "LETTERS"=some (some (.str "abcdefghijklmnopqrstuvwxyz" t_LETTERS)))
  (g_LONGEST_NAME:PySem.W.nsIn K mainGlobals "LONGEST_NAME"=some (some (.int 8 t_LONGEST_NAME)))
  (g_MOST_POSTS:PySem.W.nsIn K mainGlobals "MOST_POSTS"=some (some (.int 20 t_MOST_POSTS)))
  (g_MOST_LISTENERS:PySem.W.nsIn K mainGlobals "MOST_LISTENERS"=some (some (.int 8 t_MOST_LISTENERS)))
  (g_MOST_TIES:PySem.W.nsIn K mainGlobals "MOST_TIES"=some (some (.int 40 t_MOST_TIES)))
  (g_LONGEST_DELAY:PySem.W.nsIn K mainGlobals "LONGEST_DELAY"=some (some (.int 99 t_LONGEST_DELAY)))
  (g_GREATEST_PRIME:PySem.W.nsIn K mainGlobals "GREATEST_PRIME"=some (some (.int 1000000 t_GREATEST_PRIME)))
  (k_str_str:PySem.W.kitOne K (.type "str") (.type "str")=some true)
  (k_int_int:PySem.W.kitOne K (.type "int") (.type "int")=some true)
  (k_int_bool:PySem.W.kitOne K (.type "int") (.type "bool")=some false)
  (k_dict_dict:PySem.W.kitOne K (.type "dict") (.type "dict")=some true)
  (ne_ph:CP≠CH)
  (ne_pl:CP≠CL)
  (ne_hl:CH≠CL)
  (aPl:PySem.W.nsIn K mainGlobals "NoPlan"=some (some (.ref xPl)))
  (aNB:PySem.W.nsIn K mainGlobals "NoBack"=some (some (.ref xNB)))
  (aPE:PySem.W.nsIn K mainGlobals "PostError"=some (some (.ref xPE)))
  (gg:PySem.W.specialIn K (.builtin "object.__class__") "__get__"=some (some (.builtin "getset_descriptor.__get__")))
  (tc:PySem.W.takesIn K (.builtin "object.__class__")=some true)
  (pl_ga:PySem.W.findIn K (.ref xPl) "__getattribute__"=some (some (.builtin "BaseException.__getattribute__")))
  (pl_gt:PySem.W.findIn K (.ref xPl) "__getattr__"=some none)
  (pl_ec:PySem.W.findIn K (.ref xPl) "__class__"=some (some (.builtin "object.__class__")))
  (pl_mo:PySem.W.mroIn K xPl (.type "object")=some true)
  (pl_mb:PySem.W.mroIn K xPl (.type "BaseException")=some true)
  (pl_hd:PySem.W.hasDictIn K xPl=true)
  (pr_ga:PySem.W.findIn K (.ref xPr) "__getattribute__"=some (some (.builtin "BaseException.__getattribute__")))
  (pr_gt:PySem.W.findIn K (.ref xPr) "__getattr__"=some none)
  (pr_ec:PySem.W.findIn K (.ref xPr) "__class__"=some (some (.builtin "object.__class__")))
  (pr_mo:PySem.W.mroIn K xPr (.type "object")=some true)
  (pr_mb:PySem.W.mroIn K xPr (.type "BaseException")=some true)
  (pr_hd:PySem.W.hasDictIn K xPr=true)
  (pl_sa:PySem.W.findIn K (.ref xPl) "__setattr__"=some (some (.builtin "object.__setattr__")))
  (pl_ov:pf K xPl=true)
  (pl_tk:PySem.W.takerIn K xPl "number"=some none)
  (pl_na:PySem.W.findIn K (.ref xPl) "number"=some none)
  (em1:PySem.W.exmOne K (.ref xPr) (.ref xPE)=some true)
  (em2:PySem.W.exmOne K (.ref xPl) (.ref xPE)=some true)
  (ki1:PySem.W.kitOne K (.ref xPr) (.ref xPr)=some true)
  (ki2:PySem.W.kitOne K (.ref xPr) (.type "ValueError")=some true)
  (ki3:PySem.W.kitAny K (.ref xPr) [.ref xPl,.ref xNB]=some false)
  (ki4:PySem.W.kitOne K (.ref xPl) (.ref xPl)=some true)
  (ki5:PySem.W.kitAny K (.ref xPl) [.ref xPr,.ref xNB]=some false)
  (z_len:PySem.W.nsIn K mainGlobals "len"=some none)
  (z_isinstance:PySem.W.nsIn K mainGlobals "isinstance"=some none)
  (z_str:PySem.W.nsIn K mainGlobals "str"=some none)
  (z_all:PySem.W.nsIn K mainGlobals "all"=some none)
  (z_list:PySem.W.nsIn K mainGlobals "list"=some none)
  (z_int:PySem.W.nsIn K mainGlobals "int"=some none)
  (z_bool:PySem.W.nsIn K mainGlobals "bool"=some none)
  (z_enumerate:PySem.W.nsIn K mainGlobals "enumerate"=some none)
  (z_range:PySem.W.nsIn K mainGlobals "range"=some none)
  (z_min:PySem.W.nsIn K mainGlobals "min"=some none)
  (z_max:PySem.W.nsIn K mainGlobals "max"=some none)
  (z_dict:PySem.W.nsIn K mainGlobals "dict"=some none)
  (z_sorted:PySem.W.nsIn K mainGlobals "sorted"=some none)
  (z_zip:PySem.W.nsIn K mainGlobals "zip"=some none)
  (z_sum:PySem.W.nsIn K mainGlobals "sum"=some none)
  (z_tuple:PySem.W.nsIn K mainGlobals "tuple"=some none)
  (z_any:PySem.W.nsIn K mainGlobals "any"=some none)
  (z_set:PySem.W.nsIn K mainGlobals "set"=some none)
  (z_ValueError:PySem.W.nsIn K mainGlobals "ValueError"=some none)
  (f0:Fn0 K "is_name" "is_name" jA)
  (f1:Me0 K CP "reads" "Post.reads" dg)
  (f2:Me0 K CH "reads" "Post.reads" dg)
  (f3:Me0 K CL "reads" "Listener.reads" cI)
  (f4:Me0 K CP "hears" "Post.hears" dh)
  (f5:Me0 K CH "hears" "House.hears" eD)
  (f6:Me0 K CL "hears" "Post.hears" dh)
  (f7:In0 K CP "Post.__init__" bG)
  (f8:In0 K CH "Post.__init__" bG)
  (f9:In0 K CL "Post.__init__" bG)
  (f10:In0 K CN "Net.__init__" dE)
  (f11:Me0 K CN "check_new_name" "Net.check_new_name" bM)
  (f12:Me0 K CN "listeners" "Net.listeners" cZ)
  (f13:Me0 K CN "home" "Net.home" iy)
  (f14:Me0 K CN "put_in" "Net.put_in" fz)
  (f15:Me0 K CN "post" "Net.post" iu)
  (f16:Me0 K CN "listener" "Net.listener" dD)
  (f17:Me0 K CN "house" "Net.house" gf)
  (f18:Fn0 K "is_whole" "is_whole" im)
  (f19:Fn0 K "is_delay" "is_delay" iq)
  (f20:Me0 K CN "ties" "Net.ties" ir)
  (f21:Fn0 K "led_to" "led_to" l6)
  (f22:Me0 K CN "check_there" "Net.check_there" cA)
  (f23:Me0 K CN "check_ends" "Net.check_ends" cH)
  (f24:wv K CN "tie" "Net.tie" gJ)
  (f25:wv K CN "tie" "Net.tie" gJ)
  (f26:Me0 K CN "cut_tie" "Net.cut_tie" eC)
  (f27:Me0 K CN "into" "Net.into" iw)
  (f28:Me0 K CN "out_of" "Net.out_of" fA)
  (f29:Fn0 K "first_ready" "first_ready" eh)
  (f30:Me0 K CN "ordered" "Net.ordered" eB)
  (f31:Fn0 K "mixing_ties" "mixing_ties" dZ)
  (f32:Fn0 K "by_number" "by_number" gc)
  (f33:Fn0 K "wanted_lengths" "wanted_lengths" cG)
  (f34:Fn0 K "is_number_of" "is_number_of" dB)
  (f35:Fn0 K "is_row_of" "is_row_of" g9)
  (f36:Fn0 K "is_prime" "is_prime" io)
  (f37:In0 K CF "Field.__init__" rF)
  (f38:Xi0 K xPl "NoPlan.__init__" cz)
  (f39:Fn0 K "checked_plan" "checked_plan" dC)
  (f40:Me0 K CF "fit" "Field.fit" v8)
  (f41:Me0 K CF "times" "Field.times" oy)
  (f42:Me0 K CF "minus" "Field.minus" oz)
  (f43:Me0 K CF "back" "Field.back" rH)
  (f44:Fn0 K "row_sum" "row_sum" jy)
  (f45:Fn0 K "column" "column" lc)
  (f46:Fn0 K "ones_row" "ones_row" ik)
  (f47:Fn0 K "ones" "ones" rE)
  (f48:Fn0 K "coming_in" "coming_in" gb)
  (f49:Fn0 K "flow" "flow" rG)
  (f50:ww K "carried" "carried" jC)
  (f51:Fn0 K "fitted_row" "fitted_row" fw)
  (f52:Fn0 K "row_with" "row_with" ij)
  (f53:Fn0 K "scaled" "scaled" kX)
  (f54:Fn0 K "without" "without" jx)
  (f55:Fn0 K "cleared" "cleared" jB)
  (f56:Fn0 K "reduced" "reduced" jz)
  (f57:Fn0 K "first_place" "first_place" eA)
  (f58:Fn0 K "lead_places" "lead_places" ee)
  (f59:Fn0 K "reader" "reader" kY)
  (f60:Fn0 K "nought" "nought" kZ)
  (f61:Fn0 K "judgement" "judgement" g8)
  (f62:ww K "judged" "judged" l8)
  (f63:Fn0 K "_law_cell_at" "_law_cell_at" iA)
  (f64:Fn0 K "_law_mix" "_law_mix" rK)
  (f65:Fn0 K "_law_net" "_law_net" rJ)
  (f66:Fn0 K "_law_size" "_law_size" oB)
  (f67:Fn0 K "_law_spoil" "_law_spoil" lg)
  (f68:Fn0 K "_law_due" "_law_due" rL)
  (f69:Fn0 K "_law_word" "_law_word" oA)
  (fl:Fn0 K "law" "law" mV):
  ∃ fd:FuncData,(∀ (s:Shared)(v:Value),BindsTo s fd ⟨[v],[]⟩ [("_law_script",v)])/\∀ base:Heap,K.In base->base.Ns mainGlobals mg->FnOk l.prog w K mg base CX0 10 fa fd ["_law_script"] (oa K):=by
 obtain⟨fL,fdL,aL,FL⟩:=fl
 have e:=hfa.symm.trans (yR X G aL)
 cases e
 have clCN:Cls K CN:=⟨pgCN,hdCN,poCN,saCN⟩
 have clCP:Cls K CP:=⟨pgCP,hdCP,poCP,saCP⟩
 have clCH:Cls K CH:=⟨pgCH,hdCH,poCH,saCH⟩
 have clCL:Cls K CL:=⟨pgCL,hdCL,poCL,saCL⟩
 have clCF:Cls K CF:=⟨pgCF,hdCF,poCF,saCF⟩
 have O:Cl.Ok K ⟨CN,CP,CH,CL⟩:=⟨clCN,clCP,clCH,clCL,nCN_kept_posts,nCN_kept_ties,nCN_next_number,nCP_name,nCH_name,nCL_name,ne_ph,ne_pl,ne_hl⟩
 have TL:TxtL mg:=⟨yn X G z_len,yn X G z_isinstance,yn X G z_str,yn X G z_all,yn X G z_list⟩
 have TG:TxtG mg:=⟨⟨_,yR X G g_LETTERS⟩,⟨_,yR X G g_LONGEST_NAME⟩,⟨_,yR X G g_MOST_POSTS⟩,⟨_,yR X G g_MOST_LISTENERS⟩⟩
 have TK:TxtK K:=⟨k_str_str⟩
 have TX:xY K mg ⟨xNN,xTk,xOH,xTM⟩:=⟨yR X G e_NoName,xc_NoName,yR X G e_Taken,xc_Taken,yR X G e_OneHouse,xc_OneHouse,yR X G e_TooMany,xc_TooMany⟩
 have TN:xZ mg:=⟨yn X G z_isinstance,yn X G z_int,yn X G z_bool,yn X G z_len⟩
 have TH:TxtH mg:=⟨⟨_,yR X G g_MOST_TIES⟩,⟨_,yR X G g_LONGEST_DELAY⟩⟩
 have TI:TxtI K:=⟨k_int_int,k_int_bool⟩
 have TY:TxtY K mg ⟨xIH,xRM,xNo,xTM⟩:=⟨yR X G e_IntoHouse,xc_IntoHouse,yR X G e_RingMade,xc_RingMade,yR X G e_NoNumber,xc_NoNumber,yR X G e_TooMany,xc_TooMany⟩
 have TO:TxtO mg:=⟨yn X G z_len,yn X G z_all,yn X G z_dict⟩
 have TB:TxtB mg:=⟨yn X G z_dict,yn X G z_sorted⟩
 have TDd:TxtD mg:=⟨yn X G z_dict,yn X G z_len⟩
 have TFi:TxtF K mg CF:=⟨clCF,nCF_prime,yn X G z_len,yn X G z_all⟩
 have TPp:TxtP K mg CF xPr:=⟨clCF,nCF_prime,⟨_,yR X G g_GREATEST_PRIME⟩,yR X G e_NoPrime,xc_NoPrime⟩
 have TC:TxtC mg:=⟨yn X G z_dict,yn X G z_len,yn X G z_list,yn X G z_min⟩
 have EFP:y6 K xPl "number":=⟨pl_sa,pl_ov,pl_tk,pl_hd⟩
 have TF2:Txt K mg CF:=⟨clCF,nCF_prime,yn X G z_range,yn X G z_zip,yn X G z_sum⟩
 have TM:sM mg:=⟨yn X G z_len,yn X G z_range,yn X G z_zip⟩
 have TA:sN mg:=⟨yn X G z_len,yn X G z_range,yn X G z_list,yn X G z_sorted,yn X G z_enumerate,yn X G z_isinstance,yn X G z_int,yn X G z_bool,yn X G z_tuple,yn X G z_all,yn X G z_any,yn X G z_set,yn X G z_min,yn X G z_max⟩
 have TW:TxtW K mg xPr xPl xPE:=⟨yR X G aPE,em1,em2⟩
 have TQ:TxtQ K mg xPr xPl xNB:=⟨yn X G z_range,yn X G z_list,yn X G z_dict,yn X G z_isinstance,yn X G z_ValueError,yR X G e_NoPrime,yR X G aPl,yR X G aNB,⟨pr_ga,pr_gt,pr_ec,gg,tc,pr_mo,pr_mb,pr_hd⟩,⟨⟨pl_ga,pl_gt,pl_ec,gg,tc,pl_mo,pl_mb,pl_hd⟩,pl_na⟩,ki1,ki2,ki3,ki4,ki5⟩
 refine⟨fdL,fun s v=>?_,fun base _ _=>?_⟩
 ·obtain⟨oc,od,kV,doc,pm,an,cdv,ct,osl,rfl,lk,hcd⟩:=FL.ex
  exact .of_eq rfl
 ·
  have D_is_name:Df l.prog w K mg base 1 "is_name" ["name"] hX:=aR f0 X G (fun _ _ _ _ _ _ us hl=>fK us hl (fun _=>rfl)) (fun f fd F=>rT F TL TG TK)
  have R_Post:Dm l.prog w K mg base 1 CP "reads" ["self"] (bT ⟨CN,CP,CH,CL⟩ CP):=bJ f1 clCP (fun _ _ _ _ _ _ us hl=>fK us hl (fun _=>rfl)) (fun f fd F=>(gW F).imp (fun vs H Q E h=>by unfold bT at h;rw[show decide ((CP:Addr)=(⟨CN,CP,CH,CL⟩:Cl).lstn)=false from gh O .post]at h;exact h))
  have R_House:Dm l.prog w K mg base 1 CH "reads" ["self"] (bT ⟨CN,CP,CH,CL⟩ CH):=bJ f2 clCH (fun _ _ _ _ _ _ us hl=>fK us hl (fun _=>rfl)) (fun f fd F=>(gW F).imp (fun vs H Q E h=>by unfold bT at h;rw[show decide ((CH:Addr)=(⟨CN,CP,CH,CL⟩:Cl).lstn)=false from gh O .house]at h;exact h))
  have R_Listener:Dm l.prog w K mg base 1 CL "reads" ["self"] (bT ⟨CN,CP,CH,CL⟩ CL):=bJ f3 clCL (fun _ _ _ _ _ _ us hl=>fK us hl (fun _=>rfl)) (fun f fd F=>(jb F).imp (fun vs H Q E h=>by unfold bT at h;rw[show decide ((CL:Addr)=(⟨CN,CP,CH,CL⟩:Cl).lstn)=true from gh O .listener]at h;exact h))
  have H_Post:Dm l.prog w K mg base 1 CP "hears" ["self"] (bU ⟨CN,CP,CH,CL⟩ CP):=bJ f4 clCP (fun _ _ _ _ _ _ us hl=>fK us hl (fun _=>rfl)) (fun f fd F=>(gX F).imp (fun vs H Q E h=>by unfold bU at h;rw[show (!decide ((CP:Addr)=(⟨CN,CP,CH,CL⟩:Cl).house))=true from gx O .post]at h;exact h))
  have H_House:Dm l.prog w K mg base 1 CH "hears" ["self"] (bU ⟨CN,CP,CH,CL⟩ CH):=bJ f5 clCH (fun _ _ _ _ _ _ us hl=>fK us hl (fun _=>rfl)) (fun f fd F=>(lS F).imp (fun vs H Q E h=>by unfold bU at h;rw[show (!decide ((CH:Addr)=(⟨CN,CP,CH,CL⟩:Cl).house))=false from gx O .house]at h;exact h))
  have H_Listener:Dm l.prog w K mg base 1 CL "hears" ["self"] (bU ⟨CN,CP,CH,CL⟩ CL):=bJ f6 clCL (fun _ _ _ _ _ _ us hl=>fK us hl (fun _=>rfl)) (fun f fd F=>(gX F).imp (fun vs H Q E h=>by unfold bU at h;rw[show (!decide ((CL:Addr)=(⟨CN,CP,CH,CL⟩:Cl).house))=true from gx O .listener]at h;exact h))
  have D_Post:Dk l.prog w K mg base 1 "Post" CP ["self","name"] (dv ⟨CN,CP,CH,CL⟩):=oY f7 X G aCP (fun _ _ _ _ _ _ us hl=>cK us hl (fun _ _=>rfl)) (fun f fd F=>fG F O)
  have D_House:Dk l.prog w K mg base 1 "House" CH ["self","name"] (dv ⟨CN,CP,CH,CL⟩):=oY f8 X G aCH (fun _ _ _ _ _ _ us hl=>cK us hl (fun _ _=>rfl)) (fun f fd F=>fG F O)
  have D_Listener:Dk l.prog w K mg base 1 "Listener" CL ["self","name"] (dv ⟨CN,CP,CH,CL⟩):=oY f9 X G aCL (fun _ _ _ _ _ _ us hl=>cK us hl (fun _ _=>rfl)) (fun f fd F=>fG F O)
  have D_Net:Dk l.prog w K mg base 1 "Net" CN ["self"] (kP ⟨CN,CP,CH,CL⟩):=oY f10 X G aCN (fun _ _ _ _ _ _ us hl=>fK us hl (fun _=>rfl)) (fun f fd F=>qt F O)
  have D_reads:∀ C,jQ (⟨CN,CP,CH,CL⟩:Cl) C->Dm l.prog w K mg base 1 C "reads" ["self"] (bT ⟨CN,CP,CH,CL⟩ C):=by
   rintro _ ⟨k,rfl⟩
   cases k with
   | house=>exact R_House
   | listener=>exact R_Listener
   | post=>exact R_Post
  have D_hears:∀ C,jQ (⟨CN,CP,CH,CL⟩:Cl) C->Dm l.prog w K mg base 1 C "hears" ["self"] (bU ⟨CN,CP,CH,CL⟩ C):=by
   rintro _ ⟨k,rfl⟩
   cases k with
   | house=>exact H_House
   | listener=>exact H_Listener
   | post=>exact H_Post
  have D_Net_check_new_name:DmX l.prog w K mg base 2 CN "check_new_name" ["self","name"] (kQ ⟨CN,CP,CH,CL⟩ ⟨xNN,xTk,xOH,xTM⟩):=gQ f11 clCN (fun _ _ _ _ _ _ us hl=>cK us hl (fun _ _=>rfl)) (fun f fd F=>fS F O TX D_is_name)
  have D_Net_listeners:Dm l.prog w K mg base 2 CN "listeners" ["self"] (de ⟨CN,CP,CH,CL⟩):=bJ f12 clCN (fun _ _ _ _ _ _ us hl=>fK us hl (fun _=>rfl)) (fun f fd F=>jG F O D_reads)
  have D_Net_home:Dm l.prog w K mg base 2 CN "home" ["self"] (kC ⟨CN,CP,CH,CL⟩):=bJ f13 clCN (fun _ _ _ _ _ _ us hl=>fK us hl (fun _=>rfl)) (fun f fd F=>qu F O D_hears)
  have D_Net_put_in:DmX l.prog w K mg base 3 CN "put_in" ["self","post"] (dk ⟨CN,CP,CH,CL⟩ ⟨xNN,xTk,xOH,xTM⟩):=gQ f14 clCN (fun _ _ _ _ _ _ us hl=>cK us hl (fun _ _=>rfl)) (fun f fd F=>mM F O TL TG TX D_reads D_Net_listeners)
  have D_Net_post:DmX l.prog w K mg base 4 CN "post" ["self","name"] (fk ⟨CN,CP,CH,CL⟩ ⟨xNN,xTk,xOH,xTM⟩ .post):=gQ f15 clCN (fun _ _ _ _ _ _ us hl=>cK us hl (fun _ _=>rfl)) (fun f fd F=>qp F O D_Net_check_new_name D_Net_put_in D_Post)
  have D_Net_listener:DmX l.prog w K mg base 4 CN "listener" ["self","name"] (fk ⟨CN,CP,CH,CL⟩ ⟨xNN,xTk,xOH,xTM⟩ .listener):=gQ f16 clCN (fun _ _ _ _ _ _ us hl=>cK us hl (fun _ _=>rfl)) (fun f fd F=>kq F O D_Net_check_new_name D_Net_put_in D_Listener)
  have D_Net_house:DmX l.prog w K mg base 4 CN "house" ["self","name"] (fk ⟨CN,CP,CH,CL⟩ ⟨xNN,xTk,xOH,xTM⟩ .house):=gQ f17 clCN (fun _ _ _ _ _ _ us hl=>cK us hl (fun _ _=>rfl)) (fun f fd F=>oU F O TX D_Net_check_new_name D_Net_put_in D_Net_home D_House)
  have D_is_whole:Df l.prog w K mg base 1 "is_whole" ["number"] cR:=aR f18 X G (fun _ _ _ _ _ _ us hl=>fK us hl (fun _=>rfl)) (fun f fd F=>qj F TN TI)
  have D_is_delay:Df l.prog w K mg base 2 "is_delay" ["number"] fZ:=aR f19 X G (fun _ _ _ _ _ _ us hl=>fK us hl (fun _=>rfl)) (fun f fd F=>qm F TH D_is_whole)
  have D_Net_ties:Dm l.prog w K mg base 1 CN "ties" ["self"] (gE ⟨CN,CP,CH,CL⟩):=bJ f20 clCN (fun _ _ _ _ _ _ us hl=>fK us hl (fun _=>rfl)) (fun f fd F=>qo F O)
  have D_led_to:Df l.prog w K mg base 1 "led_to" ["ties","start"] jr:=aR f21 X G (fun _ _ _ _ _ _ us hl=>cK us hl (fun _ _=>rfl)) (fun f fd F=>ui F TN)
  have D_Net_check_there:Dm l.prog w K mg base 1 CN "check_there" ["self","name"] (fW ⟨CN,CP,CH,CL⟩):=bJ f22 clCN (fun _ _ _ _ _ _ us hl=>cK us hl (fun _ _=>rfl)) (fun f fd F=>iE F O)
  have D_Net_check_ends:DmX l.prog w K mg base 2 CN "check_ends" ["self","one","other"] (oh ⟨CN,CP,CH,CL⟩ ⟨xIH,xRM,xNo,xTM⟩):=gQ f23 clCN (fun _ _ _ _ _ _ us hl=>jd us hl (fun _ _ _=>rfl)) (fun f fd F=>ja F O TY D_hears D_Net_check_there D_Net_ties D_led_to)
  have D_Net_tie:DmX l.prog w K mg base 3 CN "tie" ["self","one","other","delay"] (o0 ⟨CN,CP,CH,CL⟩ ⟨xIH,xRM,xNo,xTM⟩):=vH f24 clCN (fun _ _ _ _ _ _ _ _ us hl=>qG us hl (fun _ _ _ _=>⟨_,rfl,rfl⟩)) (fun f fd F=>lP F O TN TH TY D_Net_check_ends D_is_delay)
  have D_Net_tied:y8 l.prog w K mg base 3 CN "tie" ["self","one","other","delay"] [.int 1] (o0 ⟨CN,CP,CH,CL⟩ ⟨xIH,xRM,xNo,xTM⟩):=ut f25 clCN (fun _ _ _ _ _ _ _ _ us hl=>jd us (Nat.succ.inj hl) (fun _ _ _=>⟨_,rfl,rfl⟩)) (fun f fd F=>lP F O TN TH TY D_Net_check_ends D_is_delay)
  have D_Net_cut_tie:Dm l.prog w K mg base 2 CN "cut_tie" ["self","number"] (i0 ⟨CN,CP,CH,CL⟩):=bJ f26 clCN (fun _ _ _ _ _ _ us hl=>cK us hl (fun _ _=>rfl)) (fun f fd F=>lR F O D_is_whole)
  have D_Net_into:Dm l.prog w K mg base 2 CN "into" ["self","name"] (dP ⟨CN,CP,CH,CL⟩ NS.into):=bJ f27 clCN (fun _ _ _ _ _ _ us hl=>cK us hl (fun _ _=>rfl)) (fun f fd F=>qr F O D_Net_check_there D_Net_ties)
  have D_Net_out_of:Dm l.prog w K mg base 2 CN "out_of" ["self","name"] (dP ⟨CN,CP,CH,CL⟩ NS.outOf):=bJ f28 clCN (fun _ _ _ _ _ _ us hl=>cK us hl (fun _ _=>rfl)) (fun f fd F=>mO F O D_Net_check_there D_Net_ties)
  have D_first_ready:Df l.prog w K mg base 1 "first_ready" ["begins","told"] dw:=aR f29 X G (fun _ _ _ _ _ _ us hl=>cK us hl (fun _ _=>rfl)) (fun f fd F=>lL F TO)
  have D_Net_ordered:Dm l.prog w K mg base 2 CN "ordered" ["self"] (hV ⟨CN,CP,CH,CL⟩):=bJ f30 clCN (fun _ _ _ _ _ _ us hl=>fK us hl (fun _=>rfl)) (fun f fd F=>lQ F O TO D_Net_ties D_first_ready)
  have D_mixing_ties:Df l.prog w K mg base 3 "mixing_ties" ["net"] (gF ⟨CN,CP,CH,CL⟩):=aR f31 X G (fun _ _ _ _ _ _ us hl=>fK us hl (fun _=>rfl)) (fun f fd F=>lJ F O D_Net_home D_Net_ordered D_Net_into D_Net_out_of)
  have D_by_number:Df l.prog w K mg base 1 "by_number" ["told"] cy:=aR f32 X G (fun _ _ _ _ _ _ us hl=>fK us hl (fun _=>rfl)) (fun f fd F=>oS F TB)
  have D_wanted_lengths:Df l.prog w K mg base 4 "wanted_lengths" ["net","many"] (jn ⟨CN,CP,CH,CL⟩):=aR f33 X G (fun _ _ _ _ _ _ us hl=>cK us hl (fun _ _=>rfl)) (fun f fd F=>j0 F O TDd D_mixing_ties D_by_number)
  have D_is_number_of:Df l.prog w K mg base 2 "is_number_of" ["field","number"] (cY CF):=aR f34 X G (fun _ _ _ _ _ _ us hl=>cK us hl (fun _ _=>rfl)) (fun f fd F=>km F TFi D_is_whole)
  have D_is_row_of:Df l.prog w K mg base 3 "is_row_of" ["field","row","length"] (fq K CF):=aR f35 X G (fun _ _ _ _ _ _ us hl=>jd us hl (fun _ _ _=>rfl)) (fun f fd F=>oQ F TFi D_is_number_of)
  have D_is_prime:Df l.prog w K mg base 1 "is_prime" ["number"] fY:=aR f36 X G (fun _ _ _ _ _ _ us hl=>fK us hl (fun _=>rfl)) (fun f fd F=>ql F )
  have D_Field:DkX l.prog w K mg base 2 "Field" CF ["self","prime"] (iR CF xPr):=xG f37 X G aCF (fun _ _ _ _ _ _ us hl=>cK us hl (fun _ _=>rfl)) (fun f fd F=>xo F TPp D_is_prime)
  have D_NoPlan:DiX l.prog w K mg base 1 "NoPlan" xPl ["self","number"] (gH xPl "number"):=xi0_di f38 X G aPl (fun _ _ _ _ _ _ us hl=>cK us hl (fun _ _=>rfl)) (fun f fd F=>lO F EFP)
  have D_checked_plan:DfX l.prog w K mg base 5 "checked_plan" ["net","plan","many","prime"] (ia ⟨CN,CP,CH,CL⟩ CF xPr xPl):=xK f39 X G (fun _ _ _ _ _ _ us hl=>qG us hl (fun _ _ _ _=>rfl)) (fun f fd F=>ko F O TC D_Field D_wanted_lengths D_is_row_of D_NoPlan)
  have D_Field_fit:Dm l.prog w K mg base 1 CF "fit" ["self","number"] (hZ CF):=bJ f40 clCF (fun _ _ _ _ _ _ us hl=>cK us hl (fun _ _=>rfl)) (fun f fd F=>ok_fit F TF2)
  have D_Field_times:Dm l.prog w K mg base 2 CF "times" ["self","one","other"] (fV CF):=bJ f41 clCF (fun _ _ _ _ _ _ us hl=>jd us hl (fun _ _ _=>rfl)) (fun f fd F=>vz F TF2 D_Field_fit)
  have D_Field_minus:Dm l.prog w K mg base 2 CF "minus" ["self","one","other"] (iQ CF):=bJ f42 clCF (fun _ _ _ _ _ _ us hl=>jd us hl (fun _ _ _=>rfl)) (fun f fd F=>vA F TF2 D_Field_fit)
  have D_Field_back:Dm l.prog w K mg base 3 CF "back" ["self","number"] (oj CF):=bJ f43 clCF (fun _ _ _ _ _ _ us hl=>cK us hl (fun _ _=>rfl)) (fun f fd F=>xq F TF2 D_Field_fit D_Field_times)
  have D_row_sum:Df l.prog w K mg base 3 "row_sum" ["field","one","other"] (fi CF):=aR f44 X G (fun _ _ _ _ _ _ us hl=>jd us hl (fun _ _ _=>rfl)) (fun f fd F=>rR F TF2 D_Field_fit)
  have D_column:Df l.prog w K mg base 1 "column" ["table","place"] jt:=aR f45 X G (fun _ _ _ _ _ _ us hl=>cK us hl (fun _ _=>rfl)) (fun f fd F=>uj F )
  have D_ones_row:Df l.prog w K mg base 1 "ones_row" ["many","own"] dO:=aR f46 X G (fun _ _ _ _ _ _ us hl=>cK us hl (fun _ _=>rfl)) (fun f fd F=>qi F TF2)
  have D_ones:Df l.prog w K mg base 2 "ones" ["many"] kB:=aR f47 X G (fun _ _ _ _ _ _ us hl=>fK us hl (fun _=>rfl)) (fun f fd F=>xm F TF2 D_ones_row)
  have D_coming_in:Df l.prog w K mg base 1 "coming_in" ["message","mixed","carries"] gI:=aR f48 X G (fun _ _ _ _ _ _ us hl=>jd us hl (fun _ _ _=>rfl)) (fun f fd F=>oR F )
  have D_flow:Df l.prog w K mg base 4 "flow" ["field","mixing","plan","message","fallen"] (og CF):=aR f49 X G (fun _ _ _ _ _ _ us hl=>xA us hl (fun _ _ _ _ _=>rfl)) (fun f fd F=>xp F D_row_sum D_coming_in D_by_number)
  have D_carried:DfX l.prog w K mg base 5 "carried" ["net","plan","many","prime","fallen"] (fu ⟨CN,CP,CH,CL⟩):=qN f50 X G (fun _ _ _ _ _ _ _ us hl=>xA us hl (fun _ _ _ _ _=>⟨_,rfl,rfl⟩)) (fun f fd F=>lN F TB D_Field D_mixing_ties D_flow D_ones D_column D_by_number)
  have D_carriedd:wy l.prog w K mg base 5 "carried" ["net","plan","many","prime","fallen"] [.non] (fu ⟨CN,CP,CH,CL⟩):=nG f50 X G (fun _ _ _ _ _ _ _ us hl=>qG us (Nat.succ.inj hl) (fun _ _ _ _=>⟨_,rfl,rfl⟩)) (fun f fd F=>lN F TB D_Field D_mixing_ties D_flow D_ones D_column D_by_number)
  have D_fitted_row:Df l.prog w K mg base 2 "fitted_row" ["field","row"] (dY CF):=aR f51 X G (fun _ _ _ _ _ _ us hl=>cK us hl (fun _ _=>rfl)) (fun f fd F=>mL F D_Field_fit)
  have D_row_with:Df l.prog w K mg base 1 "row_with" ["rows","start","place"] fX:=aR f52 X G (fun _ _ _ _ _ _ us hl=>jd us hl (fun _ _ _=>rfl)) (fun f fd F=>qh F TM)
  have D_scaled:Df l.prog w K mg base 3 "scaled" ["field","row","number"] (jo CF):=aR f53 X G (fun _ _ _ _ _ _ us hl=>jd us hl (fun _ _ _=>rfl)) (fun f fd F=>uf F D_Field_times)
  have D_without:Df l.prog w K mg base 3 "without" ["field","row","lead","place"] (hU CF):=aR f54 X G (fun _ _ _ _ _ _ us hl=>qG us hl (fun _ _ _ _=>rfl)) (fun f fd F=>rQ F TM D_Field_minus D_Field_times)
  have D_cleared:Df l.prog w K mg base 4 "cleared" ["field","rows","start","at","place"] (i9 CF):=aR f55 X G (fun _ _ _ _ _ _ us hl=>xA us hl (fun _ _ _ _ _=>rfl)) (fun f fd F=>rV F D_scaled D_Field_back D_without)
  have D_reduced:Df l.prog w K mg base 5 "reduced" ["field","table","many"] (fj CF):=aR f56 X G (fun _ _ _ _ _ _ us hl=>jd us hl (fun _ _ _=>rfl)) (fun f fd F=>rS F TM D_fitted_row D_row_with D_cleared)
  have D_first_place:Df l.prog w K mg base 1 "first_place" ["row","many"] dA:=aR f57 X G (fun _ _ _ _ _ _ us hl=>cK us hl (fun _ _=>rfl)) (fun f fd F=>lM F TM)
  have D_lead_places:Df l.prog w K mg base 2 "lead_places" ["rows","many"] cx:=aR f58 X G (fun _ _ _ _ _ _ us hl=>cK us hl (fun _ _=>rfl)) (fun f fd F=>lK F D_first_place)
  have D_reader:Df l.prog w K mg base 6 "reader" ["field","table","many"] (jp CF):=aR f59 X G (fun _ _ _ _ _ _ us hl=>jd us hl (fun _ _ _=>rfl)) (fun f fd F=>ug F TM D_ones D_lead_places D_reduced)
  have D_nought:Df l.prog w K mg base 6 "nought" ["field","table","many"] (jq CF):=aR f60 X G (fun _ _ _ _ _ _ us hl=>jd us hl (fun _ _ _=>rfl)) (fun f fd F=>uh F TM D_lead_places D_reduced D_ones_row D_Field_minus)
  have D_judgement:Df l.prog w K mg base 7 "judgement" ["field","table","many"] (fm CF):=aR f61 X G (fun _ _ _ _ _ _ us hl=>jd us hl (fun _ _ _=>rfl)) (fun f fd F=>oP F D_reader D_nought)
  have D_judged:DfX l.prog w K mg base 8 "judged" ["net","plan","many","prime","fallen"] (gG ⟨CN,CP,CH,CL⟩ CF xPr xPl):=qN f62 X G (fun _ _ _ _ _ _ _ us hl=>xA us hl (fun _ _ _ _ _=>⟨_,rfl,rfl⟩)) (fun f fd F=>ng F D_checked_plan D_Field D_carried D_Net_listeners D_Net_into D_judgement)
  have D_judgedd:wy l.prog w K mg base 8 "judged" ["net","plan","many","prime","fallen"] [.non] (gG ⟨CN,CP,CH,CL⟩ CF xPr xPl):=nG f62 X G (fun _ _ _ _ _ _ _ us hl=>qG us (Nat.succ.inj hl) (fun _ _ _ _=>⟨_,rfl,rfl⟩)) (fun f fd F=>ng F D_checked_plan D_Field D_carried D_Net_listeners D_Net_into D_judgement)
  have D_Lcell_at:Df l.prog w K mg base 1 "_law_cell_at" ["_law_script","_law_k"] (g7 K):=aR f63 X G (fun _ _ _ _ _ _ us hl=>cK us hl (fun _ _=>rfl)) (fun f fd F=>qw F TA)
  have D_Lmix:Df l.prog w K mg base 1 "_law_mix" ["_law_cell","_law_k"] kD:=aR f64 X G (fun _ _ _ _ _ _ us hl=>cK us hl (fun _ _=>rfl)) (fun f fd F=>xt F TA)
  have D_Lnet:Df l.prog w K mg base 5 "_law_net" ["_law_cells"] (om ⟨CN,CP,CH,CL⟩):=aR f65 X G (fun _ _ _ _ _ _ us hl=>fK us hl (fun _=>rfl)) (fun f fd F=>xr F TA D_Net D_Lmix D_Net_house D_Net_listener D_Net_post D_Net_tied D_Net_cut_tie)
  have D_Lsize:Df l.prog w K mg base 1 "_law_size" ["_law_ties","_law_one","_law_many"] iS:=aR f66 X G (fun _ _ _ _ _ _ us hl=>jd us hl (fun _ _ _=>rfl)) (fun f fd F=>vC F TA)
  have D_Lspoil:Df l.prog w K mg base 1 "_law_spoil" ["_law_plan","_law_numbers","_law_prime","_law_drawn"] ju:=aR f67 X G (fun _ _ _ _ _ _ us hl=>qG us hl (fun _ _ _ _=>rfl)) (fun f fd F=>uk F TA)
  have D_Ldue:Df l.prog w K mg base 2 "_law_due" ["_law_plan","_law_ties","_law_many","_law_prime"] oo:=aR f68 X G (fun _ _ _ _ _ _ us hl=>qG us hl (fun _ _ _ _=>rfl)) (fun f fd F=>xu F TA D_Lsize)
  have D_Lword:Df l.prog w K mg base 9 "_law_word" ["_law_net_here","_law_plan","_law_many","_law_prime"] (kS ⟨CN,CP,CH,CL⟩ xPr xPl):=aR f69 X G (fun _ _ _ _ _ _ us hl=>qG us hl (fun _ _ _ _=>rfl)) (fun f fd F=>vB F TW D_judgedd)
  exact ok_law (c:=⟨CN,CP,CH,CL⟩) FL TQ D_Lcell_at D_Lmix D_Lnet D_Lsize D_Lspoil D_Ldue D_Lword
theorem walk {l:PySem.W.OpenLaw}{q:Program}{loose:List Str}{XP:(Str->Option Value)->Heap->Prop}{YP:World->Heap->Prop}{d:DefRec}{K:Params->PySem.W.Frag} (hn:l.most=some 63) (hdf:d.params.defaults=[])
  (hY:∀ (w:World)(h:Heap),YP w h->(K w.params).In h)
  (F:∀ (w:World)(mg:Str->Option Value)(fa:Addr)(h:Heap),(K w.params).In h->h.Ns mainGlobals mg->mg d.name=some (.ref fa)->
   ∃ fd:FuncData,(∀ (s:Shared)(u:Value),BindsTo s fd ⟨[u],[]⟩ [("_law_script",u)])/\∀ base:Heap,(K w.params).In base->base.Ns mainGlobals mg->FnOk l.prog w (K w.params) mg base CX0 10 fa fd ["_law_script"] (oa (K w.params))):
  PySem.W.WalkO q loose XP YP l.row.toRowW d [] (fun f vs=>PySem.call f vs):=
 L2.walk_of (n:=63) (k:=10) (x:="_law_script") (CX:=fun _=>CX0) (sp:=fun w=>oa (K w.params)) hn (by decide) hdf ⟨rfl,by decide,by decide⟩ hY F (fun _ _ a ns hl _ hS=>⟨a,ns,rfl,hS,hl,fun _=>rfl⟩) fun _ _ _ _ _ z=>z
end K52
open PySem PySem.W PyProof.Rows L2
set_option maxRecDepth 100000 in
set_option maxHeartbeats 0 in
theorem PySem.Challenge.cw_mixposts_k52_judged_and_refused_holds : PySem.Challenge.rw_mixposts_k52_judged_and_refused.Holds := by
  w_on; o_law; k_head; (case hw => w_witness2)
  k_fill
  refine K52.walk (l := PySem.Challenge.rw_mixposts_k52_judged_and_refused) rfl rfl (fun w h Y => PySem.W.kIn_of Y) ?F
  case F =>
    intro w mg fa h KX G hmg
    refine' K52.all_mk KX G hmg ?aCN ?aCP ?aCH ?aCL ?aCF ?pgCN ?hdCN ?poCN ?saCN ?pgCP ?hdCP ?poCP ?saCP ?pgCH ?hdCH ?poCH ?saCH ?pgCL ?hdCL ?poCL ?saCL ?pgCF ?hdCF ?poCF ?saCF ?nCN_kept_posts ?nCN_kept_ties ?nCN_next_number ?nCP_name ?nCH_name ?nCL_name ?nCF_prime ?e_NoName ?xc_NoName ?e_Taken ?xc_Taken ?e_OneHouse ?xc_OneHouse ?e_TooMany ?xc_TooMany ?e_IntoHouse ?xc_IntoHouse ?e_RingMade ?xc_RingMade ?e_NoNumber ?xc_NoNumber ?e_NoPrime ?xc_NoPrime ?g_LETTERS ?g_LONGEST_NAME ?g_MOST_POSTS ?g_MOST_LISTENERS ?g_MOST_TIES ?g_LONGEST_DELAY ?g_GREATEST_PRIME ?k_str_str ?k_int_int ?k_int_bool ?k_dict_dict ?ne_ph ?ne_pl ?ne_hl ?aPl ?aNB ?aPE ?gg ?tc ?pl_ga ?pl_gt ?pl_ec ?pl_mo ?pl_mb ?pl_hd ?pr_ga ?pr_gt ?pr_ec ?pr_mo ?pr_mb ?pr_hd ?pl_sa ?pl_ov ?pl_tk ?pl_na ?em1 ?em2 ?ki1 ?ki2 ?ki3 ?ki4 ?ki5 ?z_len ?z_isinstance ?z_str ?z_all ?z_list ?z_int ?z_bool ?z_enumerate ?z_range ?z_min ?z_max ?z_dict ?z_sorted ?z_zip ?z_sum ?z_tuple ?z_any ?z_set ?z_ValueError (aK ?A0 ?L0 ?C0 ?K0) (bh ?A1 ?I1 ?L1 ?C1 ?K1) (bh ?A2 ?I2 ?L2 ?C2 ?K2) (bh ?A3 ?I3 ?L3 ?C3 ?K3) (bh ?A4 ?I4 ?L4 ?C4 ?K4) (bh ?A5 ?I5 ?L5 ?C5 ?K5) (bh ?A6 ?I6 ?L6 ?C6 ?K6) (K52.in0_mk ?M7 ?A7 ?I7 ?KC7 ?L7 ?C7 ?K7) (K52.in0_mk ?M8 ?A8 ?I8 ?KC8 ?L8 ?C8 ?K8) (K52.in0_mk ?M9 ?A9 ?I9 ?KC9 ?L9 ?C9 ?K9) (K52.in0_mk ?M10 ?A10 ?I10 ?KC10 ?L10 ?C10 ?K10) (bh ?A11 ?I11 ?L11 ?C11 ?K11) (bh ?A12 ?I12 ?L12 ?C12 ?K12) (bh ?A13 ?I13 ?L13 ?C13 ?K13) (bh ?A14 ?I14 ?L14 ?C14 ?K14) (bh ?A15 ?I15 ?L15 ?C15 ?K15) (bh ?A16 ?I16 ?L16 ?C16 ?K16) (bh ?A17 ?I17 ?L17 ?C17 ?K17) (aK ?A18 ?L18 ?C18 ?K18) (aK ?A19 ?L19 ?C19 ?K19) (bh ?A20 ?I20 ?L20 ?C20 ?K20) (aK ?A21 ?L21 ?C21 ?K21) (bh ?A22 ?I22 ?L22 ?C22 ?K22) (bh ?A23 ?I23 ?L23 ?C23 ?K23) (K52.meD0_mk ?A24 ?I24 ?L24 ?C24 ?K24 ?D24) (K52.meD0_mk ?A25 ?I25 ?L25 ?C25 ?K25 ?D25) (bh ?A26 ?I26 ?L26 ?C26 ?K26) (bh ?A27 ?I27 ?L27 ?C27 ?K27) (bh ?A28 ?I28 ?L28 ?C28 ?K28) (aK ?A29 ?L29 ?C29 ?K29) (bh ?A30 ?I30 ?L30 ?C30 ?K30) (aK ?A31 ?L31 ?C31 ?K31) (aK ?A32 ?L32 ?C32 ?K32) (aK ?A33 ?L33 ?C33 ?K33) (aK ?A34 ?L34 ?C34 ?K34) (aK ?A35 ?L35 ?C35 ?K35) (aK ?A36 ?L36 ?C36 ?K36) (K52.in0_mk ?M37 ?A37 ?I37 ?KC37 ?L37 ?C37 ?K37) (K52.xi0_mk ?A38 ?O38 ?I38 ?KC38 ?L38 ?C38 ?K38) (aK ?A39 ?L39 ?C39 ?K39) (bh ?A40 ?I40 ?L40 ?C40 ?K40) (bh ?A41 ?I41 ?L41 ?C41 ?K41) (bh ?A42 ?I42 ?L42 ?C42 ?K42) (bh ?A43 ?I43 ?L43 ?C43 ?K43) (aK ?A44 ?L44 ?C44 ?K44) (aK ?A45 ?L45 ?C45 ?K45) (aK ?A46 ?L46 ?C46 ?K46) (aK ?A47 ?L47 ?C47 ?K47) (aK ?A48 ?L48 ?C48 ?K48) (aK ?A49 ?L49 ?C49 ?K49) (K52.fnD0_mk ?A50 ?L50 ?C50 ?K50 ?D50) (aK ?A51 ?L51 ?C51 ?K51) (aK ?A52 ?L52 ?C52 ?K52) (aK ?A53 ?L53 ?C53 ?K53) (aK ?A54 ?L54 ?C54 ?K54) (aK ?A55 ?L55 ?C55 ?K55) (aK ?A56 ?L56 ?C56 ?K56) (aK ?A57 ?L57 ?C57 ?K57) (aK ?A58 ?L58 ?C58 ?K58) (aK ?A59 ?L59 ?C59 ?K59) (aK ?A60 ?L60 ?C60 ?K60) (aK ?A61 ?L61 ?C61 ?K61) (K52.fnD0_mk ?A62 ?L62 ?C62 ?K62 ?D62) (aK ?A63 ?L63 ?C63 ?K63) (aK ?A64 ?L64 ?C64 ?K64) (aK ?A65 ?L65 ?C65 ?K65) (aK ?A66 ?L66 ?C66 ?K66) (aK ?A67 ?L67 ?C67 ?K67) (aK ?A68 ?L68 ?C68 ?K68) (aK ?A69 ?L69 ?C69 ?K69) (aK ?al ?ll ?cl ?kl)
    (case aCN | aCP | aCH | aCL | aCF | pgCN | hdCN | poCN | saCN | pgCP | hdCP | poCP | saCP | pgCH | hdCH | poCH | saCH | pgCL | hdCL | poCL | saCL | pgCF | hdCF | poCF | saCF | nCN_kept_posts | nCN_kept_ties | nCN_next_number | nCP_name | nCH_name | nCL_name | nCF_prime | e_NoName => first | k_is | kit_is)
    (case xc_NoName => k_exc)
    (case e_Taken => first | k_is | kit_is)
    (case xc_Taken => k_exc)
    (case e_OneHouse => first | k_is | kit_is)
    (case xc_OneHouse => k_exc)
    (case e_TooMany => first | k_is | kit_is)
    (case xc_TooMany => k_exc)
    (case e_IntoHouse => first | k_is | kit_is)
    (case xc_IntoHouse => k_exc)
    (case e_RingMade => first | k_is | kit_is)
    (case xc_RingMade => k_exc)
    (case e_NoNumber => first | k_is | kit_is)
    (case xc_NoNumber => k_exc)
    (case e_NoPrime => first | k_is | kit_is)
    (case xc_NoPrime => k_exc)
    (case g_LETTERS | g_LONGEST_NAME | g_MOST_POSTS | g_MOST_LISTENERS | g_MOST_TIES | g_LONGEST_DELAY | g_GREATEST_PRIME | k_str_str | k_int_int | k_int_bool | k_dict_dict => first | k_is | kit_is)
    (case ne_ph | ne_pl | ne_hl => first | decide | omega | (intro h; cases h))
    (case aPl | aNB | aPE | gg | tc | pl_ga | pl_gt | pl_ec | pl_mo | pl_mb | pl_hd | pr_ga | pr_gt | pr_ec | pr_mo | pr_mb | pr_hd | pl_sa => first | k_is | kit_is)
    (case pl_ov => first | kernel_rfl | rfl)
    (case pl_tk => first | k_is | kit_is | kernel_rfl)
    (case pl_na => first | k_is | kit_is)
    (case em1 | em2 => first | kts_exm | k_is | kit_is | kernel_rfl)
    (case ki1 | ki2 => first | k_is | kit_is)
    (case ki3 => first | kit_is | k_is | kernel_rfl)
    (case ki4 => first | k_is | kit_is)
    (case ki5 => first | kit_is | k_is | kernel_rfl)
    (case z_len | z_isinstance | z_str | z_all | z_list | z_int | z_bool | z_enumerate | z_range | z_min | z_max | z_dict | z_sorted | z_zip | z_sum | z_tuple | z_any | z_set | z_ValueError | A0 | L0 | C0 | K0 | A1 | I1 | L1 | C1 | K1 | A2 | I2 | L2 | C2 | K2 | A3 | I3 | L3 | C3 | K3 | A4 | I4 | L4 | C4 | K4 | A5 | I5 | L5 | C5 | K5 | A6 | I6 | L6 | C6 | K6 | A7 | M7 | I7 | KC7 | L7 | C7 | K7 | A8 | M8 | I8 | KC8 | L8 | C8 | K8 | A9 | M9 | I9 | KC9 | L9 | C9 | K9 | A10 | M10 | I10 | KC10 | L10 | C10 | K10 | A11 | I11 | L11 | C11 | K11 | A12 | I12 | L12 | C12 | K12 | A13 | I13 | L13 | C13 | K13 | A14 | I14 | L14 | C14 | K14 | A15 | I15 | L15 | C15 | K15 | A16 | I16 | L16 | C16 | K16 | A17 | I17 | L17 | C17 | K17 | A18 | L18 | C18 | K18 | A19 | L19 | C19 | K19 | A20 | I20 | L20 | C20 | K20 | A21 | L21 | C21 | K21 | A22 | I22 | L22 | C22 | K22 | A23 | I23 | L23 | C23 | K23 | A24 | I24 | L24 | C24 | K24 | D24 | A25 | I25 | L25 | C25 | K25 | D25 | A26 | I26 | L26 | C26 | K26 | A27 | I27 | L27 | C27 | K27 | A28 | I28 | L28 | C28 | K28 | A29 | L29 | C29 | K29 | A30 | I30 | L30 | C30 | K30 | A31 | L31 | C31 | K31 | A32 | L32 | C32 | K32 | A33 | L33 | C33 | K33 | A34 | L34 | C34 | K34 | A35 | L35 | C35 | K35 | A36 | L36 | C36 | K36 | A37 | M37 | I37 | KC37 | L37 | C37 | K37 | A38 => first | k_is | kit_is)
    (case O38 => first | kernel_rfl | rfl)
    (case I38 | KC38 | L38 | C38 | K38 | A39 | L39 | C39 | K39 | A40 | I40 | L40 | C40 | K40 | A41 | I41 | L41 | C41 | K41 | A42 | I42 | L42 | C42 | K42 | A43 | I43 | L43 | C43 | K43 | A44 | L44 | C44 | K44 | A45 | L45 | C45 | K45 | A46 | L46 | C46 | K46 | A47 | L47 | C47 | K47 | A48 | L48 | C48 | K48 | A49 | L49 | C49 | K49 | A50 | L50 | C50 | K50 | D50 | A51 | L51 | C51 | K51 | A52 | L52 | C52 | K52 | A53 | L53 | C53 | K53 | A54 | L54 | C54 | K54 | A55 | L55 | C55 | K55 | A56 | L56 | C56 | K56 | A57 | L57 | C57 | K57 | A58 | L58 | C58 | K58 | A59 | L59 | C59 | K59 | A60 | L60 | C60 | K60 | A61 | L61 | C61 | K61 | A62 | L62 | C62 | K62 | D62 | A63 | L63 | C63 | K63 | A64 | L64 | C64 | K64 | A65 | L65 | C65 | K65 | A66 | L66 | C66 | K66 | A67 | L67 | C67 | K67 | A68 | L68 | C68 | K68 | A69 | L69 | C69 | K69 | al | ll | cl | kl => first | k_is | kit_is)
