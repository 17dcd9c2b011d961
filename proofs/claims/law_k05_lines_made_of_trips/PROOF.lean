import PyProof.Rows.All
import Wide.All
import OpenK.AllK
import Wide.FinOn
import KE.KNestM
import HandS.EndTab
import HandS.ForMost
import HandS.IsInst
import HandS.Wide
import HandS.Lambda
import KE.SortData
import KE.SortKeyHeap
import HandS.ExcCtx
import PyProof.ReprRoads
import PyProof.StrOps2
import HandS.Property
import KE.GoesEnum
import KE.GoesMore
import KE.KLam
import HandS.Style
import HandS.Defaults
import HandS.ClsMeth
import HandS.ForDict
import KE.KCallOwn
import KE.KFmtOwn
import PyProof.Conv_bool
import HandS.MakeKw
import HandS.FStr
import PyProof.Rows.StrIntSpec
import PyProof.Rows.ReprOcc
import PyProof.ReprText
import HandS.Star
import HandS.TupAny
import HandS.GenList
import KE.DatumOrd
import HandS.SortKw
import HandS.More
import HandS.TryOnly
import OpenK.KMore
import HandS.Set
import HandS.Zip
import HandS.Rev
import HandS.Strs
import PyProof.ListRange
import PyProof.LongRange
import HandS.Flow
import KE.KDictPairs
import KE.KDictZip
import HandS.Deep
import HandS.Iter
import HandS.TupLe
import HandS.CallLocal
import HandS.SetFor
import KE.DataMinMax
import HandS.ExcInit
import HandS.HotCalls
import KE.KExcSuper
import KE.KSuper
import KE.KExcInit
import HandS.CallSlots
import KE.KTryMore
import KE.KExcIs
import HandS.ExcField
import HandS.ExcIs
import HandS.SuiteRaise
import HandS.RaiseFrom
import PyProof.NeKinds
import KE.KEqDict
import PyProof.ReprNest
import HandS.List
import OpenK.KLaw
import PySem.Challenge.RW_seatchains_k05_lines_made_of_trips
set_option Elab.async false
section
open PySem PySem.W PyProof.Rows
def PySem.W.Fast.tw14979817809247362176 : Nat := 0
def PySem.W.Fast.tw3441686075710144740 : Nat := 0
def PySem.W.Fast.tw13387347468781289492 : Nat := 0
def PySem.W.Fast.tw125922369839446088 : Nat := 0
def PySem.W.Fast.tw5360222849976820209 : Nat := 0
def PySem.W.Fast.tw3158432416611587956 : Nat := 0
def PySem.W.Fast.tw4055382943249817797 : Nat := 0
def PySem.W.Fast.tw1591515520573544462 : Nat := 0
def PySem.W.Fast.tw8682841622969614513 : Nat := 0
def PySem.W.Fast.tw14866949952753659327 : Nat := 0
def PySem.W.Fast.tw11828294519601110236 : Nat := 0
def PySem.W.Fast.tw3345527642778982396 : Nat := 0
def PySem.W.Fast.tw13018273808101838099 : Nat := 0
def PySem.W.Fast.tw5953881312190613978 : Nat := 0
def PySem.W.Fast.tw13509856423151839559 : Nat := 0
def PySem.W.Fast.tw6756785888889609391 : Nat := 0
def PySem.W.Fast.tw3486877602764862973 : Nat := 0
def PySem.W.Fast.tw2156304749880546375 : Nat := 0
def PySem.W.Fast.tw8456105249383924944 : Nat := 0
def PySem.W.Fast.tw11601727290523368216 : Nat := 0
def PySem.W.Fast.tw7096631186281945519 : Nat := 0
def PySem.W.Fast.tw5037426772327772030 : Nat := 0
def PySem.W.Fast.tw10527927789418743198 : Nat := 0
def PySem.W.Fast.tw857154534897069657 : Nat := 0
def PySem.W.Fast.tw6218727797831832988 : Nat := 0
def PySem.W.Fast.tw9309789111671503235 : Nat := 0
def PySem.W.Fast.tw4809545488173444943 : Nat := 0
def PySem.W.Fast.tw2956632737815169905 : Nat := 0
def PySem.W.Fast.tw3555508740614729821 : Nat := 0
def PySem.W.Fast.tw12367966306663462584 : Nat := 0
def PySem.W.Fast.tw9223550867300622548 : Nat := 0
def PySem.W.Fast.tw14926906314605730322 : Nat := 0
def PySem.W.Fast.tw9927617929389645704 : Nat := 0
def PySem.W.Fast.tw18037422504255698597 : Nat := 0
def PySem.W.Fast.tw10553721876476307994 : Nat := 0
def PySem.W.Fast.tw7666176840267965761 : Nat := 0
def PySem.W.Fast.tw153848464878305630 : Nat := 0
def PySem.W.Fast.tw2581809101757971335 : Nat := 0
def PySem.W.Fast.tw14692502662431968677 : Nat := 0
def PySem.W.Fast.tw639079093003022211 : Nat := 0
def PySem.W.Fast.tw3990156232006431575 : Nat := 0
def PySem.W.Fast.tw19828705852659630 : Nat := 0
def PySem.W.Fast.tw1541801691150611596 : Nat := 0
def PySem.W.Fast.tw16415944462280642356 : Nat := 0
def PySem.W.Fast.tw7302102918733278593 : Nat := 0
def PySem.W.Fast.tw2474348366264556319 : Nat := 0
def PySem.W.Fast.tw12194625215523730937 : Nat := 0
def PySem.W.Fast.tw1061570923164956592 : Nat := 0
def PySem.W.Fast.tw8995419254088771850 : Nat := 0
def PySem.W.Fast.tw15495478440493883081 : Nat := 0
def PySem.W.Fast.tw11564128954821894581 : Nat := 0
def PySem.W.Fast.tw4517526607971138326 : Nat := 0
def PySem.W.Fast.tw12559688195945690030 : Nat := 0
def PySem.W.Fast.tw15298637965924944053 : Nat := 0
def PySem.W.Fast.tw6333179704729594203 : Nat := 0
def PySem.W.Fast.tw7421471155814986223 : Nat := 0
def PySem.W.Fast.tw6185511461774056184 : Nat := 0
def PySem.W.Fast.tw18032154076006778195 : Nat := 0
def PySem.W.Fast.tw5282648455056180480 : Nat := 0
def PySem.W.Fast.tw16688495111745613966 : Nat := 0
def PySem.W.Fast.tw1499997969324356104 : Nat := 0
def PySem.W.Fast.tw8640284399343428004 : Nat := 0
def PySem.W.Fast.tw500897758482152465 : Nat := 0
def PySem.W.Fast.tw13329305392248002197 : Nat := 0
def PySem.W.Fast.tw12899001951244502196 : Nat := 0
def PySem.W.Fast.tw11998933567152898052 : Nat := 0
def PySem.W.Fast.tw15804894812650333865 : Nat := 0
def PySem.W.Fast.tw6868367919164862461 : Nat := 0
def PySem.W.Fast.tw517062554664971855 : Nat := 0
def PySem.W.Fast.tw1802931944908309077 : Nat := 0
def PySem.W.Fast.tw9298477001357154288 : Nat := 0
def PySem.W.Fast.tw6001741523671326375 : Nat := 0
def PySem.W.Fast.tw17305377536392977573 : Nat := 0
def PySem.W.Fast.tw6637462541404123269 : Nat := 0
def PySem.W.Fast.tw18247162596113423121 : Nat := 0
def PySem.W.Fast.tw5805097064537570142 : Nat := 0
def PySem.W.Fast.tw5014340412993243952 : Nat := 0
def PySem.W.Fast.tw2101346145328873853 : Nat := 0
def PySem.W.Fast.tw16534938166533177597 : Nat := 0
def PySem.W.Fast.tw8586114785806164871 : Nat := 0
def PySem.W.Fast.tw14417417407495793716 : Nat := 0
def PySem.W.Fast.tw11644448204817290116 : Nat := 0
def PySem.W.Fast.tw17270692096774163521 : Nat := 0
def PySem.W.Fast.tw12781046051989952558 : Nat := 0
def PySem.W.Fast.tw15836747757957113315 : Nat := 0
def PySem.W.Fast.tw12753127744209616736 : Nat := 0
def PySem.W.Fast.tw2992210529548969998 : Nat := 0
def PySem.W.Fast.tw3430414188307814290 : Nat := 0
def PySem.W.Fast.tw12529074139398260399 : Nat := 0
def PySem.W.Fast.tw16278672849412245445 : Nat := 0
def PySem.W.Fast.tw10723100122559732631 : Nat := 0
def PySem.W.Fast.tw7217462052841833189 : Nat := 0
def PySem.W.Fast.tw8231100420268689543 : Nat := 0
def PySem.W.Fast.tw7247089719140375406 : Nat := 0
def PySem.W.Fast.tw14271856669550422733 : Nat := 0
def PySem.W.Fast.tw18011156559134273381 : Nat := 0
def PySem.W.Fast.tw6741203814399376921 : Nat := 0
def PySem.W.Fast.tw14772750263220637227 : Nat := 0
def PySem.W.Fast.tw2596470731548758308 : Nat := 0
def PySem.W.Fast.tw9655969254161001672 : Nat := 0
def PySem.W.Fast.tw2398876470336144617 : Nat := 0
def PySem.W.Fast.tw17379110980556602514 : Nat := 0
def PySem.W.Fast.tw7951674860097235383 : Nat := 0
def PySem.W.Fast.tw13990511819155136272 : Nat := 0
def PySem.W.Fast.tw7775157834857821630 : Nat := 0
def PySem.W.Fast.tw7679733705930118342 : Nat := 0
def PySem.W.Fast.tw15108885645194581104 : Nat := 0
def PySem.W.Fast.tw15085048901871337586 : Nat := 0
def PySem.W.Fast.tw2907347515686542518 : Nat := 0
def PySem.W.Fast.tw17745235261524101858 : Nat := 0
def PySem.W.Fast.tw13865138484333123904 : Nat := 0
def PySem.W.Fast.tw13766565378649891599 : Nat := 0
def PySem.W.Fast.tw4705690646676639439 : Nat := 0
def PySem.W.Fast.tw7256690698526681011 : Nat := 0
def PySem.W.Fast.tw9861378862476378223 : Nat := 0
def PySem.W.Fast.tw5774071431086815676 : Nat := 0
def PySem.W.Fast.tw2140911304211361916 : Nat := 0
def PySem.W.Fast.tw12047640636785917318 : Nat := 0
def PySem.W.Fast.tw14298279170958996737 : Nat := 0
def PySem.W.Fast.tw1130931232447473746 : Nat := 0
def PySem.W.Fast.tw17996350550582578727 : Nat := 0
def PySem.W.Fast.tw1353765732176200562 : Nat := 0
def PySem.W.Fast.tw16440095102255793545 : Nat := 0
def PySem.W.Fast.tw13088530127758452221 : Nat := 0
def PySem.W.Fast.tw106811010524860498 : Nat := 0
def PySem.W.Fast.tw11447406028655965078 : Nat := 0
def PySem.W.Fast.tw18421852994779982503 : Nat := 0
def PySem.W.Fast.tw14783500017712348016 : Nat := 0
def PySem.W.Fast.tw12765211484920450342 : Nat := 0
def PySem.W.Fast.tw13874835804761566806 : Nat := 0
def PySem.W.Fast.tw1712050128168676898 : Nat := 0
def PySem.W.Fast.tw796836294648474148 : Nat := 0
def PySem.W.Fast.tw8083541604021347109 : Nat := 0
def PySem.W.Fast.tw16447337502366158039 : Nat := 0
def PySem.W.Fast.tw6823405570360468747 : Nat := 0
def PySem.W.Fast.tw18278560916337010301 : Nat := 0
def PySem.W.Fast.tw7531523108737087341 : Nat := 0
def PySem.W.Fast.tw13629067846437283884 : Nat := 0
def PySem.W.Fast.tw17695911278973420401 : Nat := 0
def PySem.W.Fast.tw15664695430845040868 : Nat := 0
def PySem.W.Fast.tw9935902682208851415 : Nat := 0
def PySem.W.Fast.tw16512255190183768806 : Nat := 0
def PySem.W.Fast.tw10707944949086461586 : Nat := 0
def PySem.W.Fast.tw6962566609944951974 : Nat := 0
def PySem.W.Fast.tw3178799491509311570 : Nat := 0
def PySem.W.Fast.tw13817397695784202060 : Nat := 0
def PySem.W.Fast.tw16654559381661000395 : Nat := 0
def PySem.W.Fast.tw4822200556975304513 : Nat := 0
def PySem.W.Fast.tw11841696780194369930 : Nat := 0
def PySem.W.Fast.tw11035117294236004309 : Nat := 0
def PySem.W.Fast.tw7594873711491185875 : Nat := 0
def PySem.W.Fast.tw13342946765885897121 : Nat := 0
def PySem.W.Fast.tw6868225493904062443 : Nat := 0
def PySem.W.Fast.tw17274906926005279780 : Nat := 0
def PySem.W.Fast.tw6766019723755356924 : Nat := 0
def PySem.W.Fast.tw12897674403906603614 : Nat := 0
def PySem.W.Fast.tw6327800753000055153 : Nat := 0
def PySem.W.Fast.tw17753348452552055762 : Nat := 0
def PySem.W.Fast.tw14175335751958656876 : Nat := 0
def PySem.W.Fast.tw13635055732709956092 : Nat := 0
def PySem.W.Fast.tw3968989520141366712 : Nat := 0
def PySem.W.Fast.tw5547261164574011130 : Nat := 0
def PySem.W.Fast.tw7474084697257171106 : Nat := 0
def PySem.W.Fast.tw4426127921342066205 : Nat := 0
def PySem.W.Fast.tw11772394460727313893 : Nat := 0
def PySem.W.Fast.tw10764418729816902459 : Nat := 0
def PySem.W.Fast.tw425761132859805903 : Nat := 0
def PySem.W.Fast.tw4591656160773579880 : Nat := 0
def PySem.W.Fast.tw15686153534639380476 : Nat := 0
def PySem.W.Fast.tw6104158032510768851 : Nat := 0
def PySem.W.Fast.tw5865056981114454117 : Nat := 0
def PySem.W.Fast.tw4773221485064011509 : Nat := 0
def PySem.W.Fast.tw4030575993858454756 : Nat := 0
def PySem.W.Fast.tw11777828267413523462 : Nat := 0
def PySem.W.Fast.tw3105719161034427001 : Nat := 0
def PySem.W.Fast.tw9187197583253754908 : Nat := 0
def PySem.W.Fast.tw3056704783710497846 : Nat := 0
def PySem.W.Fast.tw11443960460492227260 : Nat := 0
def PySem.W.Fast.tw13430424188927713993 : Nat := 0
def PySem.W.Fast.tw14563676952168920129 : Nat := 0
def PySem.W.Fast.tw8993117306564720277 : Nat := 0
def PySem.W.Fast.tw11353626959987845268 : Nat := 0
def PySem.W.Fast.tw13889009233945213023 : Nat := 0
def PySem.W.Fast.tw16594562366449823435 : Nat := 0
def PySem.W.Fast.tw9815281626250283990 : Nat := 0
def PySem.W.Fast.tw2707491204180513888 : Nat := 0
def PySem.W.Fast.tw10946879600729801412 : Nat := 0
def PySem.W.Fast.tw1534898390459529661 : Nat := 0
def PySem.W.Fast.tw762818680837323645 : Nat := 0
def PySem.W.Fast.tw3859459601343893455 : Nat := 0
def PySem.W.Fast.tw1287116482326366569 : Nat := 0
def PySem.W.Fast.tw7483241608107349151 : Nat := 0
def PySem.W.Fast.tw10043353069716169250 : Nat := 0
def PySem.W.Fast.tw5401972627519922732 : Nat := 0
def PySem.W.Fast.tw5197950639899750399 : Nat := 0
def PySem.W.Fast.tw11154381891065044534 : Nat := 0
def PySem.W.Fast.tw13559633296561198265 : Nat := 0
def PySem.W.Fast.tw13343303496416143224 : Nat := 0
def PySem.W.Fast.tw14431884139388054199 : Nat := 0
def PySem.W.Fast.tw11170574111290890582 : Nat := 0
def PySem.W.Fast.tw2334577702747857736 : Nat := 0
def PySem.W.Fast.tw13025798137633922794 : Nat := 0
def PySem.W.Fast.tw5451748370882445594 : Nat := 0
def PySem.W.Fast.tw11646051871936372244 : Nat := 0
def PySem.W.Fast.tw16664909441300774705 : Nat := 0
def PySem.W.Fast.tw5651683213895151390 : Nat := 0
def PySem.W.Fast.tw6206808353572982607 : Nat := 0
def PySem.W.Fast.tw17766984158994079394 : Nat := 0
def PySem.W.Fast.tw5702219496153811297 : Nat := 0
def PySem.W.Fast.tw10769823225072883286 : Nat := 0
def PySem.W.Fast.tw3267111874908615535 : Nat := 0
def PySem.W.Fast.tw323418458484954047 : Nat := 0
def PySem.W.Fast.tw15770513663877342170 : Nat := 0
def PySem.W.Fast.tw2994708198001102291 : Nat := 0
def PySem.W.Fast.tw5294930871149215397 : Nat := 0
def PySem.W.Fast.tw4571612830209092199 : Nat := 0
def PySem.W.Fast.tw9923066187346678636 : Nat := 0
def PySem.W.Fast.tw9512974574221841559 : Nat := 0
def PySem.W.Fast.tw834352171352713811 : Nat := 0
def PySem.W.Fast.tw14401165794102956998 : Nat := 0
def PySem.W.Fast.tw2250165774786983427 : Nat := 0
def PySem.W.Fast.tw6706624385455501147 : Nat := 0
def PySem.W.Fast.tw3787883872683584299 : Nat := 0
def PySem.W.Fast.tw6465209304382671367 : Nat := 0
def PySem.W.Fast.tw17922495748257630162 : Nat := 0
def PySem.W.Fast.tw16817250390273245191 : Nat := 0
def PySem.W.Fast.tw14137846792359081340 : Nat := 0
def PySem.W.Fast.tw11189206579253924080 : Nat := 0
def PySem.W.Fast.tw11131533648258078244 : Nat := 0
def PySem.W.Fast.tw5589372367741636686 : Nat := 0
def PySem.W.Fast.tw10018367994619659511 : Nat := 0
def PySem.W.Fast.tw336047560811367631 : Nat := 0
def PySem.W.Fast.tw349549536649086963 : Nat := 0
def PySem.W.Fast.tw16425669691366950431 : Nat := 0
def PySem.W.Fast.tw12993316898855814377 : Nat := 0
def PySem.W.Fast.tw5839780431391521101 : Nat := 0
def PySem.W.Fast.tw16575010305117538587 : Nat := 0
def PySem.W.Fast.tw9298226543491106771 : Nat := 0
def PySem.W.Fast.tw9433839178829707085 : Nat := 0
def PySem.W.Fast.tw394659546318426116 : Nat := 0
def PySem.W.Fast.tw5547340133608963364 : Nat := 0
def PySem.W.Fast.tw12205117919759900684 : Nat := 0
def PySem.W.Fast.tw14760011676872156704 : Nat := 0
def PySem.W.Fast.tw1320448814293722295 : Nat := 0
def PySem.W.Fast.tw18080469885181666457 : Nat := 0
def PySem.W.Fast.tw18101729658234889288 : Nat := 0
def PySem.W.Fast.tw11653778216039616402 : Nat := 0
def PySem.W.Fast.tw4105407258463750054 : Nat := 0
def PySem.W.Fast.tw7720095082437168067 : Nat := 0
def PySem.W.Fast.tw15135164344623624754 : Nat := 0
def PySem.W.Fast.tw3316753703495356351 : Nat := 0
def PySem.W.Fast.tw2572007388200114714 : Nat := 0
def PySem.W.Fast.tw14670466421644762898 : Nat := 0
def PySem.W.Fast.tw551966753816000148 : Nat := 0
def PySem.W.Fast.tw7440471613666135319 : Nat := 0
def PySem.W.Fast.tw12864094791891023508 : Nat := 0
def PySem.W.Fast.tw5561373555978582982 : Nat := 0
def PySem.W.Fast.tw15286993359218224243 : Nat := 0
def PySem.W.Fast.tw13423375553123352717 : Nat := 0
def PySem.W.Fast.tw13986319478350496265 : Nat := 0
def PySem.W.Fast.tw17198809350696875900 : Nat := 0
def PySem.W.Fast.tw12846334891184844325 : Nat := 0
def PySem.W.Fast.tw8397185969567148165 : Nat := 0
def PySem.W.Fast.tw16343911517303184568 : Nat := 0
def PySem.W.Fast.tw17938737804412899540 : Nat := 0
def PySem.W.Fast.tw13500305997631870361 : Nat := 0
def PySem.W.Fast.tw9479276220770383224 : Nat := 0
def PySem.W.Fast.tw1117436374144041708 : Nat := 0
def PySem.W.Fast.tw3807238229011972036 : Nat := 0
def PySem.W.Fast.tw8294559912449625299 : Nat := 0
def PySem.W.Fast.tw1840436232277264884 : Nat := 0
def PySem.W.Fast.tw5654163427934185820 : Nat := 0
def PySem.W.Fast.tw6905844621722057117 : Nat := 0
def PySem.W.Fast.tw9269737003795389104 : Nat := 0
def PySem.W.Fast.tw3009614327046748331 : Nat := 0
def PySem.W.Fast.tw378991815647514327 : Nat := 0
def PySem.W.Fast.tw9929361110070986102 : Nat := 0
def PySem.W.Fast.tw6725738954161460809 : Nat := 0
def PySem.W.Fast.tw1702882769240968265 : Nat := 0
def PySem.W.Fast.tw220714696289127006 : Nat := 0
def PySem.W.Fast.tw411583832270625833 : Nat := 0
def PySem.W.Fast.tw10202139441677558202 : Nat := 0
def PySem.W.Fast.tw7907728612468684895 : Nat := 0
def PySem.W.Fast.tw11385893843366732014 : Nat := 0
def PySem.W.Fast.tw6713912627817445463 : Nat := 0
def PySem.W.Fast.tw97321109526129244 : Nat := 0
def PySem.W.Fast.tw10365107485753495918 : Nat := 0
def PySem.W.Fast.tw6155437440200408620 : Nat := 0
def PySem.W.Fast.tw15980864801833832616 : Nat := 0
def PySem.W.Fast.tw8956255367985969172 : Nat := 0
def PySem.W.Fast.tw4393418192265657617 : Nat := 0
def PySem.W.Fast.tw17704484729934259108 : Nat := 0
def PySem.W.Fast.tw1069393112514395350 : Nat := 0
def PySem.W.Fast.tw11912060048024925753 : Nat := 0
def PySem.W.Fast.tw9579300831274295570 : Nat := 0
def PySem.W.Fast.tw7776915381337680924 : Nat := 0
def PySem.W.Fast.tw13071611906283584379 : Nat := 0
def PySem.W.Fast.tw16313540191812423811 : Nat := 0
def PySem.W.Fast.tw15444780997460235645 : Nat := 0
def PySem.W.Fast.tw9046322631575943886 : Nat := 0
def PySem.W.Fast.tw1943250840180534874 : Nat := 0
def PySem.W.Fast.tw12213311380936294511 : Nat := 0
def PySem.W.Fast.tw10809455504762581088 : Nat := 0
def PySem.W.Fast.tw1073561066472255161 : Nat := 0
def PySem.W.Fast.tw7969440461368296027 : Nat := 0
def PySem.W.Fast.tw4886493415620923114 : Nat := 0
def PySem.W.Fast.tw6809983103005071710 : Nat := 0
def PySem.W.Fast.tw6457804433657795777 : Nat := 0
def PySem.W.Fast.tw17583981905350693869 : Nat := 0
def PySem.W.Fast.tw3244183979402920528 : Nat := 0
def PySem.W.Fast.tw806319701216990928 : Nat := 0
def PySem.W.Fast.tw4377221520284647198 : Nat := 0
def PySem.W.Fast.tw11359664829778662899 : Nat := 0
def PySem.W.Fast.tw1545859485552730357 : Nat := 0
def PySem.W.Fast.tw17490441161544452745 : Nat := 0
def PySem.W.Fast.tw1639272885819720535 : Nat := 0
def PySem.W.Fast.tw4208063652869974997 : Nat := 0
def PySem.W.Fast.tw5419768184342279091 : Nat := 0
def PySem.W.Fast.tw15780506141699379084 : Nat := 0
def PySem.W.Fast.tw4814649496722065768 : Nat := 0
def PySem.W.Fast.tw15167446408299953572 : Nat := 0
def PySem.W.Fast.tw12720462691090390743 : Nat := 0
def PySem.W.Fast.tw18252544155557156284 : Nat := 0
def PySem.W.Fast.tw9067488417682886650 : Nat := 0
def PySem.W.Fast.tw12748011210245244458 : Nat := 0
def PySem.W.Fast.tw11630707590030863695 : Nat := 0
def PySem.W.Fast.tw17244623153049586926 : Nat := 0
def PySem.W.Fast.tw3297551220616214648 : Nat := 0
def PySem.W.Fast.tw15210850544171957667 : Nat := 0
def PySem.W.Fast.tw57952398768181129 : Nat := 0
def PySem.W.Fast.tw17606732119772254453 : Nat := 0
def PySem.W.Fast.tw6412933547970761493 : Nat := 0
def PySem.W.Fast.tw14442324860322848159 : Nat := 0
def PySem.W.Fast.tw4692593912404598877 : Nat := 0
def PySem.W.Fast.tw6125724681025958439 : Nat := 0
def PySem.W.Fast.tw10896982651643196226 : Nat := 0
def PySem.W.Fast.tw13288092714212557322 : Nat := 0
def PySem.W.Fast.tw438230388841109155 : Nat := 0
def PySem.W.Fast.tw5820256411446001941 : Nat := 0
def PySem.W.Fast.tw3233080650896237849 : Nat := 0
def PySem.W.Fast.tw13968695362420546978 : Nat := 0
def PySem.W.Fast.tw16821068305470885634 : Nat := 0
def PySem.W.Fast.tw4341086606667506290 : Nat := 0
def PySem.W.Fast.tw10570930205775740786 : Nat := 0
def PySem.W.Fast.tw661712496489565948 : Nat := 0
def PySem.W.Fast.tw247553677115630134 : Nat := 0
def PySem.W.Fast.tw8371226139106223819 : Nat := 0
def PySem.W.Fast.tw8516658688280784026 : Nat := 0
def PySem.W.Fast.tw17522332300843606067 : Nat := 0
def PySem.W.Fast.tw2144421080612844928 : Nat := 0
def PySem.W.Fast.tw6837410421045172698 : Nat := 0
def PySem.W.Fast.tw16190910798135540671 : Nat := 0
def PySem.W.Fast.tw14323292618210458937 : Nat := 0
def PySem.W.Fast.tw15225706314946016619 : Nat := 0
def PySem.W.Fast.tw12103620245394134454 : Nat := 0
def PySem.W.Fast.tw6438216976653879746 : Nat := 0
def PySem.W.Fast.tw10678389541330003424 : Nat := 0
def PySem.W.Fast.tw839970740251763247 : Nat := 0
def PySem.W.Fast.tw12856355203594013715 : Nat := 0
def PySem.W.Fast.tw6265372630993431846 : Nat := 0
def PySem.W.Fast.tw5965368577419472231 : Nat := 0
def PySem.W.Fast.tw17756371188920614601 : Nat := 0
def PySem.W.Fast.tw10409505226427067880 : Nat := 0
def PySem.W.Fast.tw234727343735887046 : Nat := 0
def PySem.W.Fast.tw1739945502821091038 : Nat := 0
def PySem.W.Fast.tw7604762243003871654 : Nat := 0
def PySem.W.Fast.tw14631670298253787202 : Nat := 0
def PySem.W.Fast.tw8412567857604825568 : Nat := 0
def PySem.W.Fast.tw11580181247337647865 : Nat := 0
def PySem.W.Fast.tw8300046264992727163 : Nat := 0
def PySem.W.Fast.tw17782593534104727066 : Nat := 0
def PySem.W.Fast.tw13581054725325565315 : Nat := 0
def PySem.W.Fast.tw13395757667297309545 : Nat := 0
def PySem.W.Fast.tw7468381214849966806 : Nat := 0
def PySem.W.Fast.tw17803235722982188791 : Nat := 0
def PySem.W.Fast.tw17615073368805956584 : Nat := 0
def PySem.W.Fast.tw8037318048069625278 : Nat := 0
def PySem.W.Fast.tw15023214566160699309 : Nat := 0
def PySem.W.Fast.tw3658873255633382265 : Nat := 0
def PySem.W.Fast.tw16365200328100794459 : Nat := 0
def PySem.W.Fast.tw1167281008456825624 : Nat := 0
def PySem.W.Fast.tw11526454353345702137 : Nat := 0
def PySem.W.Fast.tw12997610457283934323 : Nat := 0
def PySem.W.Fast.tw499651974103634382 : Nat := 0
def PySem.W.Fast.tw604997767564798507 : Nat := 0
def PySem.W.Fast.tw14652346382712784959 : Nat := 0
def PySem.W.Fast.tw17824887704756241151 : Nat := 0
def PySem.W.Fast.tw5926090066737589843 : Nat := 0
def PySem.W.Fast.tw4326489037946446874 : Nat := 0
def PySem.W.Fast.tw6389443710797744856 : Nat := 0
def PySem.W.Fast.tw13911817651784278349 : Nat := 0
def PySem.W.Fast.tw4136873687951914121 : Nat := 0
def PySem.W.Fast.tw7967321682419591761 : Nat := 0
def PySem.W.Fast.tw12902834216035160000 : Nat := 0
def PySem.W.Fast.tw14335636328352711927 : Nat := 0
def PySem.W.Fast.tw18182012364668326120 : Nat := 0
def PySem.W.Fast.tw17266669637658633563 : Nat := 0
def PySem.W.Fast.tw5492047911661501672 : Nat := 0
def PySem.W.Fast.tw1561869476000432143 : Nat := 0
def PySem.W.Fast.tw11989622924119353133 : Nat := 0
def PySem.W.Fast.tw17681871156109360127 : Nat := 0
def PySem.W.Fast.tw17909684662644470821 : Nat := 0
def PySem.W.Fast.tw8716241507818908227 : Nat := 0
def PySem.W.Fast.tw16158758553612814961 : Nat := 0
def PySem.W.Fast.tw16323038577965337516 : Nat := 0
def PySem.W.Fast.tw10702537410611108998 : Nat := 0
def PySem.W.Fast.tw4320941191288731824 : Nat := 0
def PySem.W.Fast.tw9539497485953369985 : Nat := 0
def PySem.W.Fast.tw17100549101968036321 : Nat := 0
def PySem.W.Fast.tw8680282103467488349 : Nat := 0
def PySem.W.Fast.tw9984955021871608994 : Nat := 0
def PySem.W.Fast.tw7639981960547111771 : Nat := 0
def PySem.W.Fast.tw7528477490131388067 : Nat := 0
def PySem.W.Fast.tw8316181087540346610 : Nat := 0
def PySem.W.Fast.tw17745024959403980775 : Nat := 0
def PySem.W.Fast.tw4759536613558597748 : Nat := 0
def PySem.W.Fast.tw12761123073112344446 : Nat := 0
def PySem.W.Fast.tw3910540213289149925 : Nat := 0
def PySem.W.Fast.tw13840092297115361761 : Nat := 0
def PySem.W.Fast.tw18213837712437491850 : Nat := 0
def PySem.W.Fast.tw8418526187409368250 : Nat := 0
def PySem.W.Fast.tw11008223443309735208 : Nat := 0
def PySem.W.Fast.tw1992592035705475163 : Nat := 0
def PySem.W.Fast.tw11230776831791703388 : Nat := 0
def PySem.W.Fast.tw14022399957380348685 : Nat := 0
def PySem.W.Fast.tw16942780083557274310 : Nat := 0
def PySem.W.Fast.tw3972461530727790262 : Nat := 0
def PySem.W.Fast.tw7743229079095663423 : Nat := 0
def PySem.W.Fast.tw12324267133166695351 : Nat := 0
def PySem.W.Fast.tw4047846644565114695 : Nat := 0
def PySem.W.Fast.tw2778151759201908707 : Nat := 0
def PySem.W.Fast.tw11700262701586121423 : Nat := 0
def PySem.W.Fast.tw1153213530996825218 : Nat := 0
def PySem.W.Fast.tw17562345879656708361 : Nat := 0
def PySem.W.Fast.tw16299989190574549672 : Nat := 0
def PySem.W.Fast.tw16599489639841395765 : Nat := 0
def PySem.W.Fast.tw18305627480510596191 : Nat := 0
def PySem.W.Fast.tw13499081063762037349 : Nat := 0
def PySem.W.Fast.tw450092592474993853 : Nat := 0
def PySem.W.Fast.tw5653319890661530140 : Nat := 0
def PySem.W.Fast.tw2763195939488351173 : Nat := 0
def PySem.W.Fast.tw17734873988995678016 : Nat := 0
def PySem.W.Fast.tw2319966162743319901 : Nat := 0
def PySem.W.Fast.tw5010060468675579758 : Nat := 0
def PySem.W.Fast.tw17025665354776987837 : Nat := 0
def PySem.W.Fast.tw3311954572160129146 : Nat := 0
def PySem.W.Fast.tw6688778016198732622 : Nat := 0
def PySem.W.Fast.tw253611522338253619 : Nat := 0
def PySem.W.Fast.tw13763719141805217276 : Nat := 0
def PySem.W.Fast.tw11430672720217975462 : Nat := 0
def PySem.W.Fast.tw18116418918872182314 : Nat := 0
def PySem.W.Fast.tw2220340698494875776 : Nat := 0
def PySem.W.Fast.tw7720632112695541461 : Nat := 0
def PySem.W.Fast.tw12327204431680538936 : Nat := 0
def PySem.W.Fast.tw12639735156707636799 : Nat := 0
def PySem.W.Fast.tw11220987312186831370 : Nat := 0
def PySem.W.Fast.tw2474940823374306500 : Nat := 0
def PySem.W.Fast.tw4184800963745582958 : Nat := 0
def PySem.W.Fast.tw959961373192629238 : Nat := 0
def PySem.W.Fast.tw10659034085260718078 : Nat := 0
def PySem.W.Fast.tw9796258810552553246 : Nat := 0
def PySem.W.Fast.tw4016786269680899787 : Nat := 0
def PySem.W.Fast.tw17272423096009010175 : Nat := 0
def PySem.W.Fast.tw5537771048981988730 : Nat := 0
def PySem.W.Fast.tw2539645818823569236 : Nat := 0
def PySem.W.Fast.tw10547460623377740253 : Nat := 0
def PySem.W.Fast.tw10994034488349262620 : Nat := 0
def PySem.W.Fast.tw4197738029337412191 : Nat := 0
def PySem.W.Fast.tw7310468875182254188 : Nat := 0
def PySem.W.Fast.tw2659446042616617594 : Nat := 0
def PySem.W.Fast.tw6336101521715950963 : Nat := 0
def PySem.W.Fast.tw17303215416247824024 : Nat := 0
def PySem.W.Fast.tw10909048047594154230 : Nat := 0
def PySem.W.Fast.tw1596649771782257513 : Nat := 0
def PySem.W.Fast.tw6171172991090473758 : Nat := 0
def PySem.W.Fast.tw10053953162880999131 : Nat := 0
def PySem.W.Fast.tw1772069172877482620 : Nat := 0
def PySem.W.Fast.tw18093562386050679608 : Nat := 0
def PySem.W.Fast.tw4645434547819950952 : Nat := 0
def PySem.W.Fast.tw1496714684062157026 : Nat := 0
def PySem.W.Fast.tw8885686561340494050 : Nat := 0
def PySem.W.Fast.tw2409844219406314857 : Nat := 0
def PySem.W.Fast.tw796309999586444797 : Nat := 0
def PySem.W.Fast.tw14577847041395132601 : Nat := 0
def PySem.W.Fast.tw17873270933803858674 : Nat := 0
def PySem.W.Fast.tw14676067556316571199 : Nat := 0
def PySem.W.Fast.tw11874052905987005961 : Nat := 0
def PySem.W.Fast.tw12799618184068564707 : Nat := 0
def PySem.W.Fast.tw17778795215760132745 : Nat := 0
def PySem.W.Fast.tw18109798331934518541 : Nat := 0
def PySem.W.Fast.tw1138997926345046237 : Nat := 0
def PySem.W.Fast.tw16234798475519865195 : Nat := 0
def PySem.W.Fast.tw13493058033467486194 : Nat := 0
def PySem.W.Fast.tw11900908740600645755 : Nat := 0
def PySem.W.Fast.tw12058226987813103284 : Nat := 0
def PySem.W.Fast.tw2683881225350138891 : Nat := 0
def PySem.W.Fast.tw8153452767439960216 : Nat := 0
def PySem.W.Fast.tw1189685734410480407 : Nat := 0
def PySem.W.Fast.tw11810470756080495534 : Nat := 0
def PySem.W.Fast.tw10505634032944629475 : Nat := 0
def PySem.W.Fast.tw15350446954794714330 : Nat := 0
def PySem.W.Fast.tw10407909225502240357 : Nat := 0
def PySem.W.Fast.tw14141571070838013253 : Nat := 0
def PySem.W.Fast.tw16012462497936157980 : Nat := 0
def PySem.W.Fast.tw3918018737743087055 : Nat := 0
def PySem.W.Fast.tw11050059813677609507 : Nat := 0
def PySem.W.Fast.tw4792826255995770863 : Nat := 0
def PySem.W.Fast.tw1294576617554763733 : Nat := 0
def PySem.W.Fast.tw2523766405710826609 : Nat := 0
def PySem.W.Fast.tw1658786179364000074 : Nat := 0
def PySem.W.Fast.tw1080927334367214119 : Nat := 0
def PySem.W.Fast.tw6007088296693723369 : Nat := 0
def PySem.W.Fast.tw3864128348560929323 : Nat := 0
def PySem.W.Fast.tw2031604138009261009 : Nat := 0
def PySem.W.Fast.tw18210474326853459360 : Nat := 0
def PySem.W.Fast.tw7761339671386569985 : Nat := 0
def PySem.W.Fast.tw16932382348497065351 : Nat := 0
def PySem.W.Fast.tw16873389111273214597 : Nat := 0
def PySem.W.Fast.tw18098105110071429710 : Nat := 0
def PySem.W.Fast.tw10871748411899903226 : Nat := 0
def PySem.W.Fast.tw12965938460733109462 : Nat := 0
def PySem.W.Fast.tw3168923432954013400 : Nat := 0
def PySem.W.Fast.tw3105415809695062682 : Nat := 0
def PySem.W.Fast.tw18026554754497278714 : Nat := 0
def PySem.W.Fast.tw292052540368188423 : Nat := 0
def PySem.W.Fast.tw5480070349280039342 : Nat := 0
def PySem.W.Fast.tw1388496325017190510 : Nat := 0
def PySem.W.Fast.tw15313717962459830000 : Nat := 0
def PySem.W.Fast.tw350771636200515246 : Nat := 0
def PySem.W.Fast.tw9747960074250603313 : Nat := 0
def PySem.W.Fast.tw6214741651166111914 : Nat := 0
def PySem.W.Fast.tw17101158818541349631 : Nat := 0
def PySem.W.Fast.tw16037465631478684454 : Nat := 0
def PySem.W.Fast.tw5118015602578607995 : Nat := 0
def PySem.W.Fast.tw3042329038079784520 : Nat := 0
def PySem.W.Fast.tw13938239527193840736 : Nat := 0
def PySem.W.Fast.tw16934869702297570878 : Nat := 0
def PySem.W.Fast.tw14481102080502540071 : Nat := 0
def PySem.W.Fast.tw726513571191147116 : Nat := 0
def PySem.W.Fast.tw5032409841609129577 : Nat := 0
def PySem.W.Fast.tw7094596466632132635 : Nat := 0
def PySem.W.Fast.tw15819417886909788510 : Nat := 0
def PySem.W.Fast.tw4126147511424598057 : Nat := 0
def PySem.W.Fast.tw2393086983410935446 : Nat := 0
def PySem.W.Fast.tw13122711916655138709 : Nat := 0
def PySem.W.Fast.tw15335419161504101790 : Nat := 0
def PySem.W.Fast.tw10653555653063912462 : Nat := 0
def PySem.W.Fast.tw8417464462238919737 : Nat := 0
def PySem.W.Fast.tw2069273784326262258 : Nat := 0
def PySem.W.Fast.tw17264910201636432607 : Nat := 0
def PySem.W.Fast.tw6381245522975381818 : Nat := 0
def PySem.W.Fast.tw17490246459973000920 : Nat := 0
def PySem.W.Fast.tw364771405381068299 : Nat := 0
def PySem.W.Fast.tw17996499797560975639 : Nat := 0
def PySem.W.Fast.tw15602604701384688712 : Nat := 0
def PySem.W.Fast.tw2213243317807371009 : Nat := 0
def PySem.W.Fast.tw8410499818754944206 : Nat := 0
def PySem.W.Fast.tw13309405117650900072 : Nat := 0
def PySem.W.Fast.tw7886724151862265910 : Nat := 0
def PySem.W.Fast.tw16504029964490403087 : Nat := 0
def PySem.W.Fast.tw5062166143624284591 : Nat := 0
def PySem.W.Fast.tw12033929797437147481 : Nat := 0
def PySem.W.Fast.tw17494008743365544356 : Nat := 0
def PySem.W.Fast.tw15027951162999486354 : Nat := 0
def PySem.W.Fast.tw7838690268626895284 : Nat := 0
def PySem.W.Fast.tw8106020100217602626 : Nat := 0
def PySem.W.Fast.tw4238001878591271199 : Nat := 0
def PySem.W.Fast.tw3618261302082413036 : Nat := 0
def PySem.W.Fast.tw1416775954665864966 : Nat := 0
def PySem.W.Fast.tw4813687540569811379 : Nat := 0
def PySem.W.Fast.tw1883214069025489524 : Nat := 0
def PySem.W.Fast.tw8756516726743709889 : Nat := 0
def PySem.W.Fast.tw8280431901022003807 : Nat := 0
def PySem.W.Fast.tw13259353682245853586 : Nat := 0
def PySem.W.Fast.tw1175661869656726784 : Nat := 0
def PySem.W.Fast.tw13452079081285749761 : Nat := 0
def PySem.W.Fast.tw14276278213849368684 : Nat := 0
def PySem.W.Fast.tw251910905381005780 : Nat := 0
def PySem.W.Fast.tw14781067156101459011 : Nat := 0
def PySem.W.Fast.tw1241106600201077654 : Nat := 0
def PySem.W.Fast.tw2923343608368573301 : Nat := 0
def PySem.W.Fast.tw5404674367580841706 : Nat := 0
def PySem.W.Fast.tw16087309833909048599 : Nat := 0
def PySem.W.Fast.tw6595921144696277218 : Nat := 0
def PySem.W.Fast.tw13441234742926562159 : Nat := 0
def PySem.W.Fast.tw643129387651337848 : Nat := 0
def PySem.W.Fast.tw8656171232759999362 : Nat := 0
def PySem.W.Fast.tw15215292040038131437 : Nat := 0
def PySem.W.Fast.tw17200151078588037872 : Nat := 0
def PySem.W.Fast.tw17558776809732471675 : Nat := 0
def PySem.W.Fast.tw1342738096024401010 : Nat := 0
def PySem.W.Fast.tw16573989399033251635 : Nat := 0
def PySem.W.Fast.tw8619120250835291049 : Nat := 0
def PySem.W.Fast.tw16755637094983924171 : Nat := 0
def PySem.W.Fast.tw6679976770527257337 : Nat := 0
def PySem.W.Fast.tw8403928236727008212 : Nat := 0
def PySem.W.Fast.tw8017152532964083575 : Nat := 0
def PySem.W.Fast.tw14655961551947395897 : Nat := 0
def PySem.W.Fast.tw13638322962308765241 : Nat := 0
def PySem.W.Fast.tw1590173667882362472 : Nat := 0
def PySem.W.Fast.tw10975535478347878352 : Nat := 0
def PySem.W.Fast.tw5413763771977351401 : Nat := 0
def PySem.W.Fast.tw14858409215363367060 : Nat := 0
def PySem.W.Fast.tw1862216011450212914 : Nat := 0
def PySem.W.Fast.tw7579883344972011514 : Nat := 0
def PySem.W.Fast.tw12543372339083189635 : Nat := 0
def PySem.W.Fast.tw7208039579434011889 : Nat := 0
def PySem.W.Fast.tw7492151297078719314 : Nat := 0
def PySem.W.Fast.tw16059917152766503129 : Nat := 0
def PySem.W.Fast.tw10002280267946463880 : Nat := 0
def PySem.W.Fast.tw2765924849653957272 : Nat := 0
def PySem.W.Fast.tw16638467735254535272 : Nat := 0
def PySem.W.Fast.tw6760281485325687263 : Nat := 0
def PySem.W.Fast.tw6587414165144105373 : Nat := 0
def PySem.W.Fast.tw8142498808834543195 : Nat := 0
def PySem.W.Fast.tw15344330535463479019 : Nat := 0
def PySem.W.Fast.tw11985639337495207253 : Nat := 0
def PySem.W.Fast.tw12295321936970235167 : Nat := 0
def PySem.W.Fast.tw8971953548060316393 : Nat := 0
def PySem.W.Fast.tw4405566024973247641 : Nat := 0
def PySem.W.Fast.tw17335852358408106078 : Nat := 0
def PySem.W.Fast.tw15349405338345579476 : Nat := 0
def PySem.W.Fast.tw14195256058056982758 : Nat := 0
def PySem.W.Fast.tw10980811388684492529 : Nat := 0
def PySem.W.Fast.tw4401732616917610939 : Nat := 0
def PySem.W.Fast.tw5993279445132322451 : Nat := 0
def PySem.W.Fast.tw6340048072615043030 : Nat := 0
def PySem.W.Fast.tw1572531340369514736 : Nat := 0
def PySem.W.Fast.tw6611479145384841156 : Nat := 0
def PySem.W.Fast.tw16437559548202385046 : Nat := 0
def PySem.W.Fast.tw13130551008538979097 : Nat := 0
def PySem.W.Fast.tw9014591727578236335 : Nat := 0
def PySem.W.Fast.tw18174870700769160573 : Nat := 0
def PySem.W.Fast.tw1242689978980010221 : Nat := 0
def PySem.W.Fast.tw9329113349608073180 : Nat := 0
def PySem.W.Fast.tw15987379048590374765 : Nat := 0
def PySem.W.Fast.tw2136857248322362820 : Nat := 0
def PySem.W.Fast.tw16238445278174200912 : Nat := 0
def PySem.W.Fast.tw1941792766375511409 : Nat := 0
def PySem.W.Fast.tw9942314057827467427 : Nat := 0
def PySem.W.Fast.tw13629740741596098080 : Nat := 0
def PySem.W.Fast.tw16445490181033939397 : Nat := 0
def PySem.W.Fast.tw13658747328091637807 : Nat := 0
def PySem.W.Fast.tw5513059464793660029 : Nat := 0
def PySem.W.Fast.tw15120919475867682597 : Nat := 0
def PySem.W.Fast.tw5201041611131576627 : Nat := 0
def PySem.W.Fast.tw8507194088645806300 : Nat := 0
def PySem.W.Fast.tw16041237385370545840 : Nat := 0
def PySem.W.Fast.tw16054505203547760002 : Nat := 0
def PySem.W.Fast.tw13164053042572761787 : Nat := 0
def PySem.W.Fast.tw13163592993314562633 : Nat := 0
def PySem.W.Fast.tw4915589789867980201 : Nat := 0
def PySem.W.Fast.tw15358844727740851093 : Nat := 0
def PySem.W.Fast.tw10810987271985010827 : Nat := 0
def PySem.W.Fast.tw13791088190951188298 : Nat := 0
def PySem.W.Fast.tw13403372421627962942 : Nat := 0
def PySem.W.Fast.tw9149380196443182756 : Nat := 0
def PySem.W.Fast.tw11251657272645474209 : Nat := 0
def PySem.W.Fast.tw12655341915465776599 : Nat := 0
def PySem.W.Fast.tw1916003524729681639 : Nat := 0
def PySem.W.Fast.tw16892344198625304503 : Nat := 0
def PySem.W.Fast.tw18079585279898516371 : Nat := 0
def PySem.W.Fast.tw13770707979451898329 : Nat := 0
def PySem.W.Fast.tw14823856339583889387 : Nat := 0
def PySem.W.Fast.tw11886738532656559090 : Nat := 0
def PySem.W.Fast.tw4966582691253378183 : Nat := 0
def PySem.W.Fast.tw6577852608476479583 : Nat := 0
def PySem.W.Fast.tw18186312174463485186 : Nat := 0
def PySem.W.Fast.tw1072988546421568387 : Nat := 0
def PySem.W.Fast.tw948948817554888782 : Nat := 0
def PySem.W.Fast.tw12428503733430639721 : Nat := 0
def PySem.W.Fast.tw3764707384794478444 : Nat := 0
def PySem.W.Fast.tw13091077684611885087 : Nat := 0
def PySem.W.Fast.tw16869295221353421794 : Nat := 0
def PySem.W.Fast.tw13371738229352934772 : Nat := 0
def PySem.W.Fast.tw12017471107619748172 : Nat := 0
def PySem.W.Fast.tw7269791905176235206 : Nat := 0
def PySem.W.Fast.tw4553477424687037780 : Nat := 0
def PySem.W.Fast.tw9426348753907224230 : Nat := 0
def PySem.W.Fast.tw5165924803090777310 : Nat := 0
def PySem.W.Fast.tw14946731715562494561 : Nat := 0
def PySem.W.Fast.tw12306390900672402202 : Nat := 0
def PySem.W.Fast.tw12541236768585222356 : Nat := 0
def PySem.W.Fast.tw9054548066577185333 : Nat := 0
def PySem.W.Fast.tw16491423573172193256 : Nat := 0
def PySem.W.Fast.tw17377156204371391316 : Nat := 0
def PySem.W.Fast.tw13786319337534129321 : Nat := 0
def PySem.W.Fast.tw1041612258180827902 : Nat := 0
def PySem.W.Fast.tw166437969415937511 : Nat := 0
def PySem.W.Fast.tw13100467638452121187 : Nat := 0
def PySem.W.Fast.tw10626879257927661831 : Nat := 0
def PySem.W.Fast.tw11128059981630266087 : Nat := 0
def PySem.W.Fast.tw17421958898055699781 : Nat := 0
def PySem.W.Fast.tw11386661511978608825 : Nat := 0
def PySem.W.Fast.tw12511127702737407255 : Nat := 0
def PySem.W.Fast.tw10421125449890687723 : Nat := 0
def PySem.W.Fast.tw14041331417017853946 : Nat := 0
def PySem.W.Fast.tw8596236624761314922 : Nat := 0
def PySem.W.Fast.tw3651172532632370581 : Nat := 0
def PySem.W.Fast.tw6177552631652563263 : Nat := 0
def PySem.W.Fast.tw17732430839117991904 : Nat := 0
def PySem.W.Fast.tw4673404423638127682 : Nat := 0
def PySem.W.Fast.tw3799448423816684020 : Nat := 0
def PySem.W.Fast.tw9858876290798626506 : Nat := 0
def PySem.W.Fast.tw9265552988337172760 : Nat := 0
def PySem.W.Fast.tw6641353739346816463 : Nat := 0
def PySem.W.Fast.tw16316862103941959858 : Nat := 0
def PySem.W.Fast.tw14247355720617902133 : Nat := 0
def PySem.W.Fast.tw6681661332633649609 : Nat := 0
def PySem.W.Fast.tw16467780184402821612 : Nat := 0
def PySem.W.Fast.tw15187393133217119310 : Nat := 0
def PySem.W.Fast.tw13222301532102193843 : Nat := 0
def PySem.W.Fast.tw7258417090082298246 : Nat := 0
def PySem.W.Fast.tw1991392902849950870 : Nat := 0
def PySem.W.Fast.tw16323251148150000291 : Nat := 0
def PySem.W.Fast.tw9811307816940146386 : Nat := 0
def PySem.W.Fast.tw11631588693896027509 : Nat := 0
def PySem.W.Fast.tw12022504919760806428 : Nat := 0
def PySem.W.Fast.tw9625034377780798797 : Nat := 0
def PySem.W.Fast.tw15314768078354277565 : Nat := 0
def PySem.W.Fast.tw12578369388506492258 : Nat := 0
def PySem.W.Fast.tw15987622127094048196 : Nat := 0
def PySem.W.Fast.tw13428413598401402576 : Nat := 0
def PySem.W.Fast.tw634321709265802494 : Nat := 0
def PySem.W.Fast.tw14720733625793274177 : Nat := 0
def PySem.W.Fast.tw2791335543703949404 : Nat := 0
def PySem.W.Fast.tw7568305888484020202 : Nat := 0
def PySem.W.Fast.tw12162335743198708257 : Nat := 0
def PySem.W.Fast.tw5879432087403512682 : Nat := 0
def PySem.W.Fast.tw4653010643911123240 : Nat := 0
def PySem.W.Fast.tw3737374520681116901 : Nat := 0
def PySem.W.Fast.tw15006162275735271887 : Nat := 0
def PySem.W.Fast.tw17331169472079135514 : Nat := 0
def PySem.W.Fast.tw10499046732414131891 : Nat := 0
def PySem.W.Fast.tw5869300628727521024 : Nat := 0
def PySem.W.Fast.tw17349150160208341559 : Nat := 0
def PySem.W.Fast.tw14994004509379024953 : Nat := 0
def PySem.W.Fast.tw10441726389074226619 : Nat := 0
def PySem.W.Fast.tw6037455048128252606 : Nat := 0
def PySem.W.Fast.tw1152739628306923372 : Nat := 0
def PySem.W.Fast.tw9780344238224201045 : Nat := 0
def PySem.W.Fast.tw8732936158976976029 : Nat := 0
def PySem.W.Fast.tw14833999954142996653 : Nat := 0
def PySem.W.Fast.tw11751510449530020417 : Nat := 0
def PySem.W.Fast.tw16940163629246407757 : Nat := 0
def PySem.W.Fast.tw4461106040992672787 : Nat := 0
def PySem.W.Fast.tw14239514775902273217 : Nat := 0
def PySem.W.Fast.tw4534523184995700953 : Nat := 0
def PySem.W.Fast.tw1189951137954947814 : Nat := 0
def PySem.W.Fast.tw18281495914002497506 : Nat := 0
def PySem.W.Fast.tw17764113596127884936 : Nat := 0
def PySem.W.Fast.tw6050412666840399225 : Nat := 0
def PySem.W.Fast.tw244635843126254268 : Nat := 0
def PySem.W.Fast.tw3143238872857418895 : Nat := 0
def PySem.W.Fast.tw2763221653734334009 : Nat := 0
def PySem.W.Fast.tw16635107900044764910 : Nat := 0
def PySem.W.Fast.tw1152825564512093229 : Nat := 0
def PySem.W.Fast.tw4044606883599788148 : Nat := 0
def PySem.W.Fast.tw4195028201530366753 : Nat := 0
def PySem.W.Fast.tw16061650709063656452 : Nat := 0
def PySem.W.Fast.tw416444951489427841 : Nat := 0
def PySem.W.Fast.tw2318845298965125004 : Nat := 0
def PySem.W.Fast.tw16524373436134428344 : Nat := 0
def PySem.W.Fast.tw3186093540052377731 : Nat := 0
def PySem.W.Fast.tw11248351174908106972 : Nat := 0
def PySem.W.Fast.tw13797653173915354660 : Nat := 0
def PySem.W.Fast.tw3693718836846557480 : Nat := 0
def PySem.W.Fast.tw13459252062339771349 : Nat := 0
def PySem.W.Fast.tw10322279543696098602 : Nat := 0
def PySem.W.Fast.tw13334257564301897899 : Nat := 0
def PySem.W.Fast.tw5620665926635235892 : Nat := 0
def PySem.W.Fast.tw4321500999184651473 : Nat := 0
def PySem.W.Fast.tw9868705565016651313 : Nat := 0
def PySem.W.Fast.tw1402389180568693941 : Nat := 0
def PySem.W.Fast.tw6886059461126477406 : Nat := 0
def PySem.W.Fast.tw3838050641858419021 : Nat := 0
def PySem.W.Fast.tw7440214164452169875 : Nat := 0
def PySem.W.Fast.tw3577147967546214117 : Nat := 0
def PySem.W.Fast.tw1885102685857751518 : Nat := 0
def PySem.W.Fast.tw13104015742522512676 : Nat := 0
def PySem.W.Fast.tw5085515490972554647 : Nat := 0
def PySem.W.Fast.tw6448613519537871587 : Nat := 0
def PySem.W.Fast.tw17386916915122430792 : Nat := 0
def PySem.W.Fast.tw7920735979839245930 : Nat := 0
def PySem.W.Fast.tw2739168795109864676 : Nat := 0
def PySem.W.Fast.tw4548817585032148601 : Nat := 0
def PySem.W.Fast.tw4336542043592786210 : Nat := 0
def PySem.W.Fast.tw7233461628047522098 : Nat := 0
def PySem.W.Fast.tw17249225265932166729 : Nat := 0
def PySem.W.Fast.tw15751590452104886149 : Nat := 0
def PySem.W.Fast.tw13510745178528590740 : Nat := 0
def PySem.W.Fast.tw11180332546433175294 : Nat := 0
def PySem.W.Fast.tw16239059851960927121 : Nat := 0
def PySem.W.Fast.tw15556062071004176510 : Nat := 0
def PySem.W.Fast.tw2659223008747041642 : Nat := 0
def PySem.W.Fast.tw15216629936215373432 : Nat := 0
def PySem.W.Fast.tw11589959293025091361 : Nat := 0
def PySem.W.Fast.tw17854163107954635362 : Nat := 0
def PySem.W.Fast.tw10215719057807033600 : Nat := 0
def PySem.W.Fast.tw6265067726634033675 : Nat := 0
def PySem.W.Fast.tw1468861227206788609 : Nat := 0
def PySem.W.Fast.tw3018469934966446955 : Nat := 0
def PySem.W.Fast.tw9501326558475116538 : Nat := 0
def PySem.W.Fast.tw12640105578266489665 : Nat := 0
def PySem.W.Fast.tw8495054330358534155 : Nat := 0
def PySem.W.Fast.tw13549770446096013683 : Nat := 0
def PySem.W.Fast.tw16093355705107011996 : Nat := 0
def PySem.W.Fast.tw7712418843744979269 : Nat := 0
def PySem.W.Fast.tw12640124105391881305 : Nat := 0
def PySem.W.Fast.tw6259767072549698865 : Nat := 0
def PySem.W.Fast.tw14164962033558479926 : Nat := 0
def PySem.W.Fast.tw12323002685086079569 : Nat := 0
def PySem.W.Fast.tw3374057505838358072 : Nat := 0
def PySem.W.Fast.tw6123085080171381601 : Nat := 0
def PySem.W.Fast.tw6519316425005136156 : Nat := 0
def PySem.W.Fast.tw7019389920098511523 : Nat := 0
def PySem.W.Fast.tw13047249768826238120 : Nat := 0
def PySem.W.Fast.tw672708482975961218 : Nat := 0
def PySem.W.Fast.tw15521635749270300616 : Nat := 0
def PySem.W.Fast.tw5092895602924115795 : Nat := 0
def PySem.W.Fast.tw16347861104173535121 : Nat := 0
def PySem.W.Fast.tw5492759500680550773 : Nat := 0
def PySem.W.Fast.tw8732345341123876227 : Nat := 0
def PySem.W.Fast.tw8782418419640509308 : Nat := 0
def PySem.W.Fast.tw8483515797694569654 : Nat := 0
def PySem.W.Fast.tw10689375009813760900 : Nat := 0
def PySem.W.Fast.tw14614254422420554033 : Nat := 0
def PySem.W.Fast.tw7441759759499884901 : Nat := 0
def PySem.W.Fast.tw4896045496474194298 : Nat := 0
def PySem.W.Fast.tw10397172543621786205 : Nat := 0
def PySem.W.Fast.tw2462509575482934491 : Nat := 0
def PySem.W.Fast.tw4467882904253490622 : Nat := 0
def PySem.W.Fast.tw14777803121622642686 : Nat := 0
def PySem.W.Fast.tw14266000711893146433 : Nat := 0
def PySem.W.Fast.tw12523030310351470968 : Nat := 0
def PySem.W.Fast.tw13625762198093891422 : Nat := 0
def PySem.W.Fast.tw3293316326567408032 : Nat := 0
def PySem.W.Fast.tw8221476756234650707 : Nat := 0
def PySem.W.Fast.tw13782133562336633214 : Nat := 0
def PySem.W.Fast.tw7051843697050797369 : Nat := 0
def PySem.W.Fast.tw13611173329733221704 : Nat := 0
def PySem.W.Fast.tw3267705483397500837 : Nat := 0
def PySem.W.Fast.tw13377732052387283401 : Nat := 0
def PySem.W.Fast.tw10413095445020838373 : Nat := 0
def PySem.W.Fast.tw10664729850291339353 : Nat := 0
def PySem.W.Fast.tw15824346907965662338 : Nat := 0
def PySem.W.Fast.tw13730303930139091596 : Nat := 0
def PySem.W.Fast.tw1062388102039489179 : Nat := 0
def PySem.W.Fast.tw1719775004985018971 : Nat := 0
def PySem.W.Fast.tw17306464962964722718 : Nat := 0
def PySem.W.Fast.tw1285084264046038226 : Nat := 0
def PySem.W.Fast.tw10386565130564788285 : Nat := 0
def PySem.W.Fast.tw8259222318588828545 : Nat := 0
def PySem.W.Fast.tw7596944349012951820 : Nat := 0
def PySem.W.Fast.tw15600256158611771924 : Nat := 0
def PySem.W.Fast.tw6020832667607286155 : Nat := 0
def PySem.W.Fast.tw10266181860896265878 : Nat := 0
def PySem.W.Fast.tw12849229142571864110 : Nat := 0
def PySem.W.Fast.tw12362468434810256745 : Nat := 0
def PySem.W.Fast.tw6133456040306853994 : Nat := 0
def PySem.W.Fast.tw11606599145238536027 : Nat := 0
def PySem.W.Fast.tw9780857109756998075 : Nat := 0
def PySem.W.Fast.tw9318351204032013751 : Nat := 0
def PySem.W.Fast.tw580101619574541606 : Nat := 0
def PySem.W.Fast.tw17574005027398327503 : Nat := 0
def PySem.W.Fast.tw3148858526964603407 : Nat := 0
def PySem.W.Fast.tw2289737959479082866 : Nat := 0
def PySem.W.Fast.tw4589736372618196338 : Nat := 0
def PySem.W.Fast.tw18080980667260941346 : Nat := 0
def PySem.W.Fast.tw9266993749422213389 : Nat := 0
def PySem.W.Fast.tw4985129644338672389 : Nat := 0
def PySem.W.Fast.tw15237277264277814950 : Nat := 0
def PySem.W.Fast.tw14021614163681647035 : Nat := 0
def PySem.W.Fast.tw18254279639770125777 : Nat := 0
def PySem.W.Fast.tw859415788690500089 : Nat := 0
def PySem.W.Fast.tw106702291639018052 : Nat := 0
def PySem.W.Fast.tw9298047299492299283 : Nat := 0
def PySem.W.Fast.tw14233741166536505346 : Nat := 0
def PySem.W.Fast.tw7102494159837872963 : Nat := 0
def PySem.W.Fast.tw1297681023161294843 : Nat := 0
def PySem.W.Fast.tw14522591197164171658 : Nat := 0
def PySem.W.Fast.tw12801216311315903987 : Nat := 0
def PySem.W.Fast.tw242977815318707527 : Nat := 0
def PySem.W.Fast.tw11102934171970219861 : Nat := 0
def PySem.W.Fast.tw5431024062165059936 : Nat := 0
def PySem.W.Fast.tw15496525958438813224 : Nat := 0
def PySem.W.Fast.tw14345300015301866262 : Nat := 0
def PySem.W.Fast.tw15849401807748558225 : Nat := 0
def PySem.W.Fast.tw10511956569462761167 : Nat := 0
def PySem.W.Fast.tw3247491433633806599 : Nat := 0
def PySem.W.Fast.tw3768150016230309053 : Nat := 0
def PySem.W.Fast.tw7329774234838163190 : Nat := 0
def PySem.W.Fast.tw7464033736453732156 : Nat := 0
def PySem.W.Fast.tw2647048320691333346 : Nat := 0
def PySem.W.Fast.tw7136322141985810150 : Nat := 0
def PySem.W.Fast.tw4621810555677147624 : Nat := 0
def PySem.W.Fast.tw2680312848144198105 : Nat := 0
def PySem.W.Fast.tw18345949374277361221 : Nat := 0
def PySem.W.Fast.tw4490923562829046167 : Nat := 0
def PySem.W.Fast.tw1342256611471625149 : Nat := 0
def PySem.W.Fast.tw10406107586984560444 : Nat := 0
def PySem.W.Fast.tw10833816544520073878 : Nat := 0
def PySem.W.Fast.tw14214634986557460163 : Nat := 0
def PySem.W.Fast.tw17240446231519405593 : Nat := 0
def PySem.W.Fast.tw3942152546190072296 : Nat := 0
def PySem.W.Fast.tw8032980171877501658 : Nat := 0
def PySem.W.Fast.tw17224358849382206756 : Nat := 0
def PySem.W.Fast.tw6115821428430150909 : Nat := 0
def PySem.W.Fast.tw7982555469093318226 : Nat := 0
def PySem.W.Fast.tw7276990806135914538 : Nat := 0
def PySem.W.Fast.tw17037393891371764759 : Nat := 0
def PySem.W.Fast.tw15028801223303954036 : Nat := 0
def PySem.W.Fast.tw9933170156265823992 : Nat := 0
def PySem.W.Fast.tw7888927282135082499 : Nat := 0
def PySem.W.Fast.tw2265909475260408497 : Nat := 0
def PySem.W.Fast.tw9775404311007146959 : Nat := 0
def PySem.W.Fast.tw15626998509220540897 : Nat := 0
def PySem.W.Fast.tw8092245006664496082 : Nat := 0
def PySem.W.Fast.tw16688969688947601851 : Nat := 0
def PySem.W.Fast.tw13784123047799681571 : Nat := 0
def PySem.W.Fast.tw11099038274987626897 : Nat := 0
def PySem.W.Fast.tw10763673002044389864 : Nat := 0
def PySem.W.Fast.tw15685848966733780011 : Nat := 0
def PySem.W.Fast.tw644210409389148634 : Nat := 0
def PySem.W.Fast.tw6378436454107874235 : Nat := 0
def PySem.W.Fast.tw15216655913164678920 : Nat := 0
def PySem.W.Fast.tw18431791155787999484 : Nat := 0
def PySem.W.Fast.tw15371781878904840716 : Nat := 0
def PySem.W.Fast.tw7482009969574001657 : Nat := 0
def PySem.W.Fast.tw312622266034602034 : Nat := 0
def PySem.W.Fast.tw16820401262327353921 : Nat := 0
def PySem.W.Fast.tw220994588193763592 : Nat := 0
def PySem.W.Fast.tw1593873941711213855 : Nat := 0
def PySem.W.Fast.tw6464775488664534418 : Nat := 0
def PySem.W.Fast.tw11515925379260145718 : Nat := 0
def PySem.W.Fast.tw3798405637543544272 : Nat := 0
def PySem.W.Fast.tw5103370877922916066 : Nat := 0
def PySem.W.Fast.tw9868282718652385921 : Nat := 0
def PySem.W.Fast.tw4124355253955274995 : Nat := 0
def PySem.W.Fast.tw4476652871465363426 : Nat := 0
def PySem.W.Fast.tw7318066814948815170 : Nat := 0
def PySem.W.Fast.tw9065065639550233761 : Nat := 0
def PySem.W.Fast.tw2664031363789524322 : Nat := 0
def PySem.W.Fast.tw17831673189661009829 : Nat := 0
def PySem.W.Fast.tw13195606347187478888 : Nat := 0
def PySem.W.Fast.tw18112969540392012172 : Nat := 0
def PySem.W.Fast.tw6070945501815227682 : Nat := 0
def PySem.W.Fast.tw2541428384284335786 : Nat := 0
def PySem.W.Fast.tw11396203009755799300 : Nat := 0
def PySem.W.Fast.tw17016266393228265444 : Nat := 0
def PySem.W.Fast.tw9205576365065414932 : Nat := 0
def PySem.W.Fast.tw4291684792814550175 : Nat := 0
def PySem.W.Fast.tw8895035764313836389 : Nat := 0
def PySem.W.Fast.tw2914174392502005255 : Nat := 0
def PySem.W.Fast.tw10633134850355913527 : Nat := 0
def PySem.W.Fast.tw12927815273150297929 : Nat := 0
def PySem.W.Fast.tw18316620459652752832 : Nat := 0
def PySem.W.Fast.tw2561606791172248318 : Nat := 0
def PySem.W.Fast.tw15777285402391513766 : Nat := 0
def PySem.W.Fast.tw13086453650726514128 : Nat := 0
def PySem.W.Fast.tw6158236489833410699 : Nat := 0
def PySem.W.Fast.tw9148280604580275929 : Nat := 0
def PySem.W.Fast.tw11170876109264197457 : Nat := 0
def PySem.W.Fast.tw18058680613073823152 : Nat := 0
def PySem.W.Fast.tw11457875710939638623 : Nat := 0
def PySem.W.Fast.tw646581796596631222 : Nat := 0
def PySem.W.Fast.tw8622638773529100656 : Nat := 0
def PySem.W.Fast.tw18202049636998350556 : Nat := 0
def PySem.W.Fast.tw383756195697849523 : Nat := 0
def PySem.W.Fast.tw3496021510075302106 : Nat := 0
def PySem.W.Fast.tw2363468173881861853 : Nat := 0
def PySem.W.Fast.tw802730908611895746 : Nat := 0
def PySem.W.Fast.tw2810294361815309564 : Nat := 0
def PySem.W.Fast.tw14891800830260639919 : Nat := 0
def PySem.W.Fast.tw13242166288701365516 : Nat := 0
def PySem.W.Fast.tw302228746356405563 : Nat := 0
def PySem.W.Fast.tw5750961605005505032 : Nat := 0
def PySem.W.Fast.tw10355772781163414812 : Nat := 0
def PySem.W.Fast.tw6676186227129755609 : Nat := 0
def PySem.W.Fast.tw3819632445595646595 : Nat := 0
def PySem.W.Fast.tw4514023148125219952 : Nat := 0
def PySem.W.Fast.tw12268196755079380517 : Nat := 0
def PySem.W.Fast.tw13768156819090722277 : Nat := 0
def PySem.W.Fast.tw15927886001789199391 : Nat := 0
def PySem.W.Fast.tw13419890727395207845 : Nat := 0
def PySem.W.Fast.tw9343944533297707945 : Nat := 0
def PySem.W.Fast.tw11218119699236781095 : Nat := 0
def PySem.W.Fast.tw488992843905963235 : Nat := 0
def PySem.W.Fast.tw14386572911855175268 : Nat := 0
def PySem.W.Fast.tw3621487944477374633 : Nat := 0
def PySem.W.Fast.tw6766160458761044210 : Nat := 0
def PySem.W.Fast.tw3640460545347639966 : Nat := 0
def PySem.W.Fast.tw17853478021747990146 : Nat := 0
def PySem.W.Fast.tw17079947278332508570 : Nat := 0
def PySem.W.Fast.tw8596676668553397821 : Nat := 0
def PySem.W.Fast.tw17676598665137912804 : Nat := 0
def PySem.W.Fast.tw12733526068827920459 : Nat := 0
def PySem.W.Fast.tw533513385914462345 : Nat := 0
def PySem.W.Fast.tw5448614873924127829 : Nat := 0
def PySem.W.Fast.tw12269819956852503038 : Nat := 0
def PySem.W.Fast.tw9786553054404907346 : Nat := 0
def PySem.W.Fast.tw4920550390061837148 : Nat := 0
def PySem.W.Fast.tw11025370265648511943 : Nat := 0
def PySem.W.Fast.tw18071932482393244658 : Nat := 0
def PySem.W.Fast.tw10400628740521760774 : Nat := 0
def PySem.W.Fast.tw18203037424642221142 : Nat := 0
def PySem.W.Fast.tw3165908828579967221 : Nat := 0
def PySem.W.Fast.tw9143375125695938109 : Nat := 0
def PySem.W.Fast.tw8747383067496968553 : Nat := 0
def PySem.W.Fast.tw12959757726042150923 : Nat := 0
def PySem.W.Fast.tw8952732452502203947 : Nat := 0
def PySem.W.Fast.tw14594042996353251723 : Nat := 0
def PySem.W.Fast.tw16577947688262728844 : Nat := 0
def PySem.W.Fast.tw7248291671570486671 : Nat := 0
def PySem.W.Fast.tw15709567865533402797 : Nat := 0
def PySem.W.Fast.tw15241335247194544077 : Nat := 0
def PySem.W.Fast.tw11187121195654917659 : Nat := 0
def PySem.W.Fast.tw3727620392936842635 : Nat := 0
def PySem.W.Fast.tw5309763435492986120 : Nat := 0
def PySem.W.Fast.tw24003248021169764 : Nat := 0
def PySem.W.Fast.tw50895735960343073 : Nat := 0
def PySem.W.Fast.tw5898451787508002082 : Nat := 0
def PySem.W.Fast.tw10714908802951050901 : Nat := 0
def PySem.W.Fast.tw3132125637764904817 : Nat := 0
def PySem.W.Fast.tw2831477803212778505 : Nat := 0
def PySem.W.Fast.tw1368602005402140898 : Nat := 0
def PySem.W.Fast.tw11679877403474101584 : Nat := 0
def PySem.W.Fast.tw12784470729718494404 : Nat := 0
def PySem.W.Fast.tw16618714567937260232 : Nat := 0
def PySem.W.Fast.tw15297143257454711845 : Nat := 0
def PySem.W.Fast.tw18421868920584397579 : Nat := 0
def PySem.W.Fast.tw10892798242434317729 : Nat := 0
def PySem.W.Fast.tw14921827268323532326 : Nat := 0
def PySem.W.Fast.tw14790499926782026391 : Nat := 0
def PySem.W.Fast.tw8409379878192615232 : Nat := 0
def PySem.W.Fast.tw14566037751809711462 : Nat := 0
def PySem.W.Fast.tw12166281342027716897 : Nat := 0
def PySem.W.Fast.tw6183720092469699823 : Nat := 0
def PySem.W.Fast.tw10755273761009932519 : Nat := 0
def PySem.W.Fast.tw14877233696273109934 : Nat := 0
def PySem.W.Fast.tw9749623755870238969 : Nat := 0
def PySem.W.Fast.tw16334468302152013945 : Nat := 0
def PySem.W.Fast.tw18139842976894731645 : Nat := 0
def PySem.W.Fast.tw9889624429274706005 : Nat := 0
def PySem.W.Fast.tw13899264356009669628 : Nat := 0
def PySem.W.Fast.tw9017221969199037151 : Nat := 0
def PySem.W.Fast.tw2379577844463892389 : Nat := 0
def PySem.W.Fast.tw7829554085666919746 : Nat := 0
def PySem.W.Fast.tw12265527393577283812 : Nat := 0
def PySem.W.Fast.tw1164270223029854200 : Nat := 0
def PySem.W.Fast.tw1451961502282491442 : Nat := 0
def PySem.W.Fast.tw1599517446758919789 : Nat := 0
def PySem.W.Fast.tw16365708158062883811 : Nat := 0
def PySem.W.Fast.tw11675407230265331167 : Nat := 0
def PySem.W.Fast.tw6272549537595188504 : Nat := 0
def PySem.W.Fast.tw5906313254600792340 : Nat := 0
def PySem.W.Fast.tw2223747866871079537 : Nat := 0
def PySem.W.Fast.tw3028792285593687612 : Nat := 0
def PySem.W.Fast.tw16271756290298887970 : Nat := 0
def PySem.W.Fast.tw13884471082203282964 : Nat := 0
def PySem.W.Fast.tw18350231263349924875 : Nat := 0
def PySem.W.Fast.tw15227914444090173905 : Nat := 0
def PySem.W.Fast.tw13893464923238513076 : Nat := 0
def PySem.W.Fast.tw13647547532533390224 : Nat := 0
def PySem.W.Fast.tw18251680677095995323 : Nat := 0
def PySem.W.Fast.tw6147777851432071392 : Nat := 0
def PySem.W.Fast.tw3796191782497332060 : Nat := 0
def PySem.W.Fast.tw11367970141822000856 : Nat := 0
def PySem.W.Fast.tw11293027259456978116 : Nat := 0
def PySem.W.Fast.tw16885132554638742998 : Nat := 0
def PySem.W.Fast.tw6346658610232193412 : Nat := 0
def PySem.W.Fast.tw12407987348538256990 : Nat := 0
def PySem.W.Fast.tw9136506343976495430 : Nat := 0
def PySem.W.Fast.tw12474661240697460495 : Nat := 0
def PySem.W.Fast.tw6939347785124619392 : Nat := 0
def PySem.W.Fast.tw8860100383854567258 : Nat := 0
def PySem.W.Fast.tw14237435668865341979 : Nat := 0
def PySem.W.Fast.tw11908361545515191167 : Nat := 0
def PySem.W.Fast.tw7630001032372363272 : Nat := 0
def PySem.W.Fast.tw2481330840793596504 : Nat := 0
def PySem.W.Fast.tw4436256789109541979 : Nat := 0
def PySem.W.Fast.tw9629035543522736721 : Nat := 0
def PySem.W.Fast.tw4547850104726937648 : Nat := 0
def PySem.W.Fast.tw10143482119365727527 : Nat := 0
def PySem.W.Fast.tw7733012782042326030 : Nat := 0
def PySem.W.Fast.tw3798648646379725137 : Nat := 0
def PySem.W.Fast.tw12735128776718681611 : Nat := 0
def PySem.W.Fast.tw2305268675801383510 : Nat := 0
def PySem.W.Fast.tw94501207776667289 : Nat := 0
def PySem.W.Fast.tw3527176096548766502 : Nat := 0
def PySem.W.Fast.tw8804137931347574147 : Nat := 0
def PySem.W.Fast.tw14038844957440519997 : Nat := 0
def PySem.W.Fast.tw3118704361819175857 : Nat := 0
def PySem.W.Fast.tw6495314021297196224 : Nat := 0
def PySem.W.Fast.tw15399002867224878914 : Nat := 0
def PySem.W.Fast.tw16961835494772396645 : Nat := 0
def PySem.W.Fast.tw9387256781625814057 : Nat := 0
def PySem.W.Fast.tw18222118143519747783 : Nat := 0
def PySem.W.Fast.tw4806964061531865655 : Nat := 0
def PySem.W.Fast.tw14241364629981350930 : Nat := 0
def PySem.W.Fast.tw5293591742112539960 : Nat := 0
def PySem.W.Fast.tw8984001082354233794 : Nat := 0
def PySem.W.Fast.tw8856226068924240782 : Nat := 0
def PySem.W.Fast.tw17071532219811942274 : Nat := 0
def PySem.W.Fast.tw11006607149865971609 : Nat := 0
def PySem.W.Fast.tw12627201144579591238 : Nat := 0
def PySem.W.Fast.tw5410006634303123022 : Nat := 0
def PySem.W.Fast.tw3563795130145555012 : Nat := 0
def PySem.W.Fast.tw8499875856383893027 : Nat := 0
def PySem.W.Fast.tw3676185573765663030 : Nat := 0
def PySem.W.Fast.tw10611669511923876256 : Nat := 0
def PySem.W.Fast.tw1424252035002243969 : Nat := 0
def PySem.W.Fast.tw8114838762092416842 : Nat := 0
def PySem.W.Fast.tw10974491056585071407 : Nat := 0
def PySem.W.Fast.tw8105983968453685115 : Nat := 0
def PySem.W.Fast.tw9612699951365115703 : Nat := 0
def PySem.W.Fast.tw6480442706358478740 : Nat := 0
def PySem.W.Fast.tw306242284691292495 : Nat := 0
def PySem.W.Fast.tw3456498911764671946 : Nat := 0
def PySem.W.Fast.tw8893376729378868022 : Nat := 0
def PySem.W.Fast.tw10781423636110065881 : Nat := 0
def PySem.W.Fast.tw2584138531162774157 : Nat := 0
def PySem.W.Fast.tw5119772561301261913 : Nat := 0
def PySem.W.Fast.tw2592941923514848300 : Nat := 0
def PySem.W.Fast.tw8428525867510416207 : Nat := 0
def PySem.W.Fast.tw17782035934323810298 : Nat := 0
def PySem.W.Fast.tw18068354278530886900 : Nat := 0
def PySem.W.Fast.tw9000004246562978889 : Nat := 0
def PySem.W.Fast.tw214392156430065328 : Nat := 0
def PySem.W.Fast.tw8507924741421487728 : Nat := 0
def PySem.W.Fast.tw723664126051269392 : Nat := 0
def PySem.W.Fast.tw11605321987819709138 : Nat := 0
def PySem.W.Fast.tw3764322579574896657 : Nat := 0
def PySem.W.Fast.tw7780181392943750735 : Nat := 0
def PySem.W.Fast.tw3389725169805193000 : Nat := 0
def PySem.W.Fast.tw7880866330675782152 : Nat := 0
def PySem.W.Fast.tw8820703043224652192 : Nat := 0
def PySem.W.Fast.tw9676335116737076807 : Nat := 0
def PySem.W.Fast.tw12745014237808025857 : Nat := 0
def PySem.W.Fast.tw14988644255240219996 : Nat := 0
def PySem.W.Fast.tw13567205279058030701 : Nat := 0
def PySem.W.Fast.tw4384659177745120590 : Nat := 0
def PySem.W.Fast.tw5842885187981567550 : Nat := 0
def PySem.W.Fast.tw4932731706842728745 : Nat := 0
def PySem.W.Fast.tw11771093344896849586 : Nat := 0
def PySem.W.Fast.tw8571422595252562155 : Nat := 0
def PySem.W.Fast.tw2286441749557188755 : Nat := 0
def PySem.W.Fast.tw14609728262140925455 : Nat := 0
def PySem.W.Fast.tw1815749149357710217 : Nat := 0
def PySem.W.Fast.tw8898908184870264190 : Nat := 0
def PySem.W.Fast.tw4997526926456098226 : Nat := 0
def PySem.W.Fast.tw8452540965463943608 : Nat := 0
def PySem.W.Fast.tw2856417883580507741 : Nat := 0
def PySem.W.Fast.tw17896501990900536049 : Nat := 0
def PySem.W.Fast.tw9857984658674463390 : Nat := 0
def PySem.W.Fast.tw2836454422891388797 : Nat := 0
def PySem.W.Fast.tw15040973148687138694 : Nat := 0
def PySem.W.Fast.tw14227175312886423409 : Nat := 0
def PySem.W.Fast.tw5707647700840149080 : Nat := 0
def PySem.W.Fast.tw4207992176164154226 : Nat := 0
def PySem.W.Fast.tw17546377987397778975 : Nat := 0
def PySem.W.Fast.tw11077636419834120240 : Nat := 0
def PySem.W.Fast.tw10639120702249343857 : Nat := 0
def PySem.W.Fast.tw16724999770189279919 : Nat := 0
def PySem.W.Fast.tw964891607266129718 : Nat := 0
def PySem.W.Fast.tw8605217517693007505 : Nat := 0
def PySem.W.Fast.tw15499735598529406034 : Nat := 0
def PySem.W.Fast.tw12862102488194771665 : Nat := 0
def PySem.W.Fast.tw16081231356910509099 : Nat := 0
def PySem.W.Fast.tw8432518092962489559 : Nat := 0
def PySem.W.Fast.tw15692172570526415893 : Nat := 0
def PySem.W.Fast.tw16707416019402800818 : Nat := 0
def PySem.W.Fast.tw16192252455524414200 : Nat := 0
def PySem.W.Fast.tw14518211386447811435 : Nat := 0
def PySem.W.Fast.tw12223074822322904726 : Nat := 0
def PySem.W.Fast.tw10290985151236269732 : Nat := 0
def PySem.W.Fast.tw14537007359387000698 : Nat := 0
def PySem.W.Fast.tw956563346931486221 : Nat := 0
def PySem.W.Fast.tw2603031266880330523 : Nat := 0
def PySem.W.Fast.tw5410512595185083412 : Nat := 0
def PySem.W.Fast.tw5390745762610552451 : Nat := 0
def PySem.W.Fast.tw10788590964815014144 : Nat := 0
def PySem.W.Fast.tw17255530362365798442 : Nat := 0
def PySem.W.Fast.tw14937636183133999627 : Nat := 0
def PySem.W.Fast.tw11498486270861151340 : Nat := 0
def PySem.W.Fast.tw3076215493026535250 : Nat := 0
def PySem.W.Fast.tw18155806359893097507 : Nat := 0
def PySem.W.Fast.tw16699863422461463794 : Nat := 0
def PySem.W.Fast.tw10360650614200098853 : Nat := 0
def PySem.W.Fast.tw9902527849056254735 : Nat := 0
def PySem.W.Fast.tw2772541803484234622 : Nat := 0
def PySem.W.Fast.tw6980980477653212326 : Nat := 0
def PySem.W.Fast.tw3893965439701711183 : Nat := 0
def PySem.W.Fast.tw3077449526143159114 : Nat := 0
def PySem.W.Fast.tw18324142575065498270 : Nat := 0
def PySem.W.Fast.tw17658796607329391110 : Nat := 0
def PySem.W.Fast.tw12992470050409834027 : Nat := 0
def PySem.W.Fast.tw10962697911909991486 : Nat := 0
def PySem.W.Fast.tw14631005834281512010 : Nat := 0
def PySem.W.Fast.tw15227106244096646667 : Nat := 0
def PySem.W.Fast.tw912929231539112242 : Nat := 0
def PySem.W.Fast.tw11501081232974795310 : Nat := 0
def PySem.W.Fast.tw13346225501356477599 : Nat := 0
def PySem.W.Fast.tw10899910565235873174 : Nat := 0
def PySem.W.Fast.tw4862270490201830086 : Nat := 0
def PySem.W.Fast.tw3053133800219152280 : Nat := 0
def PySem.W.Fast.tw551011738882139849 : Nat := 0
def PySem.W.Fast.tw3177965943746950188 : Nat := 0
def PySem.W.Fast.tw15825049615298487642 : Nat := 0
def PySem.W.Fast.tw13447996018788058648 : Nat := 0
def PySem.W.Fast.tw13547332577424341270 : Nat := 0
def PySem.W.Fast.tw8446329982593056585 : Nat := 0
def PySem.W.Fast.tw7543142970573099199 : Nat := 0
def PySem.W.Fast.tw210756541150359229 : Nat := 0
def PySem.W.Fast.tw3334119151624373777 : Nat := 0
def PySem.W.Fast.tw7925518900716286068 : Nat := 0
def PySem.W.Fast.tw3458402356369758049 : Nat := 0
def PySem.W.Fast.tw13133757565946727515 : Nat := 0
def PySem.W.Fast.tw16010161553940097399 : Nat := 0
def PySem.W.Fast.tw17747777598420620403 : Nat := 0
def PySem.W.Fast.tw12505832672772458602 : Nat := 0
def PySem.W.Fast.tw6053866267049859490 : Nat := 0
def PySem.W.Fast.tw18112650977072129318 : Nat := 0
def PySem.W.Fast.tw8679945853839183988 : Nat := 0
def PySem.W.Fast.tw4229238840078356461 : Nat := 0
def PySem.W.Fast.tw344081892627400298 : Nat := 0
def PySem.W.Fast.tw4205990750072675713 : Nat := 0
def PySem.W.Fast.tw4341066022788299780 : Nat := 0
def PySem.W.Fast.tw5905672115876898467 : Nat := 0
def PySem.W.Fast.tw12102995506109003525 : Nat := 0
def PySem.W.Fast.tw3562915430891632888 : Nat := 0
def PySem.W.Fast.tw7870461922880170584 : Nat := 0
def PySem.W.Fast.tw5751517862487762812 : Nat := 0
def PySem.W.Fast.tw4727017409143818368 : Nat := 0
def PySem.W.Fast.tw1421601353413352788 : Nat := 0
def PySem.W.Fast.tw6508204427146493243 : Nat := 0
def PySem.W.Fast.tw9574958470766379518 : Nat := 0
def PySem.W.Fast.tw2883233226567002638 : Nat := 0
def PySem.W.Fast.tw15355190405938019679 : Nat := 0
def PySem.W.Fast.tw3140719575653428231 : Nat := 0
def PySem.W.Fast.tw11451454865573610087 : Nat := 0
def PySem.W.Fast.tw16991592931716932815 : Nat := 0
def PySem.W.Fast.tw11031221913308998961 : Nat := 0
def PySem.W.Fast.tw10267654853368127148 : Nat := 0
def PySem.W.Fast.tw3820621994136347047 : Nat := 0
def PySem.W.Fast.tw2238044004507751461 : Nat := 0
def PySem.W.Fast.tw15438818736487271051 : Nat := 0
def PySem.W.Fast.tw15871357112150966505 : Nat := 0
def PySem.W.Fast.tw7065271277003693117 : Nat := 0
def PySem.W.Fast.tw11031971701673491160 : Nat := 0
def PySem.W.Fast.tw6011773449558309452 : Nat := 0
def PySem.W.Fast.tw14899903703953332180 : Nat := 0
def PySem.W.Fast.tw481857795805714067 : Nat := 0
def PySem.W.Fast.tw12111533009274713483 : Nat := 0
def PySem.W.Fast.tw10351225797237765321 : Nat := 0
def PySem.W.Fast.tw3562554472823468630 : Nat := 0
def PySem.W.Fast.tw3588792018378114690 : Nat := 0
def PySem.W.Fast.tw6339516274360761264 : Nat := 0
def PySem.W.Fast.tw10094057242879608929 : Nat := 0
def PySem.W.Fast.tw14364558114322659920 : Nat := 0
def PySem.W.Fast.tw15463980362336265964 : Nat := 0
def PySem.W.Fast.tw12782767608064380054 : Nat := 0
def PySem.W.Fast.tw9742526392473940478 : Nat := 0
def PySem.W.Fast.tw16636203704557454487 : Nat := 0
def PySem.W.Fast.tw4609595138905785712 : Nat := 0
def PySem.W.Fast.tw6112367234681702675 : Nat := 0
def PySem.W.Fast.tw15560966867963300532 : Nat := 0
def PySem.W.Fast.tw3531965800364711529 : Nat := 0
def PySem.W.Fast.tw12347095109654699381 : Nat := 0
def PySem.W.Fast.tw14047469975518430961 : Nat := 0
def PySem.W.Fast.tw9577003969339802908 : Nat := 0
def PySem.W.Fast.tw17296426025704783100 : Nat := 0
def PySem.W.Fast.tw11252201394171500058 : Nat := 0
def PySem.W.Fast.tw15118486815435060065 : Nat := 0
def PySem.W.Fast.tw9126636708842118191 : Nat := 0
def PySem.W.Fast.tw10643595197120845376 : Nat := 0
def PySem.W.Fast.tw3684102471108495694 : Nat := 0
def PySem.W.Fast.tw2312145149232834682 : Nat := 0
def PySem.W.Fast.tw2975223050661664058 : Nat := 0
def PySem.W.Fast.tw7888786607542246761 : Nat := 0
def PySem.W.Fast.tw7118158563420091613 : Nat := 0
def PySem.W.Fast.tw5565542106451822537 : Nat := 0
def PySem.W.Fast.tw10729955228756736187 : Nat := 0
def PySem.W.Fast.tw13859323836967200003 : Nat := 0
def PySem.W.Fast.tw17492115732389128 : Nat := 0
def PySem.W.Fast.tw11594855885447110491 : Nat := 0
def PySem.W.Fast.tw10106457209782402568 : Nat := 0
def PySem.W.Fast.tw14382109234704283992 : Nat := 0
def PySem.W.Fast.tw8527426495967251710 : Nat := 0
def PySem.W.Fast.tw13413001510320444676 : Nat := 0
def PySem.W.Fast.tw12215182788385013223 : Nat := 0
def PySem.W.Fast.tw11936413984029290629 : Nat := 0
def PySem.W.Fast.tw4937421418780773230 : Nat := 0
def PySem.W.Fast.tw11385894766513697333 : Nat := 0
def PySem.W.Fast.tw5562587834364928986 : Nat := 0
def PySem.W.Fast.tw16009372786822675798 : Nat := 0
def PySem.W.Fast.tw18342258529314829491 : Nat := 0
def PySem.W.Fast.tw2028331505160728001 : Nat := 0
def PySem.W.Fast.tw12929019643835554345 : Nat := 0
def PySem.W.Fast.tw4303078110377765047 : Nat := 0
def PySem.W.Fast.tw10955584851990439686 : Nat := 0
def PySem.W.Fast.tw11360975682179069073 : Nat := 0
def PySem.W.Fast.tw2767776647227085294 : Nat := 0
def PySem.W.Fast.tw7279458701115732683 : Nat := 0
def PySem.W.Fast.tw5857540641919985580 : Nat := 0
def PySem.W.Fast.tw2841250004911162716 : Nat := 0
def PySem.W.Fast.tw2449478029844701612 : Nat := 0
def PySem.W.Fast.tw13829325496294360294 : Nat := 0
def PySem.W.Fast.tw13225946478757358974 : Nat := 0
def PySem.W.Fast.tw4167707887125645038 : Nat := 0
def PySem.W.Fast.tw6961530891702979644 : Nat := 0
def PySem.W.Fast.tw17440325327258436986 : Nat := 0
def PySem.W.Fast.tw948972398072585133 : Nat := 0
def PySem.W.Fast.tw6045548406893500135 : Nat := 0
def PySem.W.Fast.tw17979461109078880562 : Nat := 0
def PySem.W.Fast.tw16976402114798077178 : Nat := 0
def PySem.W.Fast.tw11827083243715200945 : Nat := 0
def PySem.W.Fast.tw2545066114961769297 : Nat := 0
def PySem.W.Fast.tw7148133837788968805 : Nat := 0
def PySem.W.Fast.tw932681369456602183 : Nat := 0
def PySem.W.Fast.tw8878061131756353169 : Nat := 0
def PySem.W.Fast.tw1916154789338229241 : Nat := 0
def PySem.W.Fast.tw11987127239364920866 : Nat := 0
def PySem.W.Fast.tw15635873740200283730 : Nat := 0
def PySem.W.Fast.tw4402444830063256853 : Nat := 0
def PySem.W.Fast.tw7647687665571058864 : Nat := 0
def PySem.W.Fast.tw1543158009879342054 : Nat := 0
def PySem.W.Fast.tw15198483757424074479 : Nat := 0
def PySem.W.Fast.tw1804340720748459709 : Nat := 0
def PySem.W.Fast.tw9677350755501329400 : Nat := 0
def PySem.W.Fast.tw17538152943301450907 : Nat := 0
def PySem.W.Fast.tw18000848678160439213 : Nat := 0
def PySem.W.Fast.tw16371628550644538258 : Nat := 0
def PySem.W.Fast.tw16463906235195758372 : Nat := 0
def PySem.W.Fast.tw8381155344742957896 : Nat := 0
def PySem.W.Fast.tw7620455349831306753 : Nat := 0
def PySem.W.Fast.tw4075850023972542411 : Nat := 0
def PySem.W.Fast.tw13627204758775937716 : Nat := 0
def PySem.W.Fast.tw11543043747610209390 : Nat := 0
def PySem.W.Fast.tw9932076247486428361 : Nat := 0
def PySem.W.Fast.tw2408730525806941826 : Nat := 0
def PySem.W.Fast.tw14098535227515018353 : Nat := 0
def PySem.W.Fast.tw7078057441398730014 : Nat := 0
def PySem.W.Fast.tw13913067719450304780 : Nat := 0
def PySem.W.Fast.tw3096035426288065445 : Nat := 0
def PySem.W.Fast.tw3785446770794852513 : Nat := 0
def PySem.W.Fast.tw1663571088971182719 : Nat := 0
def PySem.W.Fast.tw13155770191678919238 : Nat := 0
def PySem.W.Fast.tw3562673195678731330 : Nat := 0
def PySem.W.Fast.tw6142573122697006764 : Nat := 0
def PySem.W.Fast.tw1349556278050901795 : Nat := 0
def PySem.W.Fast.tw6658712155204331792 : Nat := 0
def PySem.W.Fast.tw12459511950307081369 : Nat := 0
def PySem.W.Fast.tw10311568895012690908 : Nat := 0
def PySem.W.Fast.tw7096154098357120055 : Nat := 0
def PySem.W.Fast.tw8846330032673570107 : Nat := 0
def PySem.W.Fast.tw12420235140436756574 : Nat := 0
def PySem.W.Fast.tw6186233042402305583 : Nat := 0
def PySem.W.Fast.tw17515786816345701910 : Nat := 0
def PySem.W.Fast.tw11590941284117688246 : Nat := 0
def PySem.W.Fast.tw3622727433450645808 : Nat := 0
def PySem.W.Fast.tw2217927428257019783 : Nat := 0
def PySem.W.Fast.tw10096963588562298667 : Nat := 0
def PySem.W.Fast.tw2726774193890696058 : Nat := 0
def PySem.W.Fast.tw15307967768725465970 : Nat := 0
def PySem.W.Fast.tw11199432220590108888 : Nat := 0
def PySem.W.Fast.tw13843753562160786221 : Nat := 0
def PySem.W.Fast.tw18347131640024282825 : Nat := 0
def PySem.W.Fast.tw14355746621985586302 : Nat := 0
def PySem.W.Fast.tw4794061210190804384 : Nat := 0
def PySem.W.Fast.tw9079318224616315789 : Nat := 0
def PySem.W.Fast.tw4941449166865220886 : Nat := 0
def PySem.W.Fast.tw4180913302031875178 : Nat := 0
def PySem.W.Fast.tw9622075121715442377 : Nat := 0
def PySem.W.Fast.tw3282821156036234547 : Nat := 0
def PySem.W.Fast.tw7916318990519350199 : Nat := 0
def PySem.W.Fast.tw7840029303581496541 : Nat := 0
def PySem.W.Fast.tw13740208471670750416 : Nat := 0
def PySem.W.Fast.tw9954754649906660088 : Nat := 0
def PySem.W.Fast.tw5975507115365799641 : Nat := 0
def PySem.W.Fast.tw17017347900067071909 : Nat := 0
def PySem.W.Fast.tw15891494662328790337 : Nat := 0
def PySem.W.Fast.tw5279212999101014120 : Nat := 0
def PySem.W.Fast.tw1179957947061260990 : Nat := 0
def PySem.W.Fast.tw15032727900028966980 : Nat := 0
def PySem.W.Fast.tw4854939229441233199 : Nat := 0
def PySem.W.Fast.tw4177921405944000208 : Nat := 0
def PySem.W.Fast.tw10648441159153744569 : Nat := 0
def PySem.W.Fast.tw9896032098847647961 : Nat := 0
def PySem.W.Fast.tw51207388744030235 : Nat := 0
def PySem.W.Fast.tw11931527990773539270 : Nat := 0
def PySem.W.Fast.tw13120043471614099404 : Nat := 0
def PySem.W.Fast.tw9618883373864932708 : Nat := 0
def PySem.W.Fast.tw4503787076745203832 : Nat := 0
def PySem.W.Fast.tw12494274548063785149 : Nat := 0
def PySem.W.Fast.tw6873123877714751191 : Nat := 0
def PySem.W.Fast.tw9043351360524873664 : Nat := 0
def PySem.W.Fast.tw12798634027306694085 : Nat := 0
def PySem.W.Fast.tw12572941032595517206 : Nat := 0
def PySem.W.Fast.tw2690441957215431528 : Nat := 0
def PySem.W.Fast.tw11748426352983205069 : Nat := 0
def PySem.W.Fast.tw1403759070940651782 : Nat := 0
def PySem.W.Fast.tw1544433735760815047 : Nat := 0
def PySem.W.Fast.tw5486084406359376019 : Nat := 0
def PySem.W.Fast.tw13402342632100647624 : Nat := 0
def PySem.W.Fast.tw2331354421540068770 : Nat := 0
def PySem.W.Fast.tw4446443537321623701 : Nat := 0
def PySem.W.Fast.tw11600951806240491536 : Nat := 0
def PySem.W.Fast.tw16468749301166858611 : Nat := 0
def PySem.W.Fast.tw18272569983737247072 : Nat := 0
def PySem.W.Fast.tw15628832057898523370 : Nat := 0
def PySem.W.Fast.tw1104165272119041446 : Nat := 0
def PySem.W.Fast.tw14753633088036468646 : Nat := 0
def PySem.W.Fast.tw4175947758008656648 : Nat := 0
def PySem.W.Fast.tw15812807289825146671 : Nat := 0
def PySem.W.Fast.tw14795167918974442936 : Nat := 0
def PySem.W.Fast.tw15534186065507979638 : Nat := 0
def PySem.W.Fast.tw10610972658395198816 : Nat := 0
def PySem.W.Fast.tw7094188079255703844 : Nat := 0
def PySem.W.Fast.tw7035182125483015624 : Nat := 0
def PySem.W.Fast.tw6685361516291843041 : Nat := 0
def PySem.W.Fast.tw7903041482137182196 : Nat := 0
def PySem.W.Fast.tw18110322118448836954 : Nat := 0
def PySem.W.Fast.tw7044287049542708160 : Nat := 0
def PySem.W.Fast.tw1762904111696499135 : Nat := 0
def PySem.W.Fast.tw16510897378040074101 : Nat := 0
def PySem.W.Fast.tw10582546644530707905 : Nat := 0
def PySem.W.Fast.tw8253722829336804778 : Nat := 0
def PySem.W.Fast.tw16778557093250454298 : Nat := 0
def PySem.W.Fast.tw15113850278750636367 : Nat := 0
def PySem.W.Fast.tw3606738362582602464 : Nat := 0
def PySem.W.Fast.tw16882862134394731982 : Nat := 0
def PySem.W.Fast.tw15889388511561225744 : Nat := 0
def PySem.W.Fast.tw16758348898221008649 : Nat := 0
def PySem.W.Fast.tw1280245145395709582 : Nat := 0
def PySem.W.Fast.tw12086258779622528339 : Nat := 0
def PySem.W.Fast.tw15045418484587960397 : Nat := 0
def PySem.W.Fast.tw18020331562504977398 : Nat := 0
def PySem.W.Fast.tw7847577685049189721 : Nat := 0
def PySem.W.Fast.tw13056689968793575162 : Nat := 0
def PySem.W.Fast.tw14006787348606402380 : Nat := 0
def PySem.W.Fast.tw3160956664222442923 : Nat := 0
def PySem.W.Fast.tw2519729740854294877 : Nat := 0
def PySem.W.Fast.tw4350782655186845373 : Nat := 0
def PySem.W.Fast.tw10278258323496298237 : Nat := 0
def PySem.W.Fast.tw9339703913254375045 : Nat := 0
def PySem.W.Fast.tw722449258143597937 : Nat := 0
def PySem.W.Fast.tw8763185997614294298 : Nat := 0
def PySem.W.Fast.tw7230160607614302251 : Nat := 0
def PySem.W.Fast.tw9081725432095235122 : Nat := 0
def PySem.W.Fast.tw4498108007132315889 : Nat := 0
def PySem.W.Fast.tw14299951735556793554 : Nat := 0
def PySem.W.Fast.tw10660343716586062699 : Nat := 0
def PySem.W.Fast.tw6600987729256064438 : Nat := 0
def PySem.W.Fast.tw5247225543982258433 : Nat := 0
def PySem.W.Fast.tw12247550144165417638 : Nat := 0
def PySem.W.Fast.tw13191626556543440956 : Nat := 0
def PySem.W.Fast.tw780399330466744873 : Nat := 0
def PySem.W.Fast.tw8365863480824647777 : Nat := 0
def PySem.W.Fast.tw2906182437604245010 : Nat := 0
def PySem.W.Fast.tw11017851424659625042 : Nat := 0
def PySem.W.Fast.tw9178372364621196304 : Nat := 0
def PySem.W.Fast.tw12079404899931476873 : Nat := 0
def PySem.W.Fast.tw10186456195282093780 : Nat := 0
def PySem.W.Fast.tw2390705923512172112 : Nat := 0
def PySem.W.Fast.tw12579698157155133116 : Nat := 0
def PySem.W.Fast.tw662880744047862703 : Nat := 0
def PySem.W.Fast.tw13588433213040264196 : Nat := 0
def PySem.W.Fast.tw14712715103827797382 : Nat := 0
def PySem.W.Fast.tw15557722250601077602 : Nat := 0
def PySem.W.Fast.tw17192927517283838921 : Nat := 0
def PySem.W.Fast.tw6693077519880316163 : Nat := 0
def PySem.W.Fast.tw7867514984750925569 : Nat := 0
def PySem.W.Fast.tw2304123387171057812 : Nat := 0
def PySem.W.Fast.tw14205404175076952932 : Nat := 0
def PySem.W.Fast.tw17565266824483087667 : Nat := 0
def PySem.W.Fast.tw4029582998773049127 : Nat := 0
def PySem.W.Fast.tw555873667696957826 : Nat := 0
def PySem.W.Fast.tw1021683121781263454 : Nat := 0
def PySem.W.Fast.tw14374819722761868488 : Nat := 0
def PySem.W.Fast.tw16162752282923296502 : Nat := 0
def PySem.W.Fast.tw1630155755720708459 : Nat := 0
def PySem.W.Fast.tw12939572142475067857 : Nat := 0
def PySem.W.Fast.tw16104586194340899800 : Nat := 0
def PySem.W.Fast.tw12718735258474697416 : Nat := 0
def PySem.W.Fast.tw6695979855872868905 : Nat := 0
def PySem.W.Fast.tw13813563753786682086 : Nat := 0
def PySem.W.Fast.tw16178626997364867235 : Nat := 0
def PySem.W.Fast.tw15453259939901480639 : Nat := 0
def PySem.W.Fast.tw16920886734091563927 : Nat := 0
def PySem.W.Fast.tw1469618946050719405 : Nat := 0
def PySem.W.Fast.tw18352839888030069947 : Nat := 0
def PySem.W.Fast.tw11411134666121569249 : Nat := 0
def PySem.W.Fast.tw14218890998144423268 : Nat := 0
def PySem.W.Fast.tw8304903227648649627 : Nat := 0
def PySem.W.Fast.tw11457470486483164357 : Nat := 0
def PySem.W.Fast.tw15093705100604488680 : Nat := 0
def PySem.W.Fast.tw1584095423339015848 : Nat := 0
def PySem.W.Fast.tw14884971473316138999 : Nat := 0
def PySem.W.Fast.tw31299966028339466 : Nat := 0
def PySem.W.Fast.tw1877054528222093325 : Nat := 0
def PySem.W.Fast.tw16391195438422324145 : Nat := 0
def PySem.W.Fast.tw7236436514459730586 : Nat := 0
def PySem.W.Fast.tw4370552542101053629 : Nat := 0
def PySem.W.Fast.tw15861491855807173391 : Nat := 0
def PySem.W.Fast.tw8958750913071868335 : Nat := 0
def PySem.W.Fast.tw5720311421242550941 : Nat := 0
def PySem.W.Fast.tw1278848346381947859 : Nat := 0
def PySem.W.Fast.tw10184775344829646880 : Nat := 0
def PySem.W.Fast.tw12520383935092575203 : Nat := 0
def PySem.W.Fast.tw8398692424641403398 : Nat := 0
def PySem.W.Fast.tw390001455808861523 : Nat := 0
def PySem.W.Fast.tw13057276897357524248 : Nat := 0
def PySem.W.Fast.tw9129773278683382442 : Nat := 0
def PySem.W.Fast.tw14636243627860147533 : Nat := 0
def PySem.W.Fast.tw6685669121652322813 : Nat := 0
def PySem.W.Fast.tw15972264623130494062 : Nat := 0
def PySem.W.Fast.tw11175279523352132730 : Nat := 0
def PySem.W.Fast.tw9299454126431657650 : Nat := 0
def PySem.W.Fast.tw1649699611793533728 : Nat := 0
def PySem.W.Fast.tw10291089399787209594 : Nat := 0
def PySem.W.Fast.tw7133249527006649887 : Nat := 0
def PySem.W.Fast.tw4442338556085550478 : Nat := 0
def PySem.W.Fast.tw11272283218811819868 : Nat := 0
def PySem.W.Fast.tw15222178213790475371 : Nat := 0
def PySem.W.Fast.tw16968644041191323195 : Nat := 0
def PySem.W.Fast.tw17702009070438011399 : Nat := 0
def PySem.W.Fast.tw11721533807224839243 : Nat := 0
def PySem.W.Fast.tw10874427459361526875 : Nat := 0
def PySem.W.Fast.tw1244496212883073148 : Nat := 0
def PySem.W.Fast.tw1516685287761877115 : Nat := 0
def PySem.W.Fast.tw16539913101714314669 : Nat := 0
def PySem.W.Fast.tw8269169649624365292 : Nat := 0
def PySem.W.Fast.tw17133340592142788497 : Nat := 0
def PySem.W.Fast.tw11256122481210059421 : Nat := 0
def PySem.W.Fast.tw2573237540960308240 : Nat := 0
def PySem.W.Fast.tw5647038163460149090 : Nat := 0
def PySem.W.Fast.tw9261301984703103982 : Nat := 0
def PySem.W.Fast.tw15866311144962189302 : Nat := 0
def PySem.W.Fast.tw8868164856859489559 : Nat := 0
def PySem.W.Fast.tw16375186859367033762 : Nat := 0
def PySem.W.Fast.tw11999449598348411460 : Nat := 0
def PySem.W.Fast.tw15462674028710905608 : Nat := 0
def PySem.W.Fast.tw16016296994800798618 : Nat := 0
def PySem.W.Fast.tw13272936643966747658 : Nat := 0
def PySem.W.Fast.tw1069097190644260692 : Nat := 0
def PySem.W.Fast.tw8671740455003017403 : Nat := 0
def PySem.W.Fast.tw3846448565299824905 : Nat := 0
def PySem.W.Fast.tw12739468926776940275 : Nat := 0
def PySem.W.Fast.tw6105791548945109438 : Nat := 0
def PySem.W.Fast.tw12282435549258833132 : Nat := 0
def PySem.W.Fast.tw9199606997657747809 : Nat := 0
def PySem.W.Fast.tw9023502443628767441 : Nat := 0
def PySem.W.Fast.tw7341281304473355960 : Nat := 0
def PySem.W.Fast.tw5816325670682362927 : Nat := 0
def PySem.W.Fast.tw16203850219351918268 : Nat := 0
def PySem.W.Fast.tw5523424352196350482 : Nat := 0
def PySem.W.Fast.tw17052478928036363491 : Nat := 0
def PySem.W.Fast.tw13199268298381569403 : Nat := 0
def PySem.W.Fast.tw11049469937837532956 : Nat := 0
def PySem.W.Fast.tw7178869413047211012 : Nat := 0
def PySem.W.Fast.tw16162148954912578741 : Nat := 0
def PySem.W.Fast.tw13670352886983310129 : Nat := 0
def PySem.W.Fast.tw15454481020114684522 : Nat := 0
def PySem.W.Fast.tw13459537055606947237 : Nat := 0
def PySem.W.Fast.tw10843926179760317196 : Nat := 0
def PySem.W.Fast.tw17938262295847919783 : Nat := 0
def PySem.W.Fast.tw7714618241574736474 : Nat := 0
def PySem.W.Fast.tw3145443075628725471 : Nat := 0
def PySem.W.Fast.tw17685817549186249917 : Nat := 0
def PySem.W.Fast.tw12725042256471211947 : Nat := 0
def PySem.W.Fast.tw4388790755313503502 : Nat := 0
def PySem.W.Fast.tw10110533090875806045 : Nat := 0
def PySem.W.Fast.tw2058425880160977854 : Nat := 0
def PySem.W.Fast.tw8718355394791592025 : Nat := 0
def PySem.W.Fast.tw8147328829424756404 : Nat := 0
def PySem.W.Fast.tw10735108507845298187 : Nat := 0
def PySem.W.Fast.tw13060682141204743885 : Nat := 0
def PySem.W.Fast.tw3052627246599871552 : Nat := 0
def PySem.W.Fast.tw3066833483985249305 : Nat := 0
def PySem.W.Fast.tw1123430771996155760 : Nat := 0
def PySem.W.Fast.tw9645599641126726628 : Nat := 0
def PySem.W.Fast.tw6744635341110326362 : Nat := 0
def PySem.W.Fast.tw8407538167923338259 : Nat := 0
def PySem.W.Fast.tw14869491226282089772 : Nat := 0
def PySem.W.Fast.tw7170758474465433000 : Nat := 0
def PySem.W.Fast.tw10017422031418921845 : Nat := 0
def PySem.W.Fast.tw6719077492374367639 : Nat := 0
def PySem.W.Fast.tw9400878729367380174 : Nat := 0
def PySem.W.Fast.tw31904267087400867 : Nat := 0
def PySem.W.Fast.tw7596070167052806319 : Nat := 0
def PySem.W.Fast.tw533309477522994786 : Nat := 0
def PySem.W.Fast.tw5769891657477395426 : Nat := 0
def PySem.W.Fast.tw10147027674035238502 : Nat := 0
def PySem.W.Fast.tw7355557166125765053 : Nat := 0
def PySem.W.Fast.tw16449935665212054506 : Nat := 0
def PySem.W.Fast.tw1771740128488473405 : Nat := 0
def PySem.W.Fast.tw2808417269817683587 : Nat := 0
def PySem.W.Fast.tw5734235222371837785 : Nat := 0
def PySem.W.Fast.tw13775960120921348448 : Nat := 0
def PySem.W.Fast.tw8469830888399506152 : Nat := 0
def PySem.W.Fast.tw10878964582782699434 : Nat := 0
def PySem.W.Fast.tw16947437000547696649 : Nat := 0
def PySem.W.Fast.tw2322716933867940455 : Nat := 0
def PySem.W.Fast.tw16418505730176484706 : Nat := 0
def PySem.W.Fast.tw5617402946731794959 : Nat := 0
def PySem.W.Fast.tw1347445153162572654 : Nat := 0
def PySem.W.Fast.tw8804893758324650552 : Nat := 0
def PySem.W.Fast.tw4291314544298969708 : Nat := 0
def PySem.W.Fast.tw16629084794836436790 : Nat := 0
def PySem.W.Fast.tw186032547193418949 : Nat := 0
def PySem.W.Fast.tw18103896562896972138 : Nat := 0
def PySem.W.Fast.tw9374395776456751621 : Nat := 0
def PySem.W.Fast.tw8526415865081080175 : Nat := 0
def PySem.W.Fast.tw1753099540325664815 : Nat := 0
def PySem.W.Fast.tw1026431200209017865 : Nat := 0
def PySem.W.Fast.tw11082934222057430220 : Nat := 0
def PySem.W.Fast.tw13408473679288764857 : Nat := 0
def PySem.W.Fast.tw14026144247246001766 : Nat := 0
def PySem.W.Fast.tw7196077662629334327 : Nat := 0
def PySem.W.Fast.tw12863182182319942674 : Nat := 0
def PySem.W.Fast.tw13504862326178344390 : Nat := 0
def PySem.W.Fast.tw10818775878852139584 : Nat := 0
def PySem.W.Fast.tw6118883683886803622 : Nat := 0
def PySem.W.Fast.tw14307265701650272533 : Nat := 0
def PySem.W.Fast.tw891308629743856397 : Nat := 0
def PySem.W.Fast.tw10434642769906281397 : Nat := 0
def PySem.W.Fast.tw17550813146626337091 : Nat := 0
def PySem.W.Fast.tw4023759540349562127 : Nat := 0
def PySem.W.Fast.tw806549336665380618 : Nat := 0
def PySem.W.Fast.tw606197888323575252 : Nat := 0
def PySem.W.Fast.tw13781256055594924186 : Nat := 0
def PySem.W.Fast.tw894560583399779413 : Nat := 0
def PySem.W.Fast.tw46913183180939456 : Nat := 0
def PySem.W.Fast.tw17257062565010498731 : Nat := 0
def PySem.W.Fast.tw8035958406433084544 : Nat := 0
def PySem.W.Fast.tw16665503300760036169 : Nat := 0
def PySem.W.Fast.tw8330796457945843513 : Nat := 0
def PySem.W.Fast.tw18364683985629386992 : Nat := 0
def PySem.W.Fast.tw18094900492254421080 : Nat := 0
def PySem.W.Fast.tw16623277470849658711 : Nat := 0
def PySem.W.Fast.tw13674753350538934057 : Nat := 0
def PySem.W.Fast.tw17945123485284764609 : Nat := 0
def PySem.W.Fast.tw12096402901163832572 : Nat := 0
def PySem.W.Fast.tw13066129670232032303 : Nat := 0
def PySem.W.Fast.tw10488297167922890237 : Nat := 0
def PySem.W.Fast.tw6825070359035114713 : Nat := 0
def PySem.W.Fast.tw6932544895454752164 : Nat := 0
def PySem.W.Fast.tw16062428856906047702 : Nat := 0
def PySem.W.Fast.tw14621772775475633234 : Nat := 0
def PySem.W.Fast.tw15188189222324113268 : Nat := 0
def PySem.W.Fast.tw14194240745298737821 : Nat := 0
def PySem.W.Fast.tw8244149632036483094 : Nat := 0
def PySem.W.Fast.tw7202481941416417700 : Nat := 0
def PySem.W.Fast.tw1515797889343960693 : Nat := 0
def PySem.W.Fast.tw5371671156045721260 : Nat := 0
def PySem.W.Fast.tw14109587800246308691 : Nat := 0
def PySem.W.Fast.tw3959208123976647531 : Nat := 0
def PySem.W.Fast.tw1966506804832400486 : Nat := 0
def PySem.W.Fast.tw2569897917791726647 : Nat := 0
def PySem.W.Fast.tw1560373772442212084 : Nat := 0
def PySem.W.Fast.tw12243642871585297575 : Nat := 0
def PySem.W.Fast.tw11854570775065512649 : Nat := 0
def PySem.W.Fast.tw7643286479067112943 : Nat := 0
def PySem.W.Fast.tw11731764206019782641 : Nat := 0
def PySem.W.Fast.tw4633214708428495514 : Nat := 0
def PySem.W.Fast.tw4944586475097608696 : Nat := 0
def PySem.W.Fast.tw8151794754584746529 : Nat := 0
def PySem.W.Fast.tw2112417784011798310 : Nat := 0
def PySem.W.Fast.tw14464979247429431655 : Nat := 0
def PySem.W.Fast.tw14645705069344325881 : Nat := 0
def PySem.W.Fast.tw17909455612015237451 : Nat := 0
def PySem.W.Fast.tw730040445878949961 : Nat := 0
def PySem.W.Fast.tw7083679530038351907 : Nat := 0
def PySem.W.Fast.tw16811700803704902590 : Nat := 0
def PySem.W.Fast.tw17487984165056069970 : Nat := 0
def PySem.W.Fast.tw5420893339922971212 : Nat := 0
def PySem.W.Fast.tw12994912044394732257 : Nat := 0
def PySem.W.Fast.tw16152693901098570222 : Nat := 0
def PySem.W.Fast.tw14277527905109373088 : Nat := 0
def PySem.W.Fast.tw12603173714255328262 : Nat := 0
def PySem.W.Fast.tw7188235458203497629 : Nat := 0
def PySem.W.Fast.tw516596890895025492 : Nat := 0
def PySem.W.Fast.tw16919056741476326458 : Nat := 0
def PySem.W.Fast.tw14940204905977029133 : Nat := 0
def PySem.W.Fast.tw16430500229188480078 : Nat := 0
def PySem.W.Fast.tw1342254263116500217 : Nat := 0
def PySem.W.Fast.tw3902949376741860925 : Nat := 0
def PySem.W.Fast.tw1914815039467674662 : Nat := 0
def PySem.W.Fast.tw3728008253234798591 : Nat := 0
def PySem.W.Fast.tw17443797401955783133 : Nat := 0
def PySem.W.Fast.tw4332985327492250826 : Nat := 0
def PySem.W.Fast.tw2186180640965100917 : Nat := 0
def PySem.W.Fast.tw16105210010324181972 : Nat := 0
def PySem.W.Fast.tw9639450837727605354 : Nat := 0
def PySem.W.Fast.tw9904389341466379201 : Nat := 0
def PySem.W.Fast.tw13721721801794316028 : Nat := 0
def PySem.W.Fast.tw11948816951969851273 : Nat := 0
def PySem.W.Fast.tw3040718110596641868 : Nat := 0
def PySem.W.Fast.tw6456011517715497807 : Nat := 0
def PySem.W.Fast.tw8776960101278406204 : Nat := 0
def PySem.W.Fast.tw9988852334919081445 : Nat := 0
def PySem.W.Fast.tw2628525965821172782 : Nat := 0
def PySem.W.Fast.tw3434179725094069360 : Nat := 0
def PySem.W.Fast.tw18336559787786501361 : Nat := 0
def PySem.W.Fast.tw10042299812808592631 : Nat := 0
def PySem.W.Fast.tw14714504412927687196 : Nat := 0
def PySem.W.Fast.tw5449675261050689747 : Nat := 0
def PySem.W.Fast.tw16170414345051987930 : Nat := 0
def PySem.W.Fast.tw17299366565207232524 : Nat := 0
def PySem.W.Fast.tw8373205988775070414 : Nat := 0
def PySem.W.Fast.tw16775743046620782582 : Nat := 0
def PySem.W.Fast.tw17548963664803463125 : Nat := 0
def PySem.W.Fast.tw7233112688448018891 : Nat := 0
def PySem.W.Fast.tw5802216021183655372 : Nat := 0
def PySem.W.Fast.tw2488428365317455242 : Nat := 0
def PySem.W.Fast.tw15489148826319834978 : Nat := 0
def PySem.W.Fast.tw1063930508731021753 : Nat := 0
def PySem.W.Fast.tw8917660024378127911 : Nat := 0
def PySem.W.Fast.tw11405996674903198735 : Nat := 0
def PySem.W.Fast.tw14470065149849102581 : Nat := 0
def PySem.W.Fast.tw8655270300272656810 : Nat := 0
def PySem.W.Fast.tw1274333175854352532 : Nat := 0
def PySem.W.Fast.tw12154922451829734158 : Nat := 0
def PySem.W.Fast.tw2125022454400024893 : Nat := 0
def PySem.W.Fast.tw13314221203971876502 : Nat := 0
def PySem.W.Fast.tw7071905620734533854 : Nat := 0
def PySem.W.Fast.tw16528323893604704092 : Nat := 0
def PySem.W.Fast.tw5636672525367671053 : Nat := 0
def PySem.W.Fast.tw14249730414648649519 : Nat := 0
def PySem.W.Fast.tw11713206196311816206 : Nat := 0
def PySem.W.Fast.tw9420131740915064336 : Nat := 0
def PySem.W.Fast.tw4283167541932215361 : Nat := 0
def PySem.W.Fast.tw7508208061359115169 : Nat := 0
def PySem.W.Fast.tw17966153240966413620 : Nat := 0
def PySem.W.Fast.tw16872421248140452818 : Nat := 0
def PySem.W.Fast.tw10133924294458740551 : Nat := 0
def PySem.W.Fast.tw11298520273417751429 : Nat := 0
def PySem.W.Fast.tw6969447461695077349 : Nat := 0
def PySem.W.Fast.tw13945715956689893705 : Nat := 0
def PySem.W.Fast.tw12252552465711066397 : Nat := 0
def PySem.W.Fast.tw6223060060565632626 : Nat := 0
def PySem.W.Fast.tw9107910433262078504 : Nat := 0
def PySem.W.Fast.tw487521641281528987 : Nat := 0
def PySem.W.Fast.tw12128727815787724780 : Nat := 0
def PySem.W.Fast.tw9196560267234123886 : Nat := 0
def PySem.W.Fast.tw14968094842667980634 : Nat := 0
def PySem.W.Fast.tw6849679074104699099 : Nat := 0
def PySem.W.Fast.tw17645327861830773894 : Nat := 0
def PySem.W.Fast.tw15517367976853579798 : Nat := 0
def PySem.W.Fast.tw17514934348875705590 : Nat := 0
def PySem.W.Fast.tw15937735132921420854 : Nat := 0
def PySem.W.Fast.tw9115402558305586871 : Nat := 0
def PySem.W.Fast.tw15247026435574269522 : Nat := 0
def PySem.W.Fast.tw2661584893137264785 : Nat := 0
def PySem.W.Fast.tw18091542856371970821 : Nat := 0
def PySem.W.Fast.tw6382418905421858004 : Nat := 0
def PySem.W.Fast.tw12456808156338804464 : Nat := 0
def PySem.W.Fast.tw16039976566936703854 : Nat := 0
def PySem.W.Fast.tw8300735905162861891 : Nat := 0
def PySem.W.Fast.tw13600420634238347486 : Nat := 0
def PySem.W.Fast.tw4336303329881681431 : Nat := 0
def PySem.W.Fast.tw10529670164023272761 : Nat := 0
def PySem.W.Fast.tw7173380812652521907 : Nat := 0
def PySem.W.Fast.tw14230673176443184668 : Nat := 0
def PySem.W.Fast.tw17437753547727632995 : Nat := 0
def PySem.W.Fast.tw16888448213239930950 : Nat := 0
def PySem.W.Fast.tw12924880139069794798 : Nat := 0
def PySem.W.Fast.tw14942589262074507178 : Nat := 0
def PySem.W.Fast.tw8491078383031036120 : Nat := 0
def PySem.W.Fast.tw14016072307430688134 : Nat := 0
def PySem.W.Fast.tw8454795153537051408 : Nat := 0
def PySem.W.Fast.tw8707320684348109408 : Nat := 0
def PySem.W.Fast.tw18021085464241268215 : Nat := 0
def PySem.W.Fast.tw6030026018772003823 : Nat := 0
def PySem.W.Fast.tw1198706586379424088 : Nat := 0
def PySem.W.Fast.tw5266881546291884376 : Nat := 0
def PySem.W.Fast.tw2198726914227241916 : Nat := 0
def PySem.W.Fast.tw7340227030851627682 : Nat := 0
def PySem.W.Fast.tw5966217072866717482 : Nat := 0
def PySem.W.Fast.tw1445271307489330011 : Nat := 0
def PySem.W.Fast.tw12759050485672935658 : Nat := 0
def PySem.W.Fast.tw14434583249268877616 : Nat := 0
def PySem.W.Fast.tw7551818040482582314 : Nat := 0
def PySem.W.Fast.tw4783514600006079982 : Nat := 0
def PySem.W.Fast.tw4055657105726684625 : Nat := 0
def PySem.W.Fast.tw6551645644952769060 : Nat := 0
def PySem.W.Fast.tw12165294098016606822 : Nat := 0
def PySem.W.Fast.tw5945908304099221118 : Nat := 0
def PySem.W.Fast.tw18061988592209029836 : Nat := 0
def PySem.W.Fast.tw2059043596700711712 : Nat := 0
def PySem.W.Fast.tw366818117655314923 : Nat := 0
def PySem.W.Fast.tw1458372561966949575 : Nat := 0
def PySem.W.Fast.tw2857946642764278898 : Nat := 0
def PySem.W.Fast.tw15130190698475956288 : Nat := 0
def PySem.W.Fast.tw2759797005965407452 : Nat := 0
def PySem.W.Fast.tw5440660918960135271 : Nat := 0
def PySem.W.Fast.tw11034773532144997817 : Nat := 0
def PySem.W.Fast.tw15713162141102684498 : Nat := 0
def PySem.W.Fast.tw3304845926219326892 : Nat := 0
def PySem.W.Fast.tw18237080433373425239 : Nat := 0
def PySem.W.Fast.tw9145771338389640868 : Nat := 0
def PySem.W.Fast.tw3451498829344086576 : Nat := 0
def PySem.W.Fast.tw11777820837967882208 : Nat := 0
def PySem.W.Fast.tw14095456212974566507 : Nat := 0
def PySem.W.Fast.tw10422984343830368887 : Nat := 0
def PySem.W.Fast.tw16343852286598325713 : Nat := 0
def PySem.W.Fast.tw7134685444372696676 : Nat := 0
def PySem.W.Fast.tw11682106979889525063 : Nat := 0
def PySem.W.Fast.tw8647857250816500626 : Nat := 0
def PySem.W.Fast.tw16125574382920961103 : Nat := 0
def PySem.W.Fast.tw268455851967841996 : Nat := 0
def PySem.W.Fast.tw15571191333794115271 : Nat := 0
def PySem.W.Fast.tw1017338553074938176 : Nat := 0
def PySem.W.Fast.tw1966798575459208604 : Nat := 0
def PySem.W.Fast.tw5685698441821048951 : Nat := 0
def PySem.W.Fast.tw350590065599630910 : Nat := 0
def PySem.W.Fast.tw15668172774927579079 : Nat := 0
def PySem.W.Fast.tw4240112815842571796 : Nat := 0
def PySem.W.Fast.tw11285710554025692602 : Nat := 0
def PySem.W.Fast.tw9401449198896543133 : Nat := 0
def PySem.W.Fast.tw3837661859698722582 : Nat := 0
def PySem.W.Fast.tw3405299426192122886 : Nat := 0
def PySem.W.Fast.tw240153136888018597 : Nat := 0
def PySem.W.Fast.tw1371713347757836667 : Nat := 0
def PySem.W.Fast.tw14309889542953384736 : Nat := 0
def PySem.W.Fast.tw3588752338946877459 : Nat := 0
def PySem.W.Fast.tw916946896728704988 : Nat := 0
def PySem.W.Fast.tw4532355750418401629 : Nat := 0
def PySem.W.Fast.tw343707344657704808 : Nat := 0
def PySem.W.Fast.tw15686878670650557626 : Nat := 0
def PySem.W.Fast.tw18299977932637372343 : Nat := 0
def PySem.W.Fast.tw2253304649449834521 : Nat := 0
def PySem.W.Fast.tw14164803627814561157 : Nat := 0
def PySem.W.Fast.tw11046833690425380434 : Nat := 0
def PySem.W.Fast.tw16184712621013198807 : Nat := 0
def PySem.W.Fast.tw9642985900652854801 : Nat := 0
def PySem.W.Fast.tw5263927066390782623 : Nat := 0
def PySem.W.Fast.tw6486450776344606643 : Nat := 0
def PySem.W.Fast.tw6134311336381293576 : Nat := 0
def PySem.W.Fast.tw7340766957825709406 : Nat := 0
def PySem.W.Fast.tw17582723735566290895 : Nat := 0
def PySem.W.Fast.tw5400101823222972206 : Nat := 0
def PySem.W.Fast.tw1972353270396495008 : Nat := 0
def PySem.W.Fast.tw967041031587364357 : Nat := 0
def PySem.W.Fast.tw1723150823513971379 : Nat := 0
def PySem.W.Fast.tw16405092420949828136 : Nat := 0
def PySem.W.Fast.tw678580770539775441 : Nat := 0
def PySem.W.Fast.tw4683460913924969014 : Nat := 0
def PySem.W.Fast.tw6839417446542604931 : Nat := 0
def PySem.W.Fast.tw9857265254261371194 : Nat := 0
def PySem.W.Fast.tw5264017714576784306 : Nat := 0
def PySem.W.Fast.tw6449700392097815817 : Nat := 0
def PySem.W.Fast.tw5485361964342665549 : Nat := 0
def PySem.W.Fast.tw4612921467385388162 : Nat := 0
def PySem.W.Fast.tw126700461408907980 : Nat := 0
def PySem.W.Fast.tw11595855520582819787 : Nat := 0
def PySem.W.Fast.tw6566317165276628030 : Nat := 0
def PySem.W.Fast.tw13123756368130984676 : Nat := 0
def PySem.W.Fast.tw16309783231373216426 : Nat := 0
def PySem.W.Fast.tw2479029164381507759 : Nat := 0
def PySem.W.Fast.tw18257601730412508334 : Nat := 0
def PySem.W.Fast.tw7514311623190585712 : Nat := 0
def PySem.W.Fast.tw3189165149640124908 : Nat := 0
def PySem.W.Fast.tw2410305025400701519 : Nat := 0
def PySem.W.Fast.tw4488253302883687714 : Nat := 0
def PySem.W.Fast.tw6174096368344227223 : Nat := 0
def PySem.W.Fast.tw9444400495573455852 : Nat := 0
def PySem.W.Fast.tw491781965983282055 : Nat := 0
def PySem.W.Fast.tw14447598458754209056 : Nat := 0
def PySem.W.Fast.tw8734093727542862596 : Nat := 0
def PySem.W.Fast.tw13412463665414499213 : Nat := 0
def PySem.W.Fast.tw16861910070869434814 : Nat := 0
def PySem.W.Fast.tw13653907546597734736 : Nat := 0
def PySem.W.Fast.tw12559398913200225184 : Nat := 0
def PySem.W.Fast.tw13650132681767826033 : Nat := 0
def PySem.W.Fast.tw1474925451064341683 : Nat := 0
def PySem.W.Fast.tw11184457663861285995 : Nat := 0
def PySem.W.Fast.tw11308509585668312701 : Nat := 0
def PySem.W.Fast.tw8684472235059870450 : Nat := 0
def PySem.W.Fast.tw222893703186488656 : Nat := 0
def PySem.W.Fast.tw13464891908490645368 : Nat := 0
def PySem.W.Fast.tw13763438275000994261 : Nat := 0
def PySem.W.Fast.tw10442407774833350877 : Nat := 0
def PySem.W.Fast.tw13818992110418023660 : Nat := 0
def PySem.W.Fast.tw5028057876561808760 : Nat := 0
def PySem.W.Fast.tw3378232607038085535 : Nat := 0
def PySem.W.Fast.tw16371562272445313545 : Nat := 0
def PySem.W.Fast.tw16620733580499815307 : Nat := 0
def PySem.W.Fast.tw1108823117245975189 : Nat := 0
def PySem.W.Fast.tw9935061879415245246 : Nat := 0
def PySem.W.Fast.tw8648087858693143695 : Nat := 0
def PySem.W.Fast.tw311934174993118770 : Nat := 0
def PySem.W.Fast.tw6714034193341402797 : Nat := 0
def PySem.W.Fast.tw18191118595858032549 : Nat := 0
def PySem.W.Fast.tw17400185257439349546 : Nat := 0
def PySem.W.Fast.tw2503217871881038440 : Nat := 0
def PySem.W.Fast.tw16610750932859178768 : Nat := 0
def PySem.W.Fast.tw13066740861039280890 : Nat := 0
def PySem.W.Fast.tw17325560017555438240 : Nat := 0
def PySem.W.Fast.tw5259889634943903395 : Nat := 0
def PySem.W.Fast.tw17949777253033432914 : Nat := 0
def PySem.W.Fast.tw17164158813135158861 : Nat := 0
def PySem.W.Fast.tw12668418617881374722 : Nat := 0
def PySem.W.Fast.tw2822153483524665256 : Nat := 0
def PySem.W.Fast.tw16088957362166556914 : Nat := 0
def PySem.W.Fast.tw1502153169350479341 : Nat := 0
def PySem.W.Fast.tw15978449062769755234 : Nat := 0
def PySem.W.Fast.tw3332303988588675624 : Nat := 0
def PySem.W.Fast.tw2662977306607706895 : Nat := 0
def PySem.W.Fast.tw12675721472883668107 : Nat := 0
def PySem.W.Fast.tw17644456979441504233 : Nat := 0
def PySem.W.Fast.tw17103439098948987160 : Nat := 0
def PySem.W.Fast.tw5481157659897962301 : Nat := 0
def PySem.W.Fast.tw4246302178708324995 : Nat := 0
def PySem.W.Fast.tw8149582925197514062 : Nat := 0
def PySem.W.Fast.tw4082193679876128816 : Nat := 0
def PySem.W.Fast.tw4056269987625841115 : Nat := 0
def PySem.W.Fast.tw991168752588229142 : Nat := 0
def PySem.W.Fast.tw1341712038036719917 : Nat := 0
def PySem.W.Fast.tw8937132030019165623 : Nat := 0
def PySem.W.Fast.tw239135154436944362 : Nat := 0
def PySem.W.Fast.tw3542654842398578726 : Nat := 0
def PySem.W.Fast.tw72861183590091684 : Nat := 0
def PySem.W.Fast.tw17346561582578733757 : Nat := 0
def PySem.W.Fast.tw16886730467618095886 : Nat := 0
def PySem.W.Fast.tw14363075050593397762 : Nat := 0
def PySem.W.Fast.tw18036183373229190626 : Nat := 0
def PySem.W.Fast.tw6710302848377996737 : Nat := 0
def PySem.W.Fast.tw16576904914475808552 : Nat := 0
def PySem.W.Fast.tw2141448588005272964 : Nat := 0
def PySem.W.Fast.tw12440307609599217231 : Nat := 0
def PySem.W.Fast.tw13478629796028185781 : Nat := 0
def PySem.W.Fast.tw4831916135145665526 : Nat := 0
def PySem.W.Fast.tw6999196122087094455 : Nat := 0
def PySem.W.Fast.tw4973468022935425369 : Nat := 0
def PySem.W.Fast.tw14330712726240642560 : Nat := 0
def PySem.W.Fast.tw6879355765486008373 : Nat := 0
def PySem.W.Fast.tw15165906391618809724 : Nat := 0
def PySem.W.Fast.tw1451334519199651302 : Nat := 0
def PySem.W.Fast.tw14153215491857055335 : Nat := 0
def PySem.W.Fast.tw8647482006000004630 : Nat := 0
def PySem.W.Fast.tw17845343224370345864 : Nat := 0
def PySem.W.Fast.tw11425735842964888041 : Nat := 0
def PySem.W.Fast.tw1827203932593297450 : Nat := 0
def PySem.W.Fast.tw13544094097564460655 : Nat := 0
def PySem.W.Fast.tw10728760798641990768 : Nat := 0
def PySem.W.Fast.tw5502672721753895039 : Nat := 0
def PySem.W.Fast.tw274780343475912863 : Nat := 0
def PySem.W.Fast.tw6222365339766668027 : Nat := 0
def PySem.W.Fast.tw4029062409846237227 : Nat := 0
def PySem.W.Fast.tw865542401908174923 : Nat := 0
def PySem.W.Fast.tw5838691648665447056 : Nat := 0
def PySem.W.Fast.tw2455946935185352558 : Nat := 0
def PySem.W.Fast.tw4205841934590040627 : Nat := 0
def PySem.W.Fast.tw10774784044963787611 : Nat := 0
def PySem.W.Fast.tw18286694808485693981 : Nat := 0
def PySem.W.Fast.tw7452980763941005614 : Nat := 0
def PySem.W.Fast.tw1743870247598583039 : Nat := 0
def PySem.W.Fast.tw4651618178975673578 : Nat := 0
def PySem.W.Fast.tw16272692191087915636 : Nat := 0
def PySem.W.Fast.tw9332826263520402569 : Nat := 0
def PySem.W.Fast.tw4866694909369886490 : Nat := 0
def PySem.W.Fast.tw8131837571631966312 : Nat := 0
def PySem.W.Fast.tw4073643183319791194 : Nat := 0
def PySem.W.Fast.tw11682902919097915920 : Nat := 0
def PySem.W.Fast.tw12953915952317307028 : Nat := 0
def PySem.W.Fast.tw1403066749085529761 : Nat := 0
def PySem.W.Fast.tw11971893012907974859 : Nat := 0
def PySem.W.Fast.tw8709188100858863704 : Nat := 0
def PySem.W.Fast.tw6006494247279978186 : Nat := 0
def PySem.W.Fast.tw8771383762486532575 : Nat := 0
def PySem.W.Fast.tw8704334860826401366 : Nat := 0
def PySem.W.Fast.tw1474307753357928254 : Nat := 0
def PySem.W.Fast.tw10711276499085719089 : Nat := 0
def PySem.W.Fast.tw12268048538484931426 : Nat := 0
def PySem.W.Fast.tw2060046618158325795 : Nat := 0
def PySem.W.Fast.tw3177869558056939516 : Nat := 0
def PySem.W.Fast.tw14812928975160539361 : Nat := 0
def PySem.W.Fast.tw9299151199065639188 : Nat := 0
def PySem.W.Fast.tw11929155936860093891 : Nat := 0
def PySem.W.Fast.tw6778963964161476591 : Nat := 0
def PySem.W.Fast.tw11684632725632403424 : Nat := 0
def PySem.W.Fast.tw14817119010478769179 : Nat := 0
def PySem.W.Fast.tw9157348513205589563 : Nat := 0
def PySem.W.Fast.tw10937848799342535665 : Nat := 0
def PySem.W.Fast.tw485250222508392268 : Nat := 0
def PySem.W.Fast.tw16499747312791030752 : Nat := 0
def PySem.W.Fast.tw3244380532538881219 : Nat := 0
def PySem.W.Fast.tw14089514833148648764 : Nat := 0
def PySem.W.Fast.tw13899038826843096087 : Nat := 0
def PySem.W.Fast.tw5759673051692141786 : Nat := 0
def PySem.W.Fast.tw10661677241932998430 : Nat := 0
def PySem.W.Fast.tw14685149615831841032 : Nat := 0
def PySem.W.Fast.tw2223664443750548415 : Nat := 0
def PySem.W.Fast.tw1451245598879917783 : Nat := 0
def PySem.W.Fast.tw11014959130320083044 : Nat := 0
def PySem.W.Fast.tw8205930577924301907 : Nat := 0
def PySem.W.Fast.tw12286695436987983588 : Nat := 0
def PySem.W.Fast.tw9780322794399079512 : Nat := 0
def PySem.W.Fast.tw12559396040047692951 : Nat := 0
def PySem.W.Fast.tw15685474551623933774 : Nat := 0
def PySem.W.Fast.tw1880552607332669288 : Nat := 0
def PySem.W.Fast.tw1557024394960042093 : Nat := 0
def PySem.W.Fast.tw15261463640057095109 : Nat := 0
def PySem.W.Fast.tw15907623414979227511 : Nat := 0
def PySem.W.Fast.tw12997798191963423359 : Nat := 0
def PySem.W.Fast.tw2450307010824087564 : Nat := 0
def PySem.W.Fast.tw11825272060797990175 : Nat := 0
def PySem.W.Fast.tw9909454481772959321 : Nat := 0
def PySem.W.Fast.tw12200075913689045292 : Nat := 0
def PySem.W.Fast.tw15171147901024715877 : Nat := 0
def PySem.W.Fast.tw16365699483859761982 : Nat := 0
def PySem.W.Fast.tw17556337542171623156 : Nat := 0
def PySem.W.Fast.tw17379974968526931527 : Nat := 0
def PySem.W.Fast.tw4159031034395121992 : Nat := 0
def PySem.W.Fast.tw10575965779953567355 : Nat := 0
def PySem.W.Fast.tw4740098814055504764 : Nat := 0
def PySem.W.Fast.tw7982278632695173114 : Nat := 0
def PySem.W.Fast.tw7798046534883849433 : Nat := 0
def PySem.W.Fast.tw15882305996735858 : Nat := 0
def PySem.W.Fast.tw2746085910617898950 : Nat := 0
def PySem.W.Fast.tw5060467088227843573 : Nat := 0
def PySem.W.Fast.tw11329326794134716784 : Nat := 0
def PySem.W.Fast.tw581904153703765261 : Nat := 0
def PySem.W.Fast.tw9431586346706314191 : Nat := 0
def PySem.W.Fast.tw3425140142747156802 : Nat := 0
def PySem.W.Fast.tw14881740180292814981 : Nat := 0
def PySem.W.Fast.tw1558979443245188783 : Nat := 0
def PySem.W.Fast.tw10748862438718008688 : Nat := 0
def PySem.W.Fast.tw8051880556293241852 : Nat := 0
def PySem.W.Fast.tw5091993302007382907 : Nat := 0
def PySem.W.Fast.tw9642500273811872361 : Nat := 0
def PySem.W.Fast.tw15849973599079265042 : Nat := 0
def PySem.W.Fast.tw5605945531101535894 : Nat := 0
def PySem.W.Fast.tw7512526009457417786 : Nat := 0
def PySem.W.Fast.tw11152759581925213778 : Nat := 0
def PySem.W.Fast.tw13218446248510718246 : Nat := 0
def PySem.W.Fast.tw7957488760789111778 : Nat := 0
def PySem.W.Fast.tw17139028674029560573 : Nat := 0
def PySem.W.Fast.tw2795612934139780196 : Nat := 0
def PySem.W.Fast.tw5917437611070289167 : Nat := 0
def PySem.W.Fast.tw6315389365904518132 : Nat := 0
def PySem.W.Fast.tw3410767515954167434 : Nat := 0
def PySem.W.Fast.tw2530213942073014239 : Nat := 0
def PySem.W.Fast.tw17955850299994914798 : Nat := 0
def PySem.W.Fast.tw4292664253563928784 : Nat := 0
def PySem.W.Fast.tw9999410877735749388 : Nat := 0
def PySem.W.Fast.tw538704780139075088 : Nat := 0
def PySem.W.Fast.tw84446993356043176 : Nat := 0
def PySem.W.Fast.tw6374037585036500004 : Nat := 0
def PySem.W.Fast.tw2016995267214279552 : Nat := 0
def PySem.W.Fast.tw15239050179832416309 : Nat := 0
def PySem.W.Fast.tw3381761911838474442 : Nat := 0
def PySem.W.Fast.tw8971009415386392273 : Nat := 0
def PySem.W.Fast.tw11317419259822136578 : Nat := 0
def PySem.W.Fast.tw16468429865339868187 : Nat := 0
def PySem.W.Fast.tw3989762000220862382 : Nat := 0
def PySem.W.Fast.tw17766993849823106238 : Nat := 0
def PySem.W.Fast.tw16131418875336308212 : Nat := 0
def PySem.W.Fast.tw5425751586209542156 : Nat := 0
def PySem.W.Fast.tw7014355520615775796 : Nat := 0
def PySem.W.Fast.tw13168646122599794814 : Nat := 0
def PySem.W.Fast.tw17566039457460514791 : Nat := 0
def PySem.W.Fast.tw3857495811247619386 : Nat := 0
def PySem.W.Fast.tw747067334932116665 : Nat := 0
def PySem.W.Fast.tw13350802044578213563 : Nat := 0
def PySem.W.Fast.tw17623148519009357203 : Nat := 0
def PySem.W.Fast.tw17194481713004834460 : Nat := 0
def PySem.W.Fast.tw16929317394766012962 : Nat := 0
def PySem.W.Fast.tw8836716641484323269 : Nat := 0
def PySem.W.Fast.tw18259284721365745479 : Nat := 0
def PySem.W.Fast.tw5299031554587753841 : Nat := 0
def PySem.W.Fast.tw3093741729440108984 : Nat := 0
def PySem.W.Fast.tw16117465268569673304 : Nat := 0
def PySem.W.Fast.tw13085825632584801282 : Nat := 0
def PySem.W.Fast.tw3748870498399242248 : Nat := 0
def PySem.W.Fast.tw14488155846953241336 : Nat := 0
def PySem.W.Fast.tw16139965253486409082 : Nat := 0
def PySem.W.Fast.tw9322109507359914406 : Nat := 0
def PySem.W.Fast.tw4457032514103385009 : Nat := 0
def PySem.W.Fast.tw8787986486721817638 : Nat := 0
def PySem.W.Fast.tw14262925007947448405 : Nat := 0
def PySem.W.Fast.tw6183894105514099110 : Nat := 0
def PySem.W.Fast.tw7307014170629632722 : Nat := 0
def PySem.W.Fast.tw12070510814231142915 : Nat := 0
def PySem.W.Fast.tw3296618501561201025 : Nat := 0
def PySem.W.Fast.tw13341708131721263714 : Nat := 0
def PySem.W.Fast.tw6764778578665400324 : Nat := 0
def PySem.W.Fast.tw12317465810021321271 : Nat := 0
def PySem.W.Fast.tw2459843830331370763 : Nat := 0
def PySem.W.Fast.tw10876551567477855573 : Nat := 0
def PySem.W.Fast.tw17425453798056724645 : Nat := 0
def PySem.W.Fast.tw6686258715350045687 : Nat := 0
def PySem.W.Fast.tw4692675755347684339 : Nat := 0
def PySem.W.Fast.tw13111963245170003709 : Nat := 0
def PySem.W.Fast.tw3085313952825824000 : Nat := 0
def PySem.W.Fast.tw10749049728154301709 : Nat := 0
def PySem.W.Fast.tw5906433472647623000 : Nat := 0
def PySem.W.Fast.tw13151987492866696937 : Nat := 0
def PySem.W.Fast.tw7435745896048191557 : Nat := 0
def PySem.W.Fast.tw16982345964091899588 : Nat := 0
def PySem.W.Fast.tw9871354613536105862 : Nat := 0
def PySem.W.Fast.tw1448939355023566681 : Nat := 0
def PySem.W.Fast.tw10612990623777392737 : Nat := 0
def PySem.W.Fast.tw10127275925812485548 : Nat := 0
def PySem.W.Fast.tw15877850751874794538 : Nat := 0
def PySem.W.Fast.tw10420242630184083117 : Nat := 0
def PySem.W.Fast.tw7210517681449739343 : Nat := 0
def PySem.W.Fast.tw4549266363102687377 : Nat := 0
def PySem.W.Fast.tw17546930332305654699 : Nat := 0
def PySem.W.Fast.tw1219833996765191464 : Nat := 0
def PySem.W.Fast.tw1150606130027455562 : Nat := 0
def PySem.W.Fast.tw7187868073737017886 : Nat := 0
def PySem.W.Fast.tw13833769154378199977 : Nat := 0
def PySem.W.Fast.tw11627266268080720885 : Nat := 0
def PySem.W.Fast.tw16023355953925118768 : Nat := 0
def PySem.W.Fast.tw1951765915398600313 : Nat := 0
def PySem.W.Fast.tw12049058294278019217 : Nat := 0
def PySem.W.Fast.tw11641952773989043007 : Nat := 0
def PySem.W.Fast.tw14763456856505739370 : Nat := 0
def PySem.W.Fast.tw14026080780674896262 : Nat := 0
def PySem.W.Fast.tw13013157318378403914 : Nat := 0
def PySem.W.Fast.tw9028669647196052783 : Nat := 0
def PySem.W.Fast.tw10446737302374793760 : Nat := 0
def PySem.W.Fast.tw6855371551966426926 : Nat := 0
def PySem.W.Fast.tw1114268993647336726 : Nat := 0
def PySem.W.Fast.tw1408461795588677523 : Nat := 0
def PySem.W.Fast.tw2178368549389533256 : Nat := 0
def PySem.W.Fast.tw7486747255695579971 : Nat := 0
def PySem.W.Fast.tw8716683772703045873 : Nat := 0
def PySem.W.Fast.tw3941137073897731489 : Nat := 0
def PySem.W.Fast.tw16201937190740298879 : Nat := 0
def PySem.W.Fast.tw643657999004277529 : Nat := 0
def PySem.W.Fast.tw6085518881603432186 : Nat := 0
def PySem.W.Fast.tw1860610274219827292 : Nat := 0
def PySem.W.Fast.tw7329583176687663470 : Nat := 0
def PySem.W.Fast.tw12554433340049973579 : Nat := 0
def PySem.W.Fast.tw6596138869833435770 : Nat := 0
def PySem.W.Fast.tw17605894187278411830 : Nat := 0
def PySem.W.Fast.tw15154614262141750524 : Nat := 0
def PySem.W.Fast.tw13261475741448984826 : Nat := 0
def PySem.W.Fast.tw17505129092294967410 : Nat := 0
def PySem.W.Fast.tw2123869918749148674 : Nat := 0
def PySem.W.Fast.tw16266476973502255194 : Nat := 0
def PySem.W.Fast.tw18397568794081532985 : Nat := 0
def PySem.W.Fast.tw2437112160091404582 : Nat := 0
def PySem.W.Fast.tw12375487250535722824 : Nat := 0
def PySem.W.Fast.tw17633968291656921828 : Nat := 0
def PySem.W.Fast.tw17292066519338088699 : Nat := 0
def PySem.W.Fast.tw4185771163861933908 : Nat := 0
def PySem.W.Fast.tw8391725068298176788 : Nat := 0
def PySem.W.Fast.tw17112979994594478334 : Nat := 0
def PySem.W.Fast.tw14143191274150153849 : Nat := 0
def PySem.W.Fast.tw1165545102965825958 : Nat := 0
def PySem.W.Fast.tw3284773357832797882 : Nat := 0
def PySem.W.Fast.tw13284159692581060824 : Nat := 0
def PySem.W.Fast.tw8303291982171246071 : Nat := 0
def PySem.W.Fast.tw1160517210286358085 : Nat := 0
def PySem.W.Fast.tw7836340788765808092 : Nat := 0
def PySem.W.Fast.tw4088330719529005384 : Nat := 0
def PySem.W.Fast.tw18182600926497008731 : Nat := 0
def PySem.W.Fast.tw619899063421120687 : Nat := 0
def PySem.W.Fast.tw7933550281708072748 : Nat := 0
def PySem.W.Fast.tw17116434653959634833 : Nat := 0
def PySem.W.Fast.tw2306129826497522301 : Nat := 0
def PySem.W.Fast.tw4774169001009941472 : Nat := 0
def PySem.W.Fast.tw9041712818919004640 : Nat := 0
def PySem.W.Fast.tw4808438264966253609 : Nat := 0
def PySem.W.Fast.tw18111905175716203432 : Nat := 0
def PySem.W.Fast.tw16723989862290786205 : Nat := 0
def PySem.W.Fast.tw14453291703344073962 : Nat := 0
def PySem.W.Fast.tw16933939071019714755 : Nat := 0
def PySem.W.Fast.tw13371107317009839234 : Nat := 0
def PySem.W.Fast.tw5756446021093298671 : Nat := 0
def PySem.W.Fast.tw903155897111630406 : Nat := 0
def PySem.W.Fast.tw10324281083258708399 : Nat := 0
def PySem.W.Fast.tw14816711571771340686 : Nat := 0
def PySem.W.Fast.tw2273348287621500560 : Nat := 0
def PySem.W.Fast.tw4954164231955287493 : Nat := 0
def PySem.W.Fast.tw2639435676479030584 : Nat := 0
def PySem.W.Fast.tw2895642146175504694 : Nat := 0
def PySem.W.Fast.tw2970869965646772904 : Nat := 0
def PySem.W.Fast.tw5576277862608153663 : Nat := 0
def PySem.W.Fast.tw8035919316129005247 : Nat := 0
def PySem.W.Fast.tw8654819264670217518 : Nat := 0
def PySem.W.Fast.tw4559728555491499630 : Nat := 0
def PySem.W.Fast.tw11263189445443830773 : Nat := 0
def PySem.W.Fast.tw6295021873242063841 : Nat := 0
def PySem.W.Fast.tw6167415994140530379 : Nat := 0
def PySem.W.Fast.tw18430324775230273103 : Nat := 0
def PySem.W.Fast.tw5833670351287572990 : Nat := 0
def PySem.W.Fast.tw13420131915013554559 : Nat := 0
def PySem.W.Fast.tw15279305096720394635 : Nat := 0
def PySem.W.Fast.tw1933964283977661294 : Nat := 0
def PySem.W.Fast.tw11592601865226821064 : Nat := 0
def PySem.W.Fast.tw4242282766292902446 : Nat := 0
def PySem.W.Fast.tw5398544710760534725 : Nat := 0
def PySem.W.Fast.tw9238870931985853355 : Nat := 0
def PySem.W.Fast.tw1360311921541587452 : Nat := 0
def PySem.W.Fast.tw10418234406130874625 : Nat := 0
def PySem.W.Fast.tw10924192148978873108 : Nat := 0
def PySem.W.Fast.tw1378449463109633935 : Nat := 0
def PySem.W.Fast.tw16358622505044621529 : Nat := 0
def PySem.W.Fast.tw10492619504190153347 : Nat := 0
def PySem.W.Fast.tw2340762000197471841 : Nat := 0
def PySem.W.Fast.tw2854201836835321074 : Nat := 0
def PySem.W.Fast.tw13178833444051896258 : Nat := 0
def PySem.W.Fast.tw2057326847137945070 : Nat := 0
def PySem.W.Fast.tw4009033156063101858 : Nat := 0
def PySem.W.Fast.tw9218816842386302362 : Nat := 0
def PySem.W.Fast.tw9868010565719175497 : Nat := 0
def PySem.W.Fast.tw7529415776140370529 : Nat := 0
def PySem.W.Fast.tw17295068751220263456 : Nat := 0
def PySem.W.Fast.tw9436281653719400319 : Nat := 0
def PySem.W.Fast.tw3270250626455424470 : Nat := 0
def PySem.W.Fast.tw4445600445736426489 : Nat := 0
def PySem.W.Fast.tw13517712193884052050 : Nat := 0
def PySem.W.Fast.tw4928392235870706476 : Nat := 0
def PySem.W.Fast.tw9744089125939104600 : Nat := 0
def PySem.W.Fast.tw12348776078544856435 : Nat := 0
def PySem.W.Fast.tw8087960858609674424 : Nat := 0
def PySem.W.Fast.tw16057887182843196651 : Nat := 0
def PySem.W.Fast.tw1797398762020837232 : Nat := 0
def PySem.W.Fast.tw3968427950873110695 : Nat := 0
def PySem.W.Fast.tw11083882006519492052 : Nat := 0
def PySem.W.Fast.tw13488714555461459016 : Nat := 0
def PySem.W.Fast.tw12052833953481039797 : Nat := 0
def PySem.W.Fast.tw8703986088704094039 : Nat := 0
def PySem.W.Fast.tw14481969308974669026 : Nat := 0
def PySem.W.Fast.tw16288756845984944624 : Nat := 0
def PySem.W.Fast.tw16890751153572183594 : Nat := 0
def PySem.W.Fast.tw15186245928698255901 : Nat := 0
def PySem.W.Fast.tw5483088449783073723 : Nat := 0
def PySem.W.Fast.tw10762586886919902557 : Nat := 0
def PySem.W.Fast.tw8805469246894198600 : Nat := 0
def PySem.W.Fast.tw2929595556184401490 : Nat := 0
def PySem.W.Fast.tw1118166036371642811 : Nat := 0
def PySem.W.Fast.tw3208845435224619037 : Nat := 0
def PySem.W.Fast.tw942356385000666537 : Nat := 0
def PySem.W.Fast.tw16041252912914044577 : Nat := 0
def PySem.W.Fast.tw7487526266620241960 : Nat := 0
def PySem.W.Fast.tw5276060531387972335 : Nat := 0
def PySem.W.Fast.tw17201940254375999145 : Nat := 0
def PySem.W.Fast.tw1344099405402052271 : Nat := 0
def PySem.W.Fast.tw13787228735610268391 : Nat := 0
def PySem.W.Fast.tw5433651203100874704 : Nat := 0
def PySem.W.Fast.tw1143928381260481315 : Nat := 0
def PySem.W.Fast.tw7191474880488159840 : Nat := 0
def PySem.W.Fast.tw10044992074081425572 : Nat := 0
def PySem.W.Fast.tw6557946196813794568 : Nat := 0
def PySem.W.Fast.tw3617618949137942980 : Nat := 0
def PySem.W.Fast.tw12361452475590334984 : Nat := 0
def PySem.W.Fast.tw17337897513245980706 : Nat := 0
def PySem.W.Fast.tw4373757001681057247 : Nat := 0
def PySem.W.Fast.tw6067150492886686718 : Nat := 0
def PySem.W.Fast.tw5405419412145714045 : Nat := 0
def PySem.W.Fast.tw10147076408700413251 : Nat := 0
def PySem.W.Fast.tw4722659903070999463 : Nat := 0
def PySem.W.Fast.tw9730772008626808867 : Nat := 0
def PySem.W.Fast.tw15386766152721832773 : Nat := 0
def PySem.W.Fast.tw5708970681982686301 : Nat := 0
def PySem.W.Fast.tw10413101921651077576 : Nat := 0
def PySem.W.Fast.tw17387961088879821427 : Nat := 0
def PySem.W.Fast.tw15453171602631965360 : Nat := 0
def PySem.W.Fast.tw611286722831959107 : Nat := 0
def PySem.W.Fast.tw7749798439731704319 : Nat := 0
def PySem.W.Fast.tw6735336613233103780 : Nat := 0
def PySem.W.Fast.tw16852739104461562463 : Nat := 0
def PySem.W.Fast.tw757421123627816562 : Nat := 0
def PySem.W.Fast.tw12995093293780125029 : Nat := 0
def PySem.W.Fast.tw12553236527544222411 : Nat := 0
def PySem.W.Fast.tw14231152302694191568 : Nat := 0
def PySem.W.Fast.tw16374095592397889733 : Nat := 0
def PySem.W.Fast.tw13346930218381883474 : Nat := 0
def PySem.W.Fast.tw5516061066154648137 : Nat := 0
def PySem.W.Fast.tw9964246842354807790 : Nat := 0
def PySem.W.Fast.tw1692913852136796542 : Nat := 0
def PySem.W.Fast.tw2000489743115342436 : Nat := 0
def PySem.W.Fast.tw8484283573360616135 : Nat := 0
def PySem.W.Fast.tw6407632909498126594 : Nat := 0
def PySem.W.Fast.tw13707566845778976613 : Nat := 0
def PySem.W.Fast.tw16459406077550795715 : Nat := 0
def PySem.W.Fast.tw11947677108912637839 : Nat := 0
def PySem.W.Fast.tw5681734595296453399 : Nat := 0
def PySem.W.Fast.tw7844994625844119844 : Nat := 0
def PySem.W.Fast.tw11409219003275403029 : Nat := 0
def PySem.W.Fast.tw14944734210362219363 : Nat := 0
def PySem.W.Fast.tw17522595318842064182 : Nat := 0
def PySem.W.Fast.tw2433163123284074982 : Nat := 0
def PySem.W.Fast.tw14448227969978922611 : Nat := 0
def PySem.W.Fast.tw13267449595278505927 : Nat := 0
def PySem.W.Fast.tw5188871248819735946 : Nat := 0
def PySem.W.Fast.tw6253090998495400793 : Nat := 0
def PySem.W.Fast.tw1438286255007271452 : Nat := 0
def PySem.W.Fast.tw3007279063508073905 : Nat := 0
def PySem.W.Fast.tw10431466638446359952 : Nat := 0
def PySem.W.Fast.tw1519456507181393838 : Nat := 0
def PySem.W.Fast.tw9895418014025102961 : Nat := 0
def PySem.W.Fast.tw8043111991405798675 : Nat := 0
def PySem.W.Fast.tw15277954445312411992 : Nat := 0
def PySem.W.Fast.tw12387200986774442852 : Nat := 0
def PySem.W.Fast.tw951989602366056216 : Nat := 0
def PySem.W.Fast.tw1185711634203866072 : Nat := 0
def PySem.W.Fast.tw13694119406740304971 : Nat := 0
def PySem.W.Fast.tw6894767909256238259 : Nat := 0
def PySem.W.Fast.tw2917700848864629808 : Nat := 0
def PySem.W.Fast.tw12512690429229133848 : Nat := 0
def PySem.W.Fast.tw8222038263413906385 : Nat := 0
def PySem.W.Fast.tw1252782348788800485 : Nat := 0
def PySem.W.Fast.tw9409828091370144154 : Nat := 0
def PySem.W.Fast.tw7112654385959155948 : Nat := 0
def PySem.W.Fast.tw11758208185335131097 : Nat := 0
def PySem.W.Fast.tw7130464082717968218 : Nat := 0
def PySem.W.Fast.tw8140818204554212106 : Nat := 0
def PySem.W.Fast.tw10724023785749335363 : Nat := 0
def PySem.W.Fast.tw15654851812976612689 : Nat := 0
def PySem.W.Fast.tw12392928144313799762 : Nat := 0
def PySem.W.Fast.tw11280387051981407318 : Nat := 0
def PySem.W.Fast.tw1082979171050863885 : Nat := 0
def PySem.W.Fast.tw564708872317510409 : Nat := 0
def PySem.W.Fast.tw16578716510217823264 : Nat := 0
def PySem.W.Fast.tw1872162974556870715 : Nat := 0
def PySem.W.Fast.tw14152438725610461442 : Nat := 0
def PySem.W.Fast.tw14829960303793609950 : Nat := 0
def PySem.W.Fast.tw5645946474479937237 : Nat := 0
def PySem.W.Fast.tw10244673121639670173 : Nat := 0
def PySem.W.Fast.tw1342787476275393093 : Nat := 0
def PySem.W.Fast.tw14368200807241296682 : Nat := 0
def PySem.W.Fast.tw7926141471611378562 : Nat := 0
def PySem.W.Fast.tw17604068924170301875 : Nat := 0
def PySem.W.Fast.tw1127787533327521460 : Nat := 0
def PySem.W.Fast.tw13376621532427166980 : Nat := 0
def PySem.W.Fast.tw2875317668769618794 : Nat := 0
def PySem.W.Fast.tw12516585899556689364 : Nat := 0
def PySem.W.Fast.tw10157559815060232161 : Nat := 0
def PySem.W.Fast.tw5950426360849836059 : Nat := 0
def PySem.W.Fast.tw6243791178334967945 : Nat := 0
def PySem.W.Fast.tw13470039763847516312 : Nat := 0
def PySem.W.Fast.tw15899416751648253326 : Nat := 0
def PySem.W.Fast.tw5177543175583097806 : Nat := 0
def PySem.W.Fast.tw4520049882029839644 : Nat := 0
def PySem.W.Fast.tw8625429949439121396 : Nat := 0
def PySem.W.Fast.tw514491658813009430 : Nat := 0
def PySem.W.Fast.tw1677915270400816912 : Nat := 0
def PySem.W.Fast.tw494451930072299352 : Nat := 0
def PySem.W.Fast.tw14985669007724918296 : Nat := 0
def PySem.W.Fast.tw1083951728459353116 : Nat := 0
def PySem.W.Fast.tw7917278058443395200 : Nat := 0
def PySem.W.Fast.tw17915809911543496862 : Nat := 0
def PySem.W.Fast.tw63324837237937362 : Nat := 0
def PySem.W.Fast.tw4885894056902267927 : Nat := 0
def PySem.W.Fast.tw15829463596090915739 : Nat := 0
def PySem.W.Fast.tw13554863993213299610 : Nat := 0
def PySem.W.Fast.tw18231618231218178476 : Nat := 0
def PySem.W.Fast.tw11271748019490047233 : Nat := 0
def PySem.W.Fast.tw6751025093137039348 : Nat := 0
def PySem.W.Fast.tw12339256832348483360 : Nat := 0
def PySem.W.Fast.tw4153507869226325345 : Nat := 0
def PySem.W.Fast.tw18125314562781843934 : Nat := 0
def PySem.W.Fast.tw10201436347879333615 : Nat := 0
def PySem.W.Fast.tw3942783717444034712 : Nat := 0
def PySem.W.Fast.tw11890855408757539544 : Nat := 0
def PySem.W.Fast.tw2362792608964222679 : Nat := 0
def PySem.W.Fast.tw9476157276367428640 : Nat := 0
def PySem.W.Fast.tw2301949791207740411 : Nat := 0
def PySem.W.Fast.tw1902468259881213429 : Nat := 0
def PySem.W.Fast.tw6087079536628598603 : Nat := 0
def PySem.W.Fast.tw6735356987872730093 : Nat := 0
def PySem.W.Fast.tw13467052460238330932 : Nat := 0
def PySem.W.Fast.tw16648940171744023119 : Nat := 0
def PySem.W.Fast.tw2303804311707296840 : Nat := 0
def PySem.W.Fast.tw6336817390724678960 : Nat := 0
def PySem.W.Fast.tw9040359101639012177 : Nat := 0
def PySem.W.Fast.tw6749836550115193982 : Nat := 0
def PySem.W.Fast.tw12730642391698968039 : Nat := 0
def PySem.W.Fast.tw222182376056163611 : Nat := 0
def PySem.W.Fast.tw18169564612136096490 : Nat := 0
def PySem.W.Fast.tw10629079539676398360 : Nat := 0
def PySem.W.Fast.tw17580342455641263701 : Nat := 0
def PySem.W.Fast.tw13309822918642608788 : Nat := 0
def PySem.W.Fast.tw15146420738164378193 : Nat := 0
def PySem.W.Fast.tw11077978953351548201 : Nat := 0
def PySem.W.Fast.tw17524473098985533176 : Nat := 0
def PySem.W.Fast.tw3543406831238719225 : Nat := 0
def PySem.W.Fast.tw17917244181697541252 : Nat := 0
def PySem.W.Fast.tw1876225879113889965 : Nat := 0
def PySem.W.Fast.tw13323128933857764328 : Nat := 0
def PySem.W.Fast.tw7336600391913654611 : Nat := 0
def PySem.W.Fast.tw14626131002375627018 : Nat := 0
def PySem.W.Fast.tw11990725663657040405 : Nat := 0
def PySem.W.Fast.tw10077038758148900327 : Nat := 0
def PySem.W.Fast.tw5616366044118236312 : Nat := 0
def PySem.W.Fast.tw3314415605363607699 : Nat := 0
def PySem.W.Fast.tw1232005057204419047 : Nat := 0
def PySem.W.Fast.tw2804980927929485310 : Nat := 0
def PySem.W.Fast.tw17032884046377194304 : Nat := 0
def PySem.W.Fast.tw2556210956104928789 : Nat := 0
def PySem.W.Fast.tw9824955588748490305 : Nat := 0
def PySem.W.Fast.tw15335700923581538223 : Nat := 0
def PySem.W.Fast.tw16275873014938235549 : Nat := 0
def PySem.W.Fast.tw12045054542201105143 : Nat := 0
def PySem.W.Fast.tw1407868742372255612 : Nat := 0
def PySem.W.Fast.tw7689579916482201295 : Nat := 0
def PySem.W.Fast.tw2514187641222273541 : Nat := 0
def PySem.W.Fast.tw8636130965194716265 : Nat := 0
def PySem.W.Fast.tw18106554185918630736 : Nat := 0
def PySem.W.Fast.tw11723274767431939382 : Nat := 0
def PySem.W.Fast.tw17337041556056729298 : Nat := 0
def PySem.W.Fast.tw4892056768295688314 : Nat := 0
def PySem.W.Fast.tw2711174324710398738 : Nat := 0
def PySem.W.Fast.tw1435134002679297963 : Nat := 0
def PySem.W.Fast.tw16286391273410698145 : Nat := 0
def PySem.W.Fast.tw12313793101576965363 : Nat := 0
def PySem.W.Fast.tw7957418341489214644 : Nat := 0
def PySem.W.Fast.tw10032487001104902312 : Nat := 0
def PySem.W.Fast.tw16887995835976110683 : Nat := 0
def PySem.W.Fast.tw5743123426764904641 : Nat := 0
def PySem.W.Fast.tw6008258699375379139 : Nat := 0
def PySem.W.Fast.tw18181235538589872629 : Nat := 0
def PySem.W.Fast.tw13291650605021597135 : Nat := 0
def PySem.W.Fast.tw1596493156551587345 : Nat := 0
def PySem.W.Fast.tw6558583976192477781 : Nat := 0
def PySem.W.Fast.tw6037482849458757498 : Nat := 0
def PySem.W.Fast.tw7797478797443900971 : Nat := 0
def PySem.W.Fast.tw5810255544193348502 : Nat := 0
def PySem.W.Fast.tw17160969712768103528 : Nat := 0
def PySem.W.Fast.tw10188694623376703679 : Nat := 0
def PySem.W.Fast.tw14653806856982123001 : Nat := 0
def PySem.W.Fast.tw5847932699092236 : Nat := 0
def PySem.W.Fast.tw11837709931709755086 : Nat := 0
def PySem.W.Fast.tw8217364203836030733 : Nat := 0
def PySem.W.Fast.tw6628790030709179403 : Nat := 0
def PySem.W.Fast.tw7154641371628200746 : Nat := 0
def PySem.W.Fast.tw4506080901572902622 : Nat := 0
def PySem.W.Fast.tw3799020012013839173 : Nat := 0
def PySem.W.Fast.tw8560845706029062884 : Nat := 0
def PySem.W.Fast.tw13077433378802272792 : Nat := 0
def PySem.W.Fast.tw5315615465882821854 : Nat := 0
def PySem.W.Fast.tw834311157489786152 : Nat := 0
def PySem.W.Fast.tw10551219050833085087 : Nat := 0
def PySem.W.Fast.tw12272907661558326840 : Nat := 0
def PySem.W.Fast.tw4034341732572075567 : Nat := 0
def PySem.W.Fast.tw16389977498076444023 : Nat := 0
def PySem.W.Fast.tw12709225628354132288 : Nat := 0
def PySem.W.Fast.tw1123596991335647398 : Nat := 0
def PySem.W.Fast.tw7405063331383027495 : Nat := 0
def PySem.W.Fast.tw12680610722937741877 : Nat := 0
def PySem.W.Fast.tw13183500378672831473 : Nat := 0
def PySem.W.Fast.tw13204840949444943111 : Nat := 0
def PySem.W.Fast.tw12600533769708381904 : Nat := 0
def PySem.W.Fast.tw11961520636466391846 : Nat := 0
def PySem.W.Fast.tw17557059919344502313 : Nat := 0
def PySem.W.Fast.tw10592235465422861185 : Nat := 0
def PySem.W.Fast.tw16897296888418064197 : Nat := 0
def PySem.W.Fast.tw14996704582018857044 : Nat := 0
def PySem.W.Fast.tw4677453017207776543 : Nat := 0
def PySem.W.Fast.tw13102991925354479639 : Nat := 0
def PySem.W.Fast.tw6488248364779178501 : Nat := 0
def PySem.W.Fast.tw4916397370429627533 : Nat := 0
def PySem.W.Fast.tw6795413532619259922 : Nat := 0
def PySem.W.Fast.tw15846087026169425493 : Nat := 0
def PySem.W.Fast.tw17160227675081617696 : Nat := 0
def PySem.W.Fast.tw10564973774015801821 : Nat := 0
def PySem.W.Fast.tw6468224178067758481 : Nat := 0
def PySem.W.Fast.tw8120972122627557351 : Nat := 0
def PySem.W.Fast.tw9555803316476356236 : Nat := 0
def PySem.W.Fast.tw3986151246791688470 : Nat := 0
def PySem.W.Fast.tw6321134082880682907 : Nat := 0
def PySem.W.Fast.tw13281552953414146796 : Nat := 0
def PySem.W.Fast.tw9302040116429557002 : Nat := 0
def PySem.W.Fast.tw17103204515431237530 : Nat := 0
def PySem.W.Fast.tw9713360842044495578 : Nat := 0
def PySem.W.Fast.tw16863429165873639040 : Nat := 0
def PySem.W.Fast.tw13730894662536386256 : Nat := 0
def PySem.W.Fast.tw13110521498127933525 : Nat := 0
def PySem.W.Fast.tw1133824419914775708 : Nat := 0
def PySem.W.Fast.tw10482488597384113168 : Nat := 0
def PySem.W.Fast.tw4355080897226243256 : Nat := 0
def PySem.W.Fast.tw10800989409143104725 : Nat := 0
def PySem.W.Fast.tw2290913584085776623 : Nat := 0
def PySem.W.Fast.tw6983029118674056673 : Nat := 0
def PySem.W.Fast.tw2159718393915725681 : Nat := 0
def PySem.W.Fast.tw2708428502052829435 : Nat := 0
def PySem.W.Fast.tw3259382560471135256 : Nat := 0
def PySem.W.Fast.tw10091810800769444388 : Nat := 0
def PySem.W.Fast.tw10281573376129572310 : Nat := 0
def PySem.W.Fast.tw16520666109846862607 : Nat := 0
def PySem.W.Fast.tw3833758185549615800 : Nat := 0
def PySem.W.Fast.tw9569246612080077664 : Nat := 0
def PySem.W.Fast.tw5331472823543860833 : Nat := 0
def PySem.W.Fast.tw6616466850095853147 : Nat := 0
def PySem.W.Fast.tw1766650859177364688 : Nat := 0
def PySem.W.Fast.tw13079917928772908052 : Nat := 0
def PySem.W.Fast.tw8949443998491551964 : Nat := 0
def PySem.W.Fast.tw8157345969330922517 : Nat := 0
def PySem.W.Fast.tw967834257722148498 : Nat := 0
def PySem.W.Fast.tw17228528219715851870 : Nat := 0
def PySem.W.Fast.tw9896349396083895170 : Nat := 0
def PySem.W.Fast.tw5196941114682960119 : Nat := 0
def PySem.W.Fast.tw17572083488368541251 : Nat := 0
def PySem.W.Fast.tw11036419467929059395 : Nat := 0
def PySem.W.Fast.tw14279787030825986993 : Nat := 0
def PySem.W.Fast.tw3771994722593126134 : Nat := 0
def PySem.W.Fast.tw8655562513046483088 : Nat := 0
def PySem.W.Fast.tw1127436847683523765 : Nat := 0
def PySem.W.Fast.tw8175342722836296518 : Nat := 0
def PySem.W.Fast.tw16479996837283407676 : Nat := 0
def PySem.W.Fast.tw797648495576157707 : Nat := 0
def PySem.W.Fast.tw10977279016870641175 : Nat := 0
def PySem.W.Fast.tw4569958940024670067 : Nat := 0
def PySem.W.Fast.tw4417407454833424756 : Nat := 0
def PySem.W.Fast.tw10210795657296957323 : Nat := 0
def PySem.W.Fast.tw9871962657760885236 : Nat := 0
def PySem.W.Fast.tw3349910282364471357 : Nat := 0
def PySem.W.Fast.tw5528322887655987627 : Nat := 0
def PySem.W.Fast.tw4109444641023743034 : Nat := 0
def PySem.W.Fast.tw1865483988797501855 : Nat := 0
def PySem.W.Fast.tw5803882648144984119 : Nat := 0
def PySem.W.Fast.tw9075358180686817650 : Nat := 0
def PySem.W.Fast.tw11755444925797343901 : Nat := 0
def PySem.W.Fast.tw3964507807643511032 : Nat := 0
def PySem.W.Fast.tw12291908491212003798 : Nat := 0
def PySem.W.Fast.tw3660865125202800286 : Nat := 0
def PySem.W.Fast.tw11188365793866096596 : Nat := 0
def PySem.W.Fast.tw405545309979546943 : Nat := 0
def PySem.W.Fast.tw16074560616337127077 : Nat := 0
def PySem.W.Fast.tw8093586207624810051 : Nat := 0
def PySem.W.Fast.tw2163402692350030002 : Nat := 0
def PySem.W.Fast.tw10766206636657626731 : Nat := 0
def PySem.W.Fast.tw1170775103113327125 : Nat := 0
def PySem.W.Fast.tw14596503511047105707 : Nat := 0
def PySem.W.Fast.tw6325393812167488659 : Nat := 0
def PySem.W.Fast.tw17305412851132016598 : Nat := 0
def PySem.W.Fast.tw8393917563472158088 : Nat := 0
def PySem.W.Fast.tw12388206694031330259 : Nat := 0
def PySem.W.Fast.tw6327097785598190997 : Nat := 0
def PySem.W.Fast.tw16757648369473492781 : Nat := 0
def PySem.W.Fast.tw9343010402471691769 : Nat := 0
def PySem.W.Fast.tw16542345783008483876 : Nat := 0
def PySem.W.Fast.tw18195141730400377404 : Nat := 0
def PySem.W.Fast.tw8105679930037416565 : Nat := 0
def PySem.W.Fast.tw14341275622475645951 : Nat := 0
def PySem.W.Fast.tw17196228961919354777 : Nat := 0
def PySem.W.Fast.tw4710404351137317043 : Nat := 0
def PySem.W.Fast.tw9628014191808856243 : Nat := 0
def PySem.W.Fast.tw324729740679472958 : Nat := 0
def PySem.W.Fast.tw1431908857076033034 : Nat := 0
def PySem.W.Fast.tw11317681980736872750 : Nat := 0
def PySem.W.Fast.tw16333010754371461938 : Nat := 0
def PySem.W.Fast.tw8414339956395712345 : Nat := 0
def PySem.W.Fast.tw8362172505370534432 : Nat := 0
def PySem.W.Fast.tw10417712442048769347 : Nat := 0
def PySem.W.Fast.tw8494970752915072132 : Nat := 0
def PySem.W.Fast.tw7074985052874581510 : Nat := 0
def PySem.W.Fast.tw7997729430076535559 : Nat := 0
def PySem.W.Fast.tw1448052801803353677 : Nat := 0
def PySem.W.Fast.tw2825919091965001947 : Nat := 0
def PySem.W.Fast.tw17018376068786935759 : Nat := 0
def PySem.W.Fast.tw5395375918684042458 : Nat := 0
def PySem.W.Fast.tw5306739615026972071 : Nat := 0
def PySem.W.Fast.tw9506449561426021190 : Nat := 0
def PySem.W.Fast.tw12131304114836912856 : Nat := 0
def PySem.W.Fast.tw12654605812240458913 : Nat := 0
def PySem.W.Fast.tw6791057629141716907 : Nat := 0
def PySem.W.Fast.tw3917539492356138600 : Nat := 0
def PySem.W.Fast.tw10574690433517875209 : Nat := 0
def PySem.W.Fast.tw13657774033807970985 : Nat := 0
def PySem.W.Fast.tw18261495309892378103 : Nat := 0
def PySem.W.Fast.tw3317167703984980891 : Nat := 0
def PySem.W.Fast.tw2467917448115234206 : Nat := 0
def PySem.W.Fast.tw10991289125070959334 : Nat := 0
def PySem.W.Fast.tw9487517269537808889 : Nat := 0
def PySem.W.Fast.tw9480579930512471583 : Nat := 0
def PySem.W.Fast.tw16476185467078337806 : Nat := 0
def PySem.W.Fast.tw14782451418436135957 : Nat := 0
def PySem.W.Fast.tw8853422128271773450 : Nat := 0
def PySem.W.Fast.tw844936708135789250 : Nat := 0
def PySem.W.Fast.tw2844967504038731846 : Nat := 0
def PySem.W.Fast.tw7916705404868088606 : Nat := 0
def PySem.W.Fast.tw12005131833837778205 : Nat := 0
def PySem.W.Fast.tw14269213786219535785 : Nat := 0
def PySem.W.Fast.tw4221026122867866998 : Nat := 0
def PySem.W.Fast.tw14448360271559294204 : Nat := 0
def PySem.W.Fast.tw6495093265846025271 : Nat := 0
def PySem.W.Fast.tw2338510376899137350 : Nat := 0
def PySem.W.Fast.tw7431169928437270815 : Nat := 0
def PySem.W.Fast.tw4029217429785994371 : Nat := 0
def PySem.W.Fast.tw7341721231087180892 : Nat := 0
def PySem.W.Fast.tw5298284393185988040 : Nat := 0
def PySem.W.Fast.tw16847440355605325049 : Nat := 0
def PySem.W.Fast.tw17023837710994194998 : Nat := 0
def PySem.W.Fast.tw4800296391745570941 : Nat := 0
def PySem.W.Fast.tw5700314448854725147 : Nat := 0
def PySem.W.Fast.tw5387210039380320241 : Nat := 0
def PySem.W.Fast.tw7450695777011220721 : Nat := 0
def PySem.W.Fast.tw7092522076644627255 : Nat := 0
def PySem.W.Fast.tw16123581353427345887 : Nat := 0
set_option maxRecDepth 100000 in
set_option maxHeartbeats 0 in
open_top PySem.Challenge.hd05 for PySem.Challenge.rw_seatchains_k05_lines_made_of_trips
end
set_option linter.all false
set_option maxRecDepth 100000
namespace Z
open PySem PySem.Spec L2
open PyProof.Rows hiding St
inductive PV where
 | non | bl (b : Bool) | int (i : Int) | str (x : Str)
 | tup (xs : List PV) | lst (xs : List PV) | scr (ns : List Int)
 | ins (C : Addr) (fs : List (Str × PV)) | dic (kvs : List (Key × PV)) | raw (v : V) | pln (xs : List PV) | exn (a : Addr) (d : Option Addr) (fs : List (Str × PV))
abbrev PV.dic0 : PV := .dic []
section
variable (K : PySem.W.Frag)
def TupAt (O : Addr → Prop) (H : Hp) (a : Addr) (vs : List V) : Prop :=
 (¬ O a ∧ Rd H a (.tup vs)) ∨
  ∃ (o : Obj) (its : Array Value) (n : Nat), K.lookup a = some o ∧ o.cls = .type "tuple" ∧ o.data = .seq its n ∧ its.size ≤ sizeLine ∧ Vals vs its.toList
theorem TupAt.sq {K : PySem.W.Frag} {O H a vs} (h : TupAt K O H a vs) : SqT K H a vs := by
 rcases h with ⟨_, h⟩ | h
 ·exact .inl h
 ·exact .inr h
mutual
def Rep (O : Addr → Prop) (H : Hp) : PV → V → Prop
 | .non, v => v = .non
 | .bl b, v => v = .bl b
 | .int i, v => v = .int i
 | .str x, v => v = .str x
 | .raw u, v => v = u
 | .scr ns, v => ∃ a o, v = .ref a ∧ ¬ O a ∧ H a = some (.frz o (.lst (ns.map V.int)))
 | .tup xs, v => ∃ a vs, v = .ref a ∧ TupAt K O H a vs ∧ Reps O H xs vs
 | .lst xs, v => ∃ a vs, v = .ref a ∧ ¬ O a ∧ H a = some (.lst vs) ∧ Reps O H xs vs
 | .ins C fs, v => ∃ a dx ws, v = .ref a ∧ ¬ O a ∧ H a = some (.ins C dx ws) ∧ RepF O H fs ws
 | .dic kvs, v => ∃ a ws, v = .ref a ∧ ¬ O a ∧ H a = some (.dK ws) ∧ RepD O H kvs ws
 | .pln xs, v => ∃ a vs o, v = .ref a ∧ ¬ O a ∧ H a = some (.frz o (.tup vs)) ∧ o.dict = none ∧ Reps O H xs vs
 | .exn a d fs, v => v = .ref a ∧ ∃ ws, (∀ x, d = some x → ¬ O x ∧ H x = some (.xd ws)) ∧ RepF O H fs ws
def Reps (O : Addr → Prop) (H : Hp) : List PV → List V → Prop
 | [], vs => vs = []
 | x :: xs, vs => ∃ v us, vs = v :: us ∧ Rep O H x v ∧ Reps O H xs us
def RepF (O : Addr → Prop) (H : Hp) : List (Str × PV) → List (Str × V) → Prop
 | [], vs => vs = []
 | (n, x) :: xs, vs => ∃ v us, vs = (n, v) :: us ∧ Rep O H x v ∧ RepF O H xs us
def RepD (O : Addr → Prop) (H : Hp) : List (Key × PV) → List (Key × V) → Prop
 | [], vs => vs = []
 | (n, x) :: xs, vs => ∃ v us, vs = (n, v) :: us ∧ Rep O H x v ∧ RepD O H xs us
end
end
def Car (O O' : Addr → Prop) (H H' : Hp) : Prop := ∀ a o, ¬ O a → H a = some o → (∀ ps, o ≠ .tbl ps) → H' a = some o ∧ ¬ O' a
section
variable {K : PySem.W.Frag} {O O' : Addr → Prop} {H H' : Hp}
theorem TupAt.car {a : Addr} {vs : List V} (c : Car O O' H H') (h : TupAt K O H a vs) : TupAt K O' H' a vs := by
 rcases h with ⟨n, h | ⟨o, h⟩⟩ | h
 ·exact .inl ⟨(c _ _ n h nofun).2, .inl (c _ _ n h nofun).1⟩
 ·exact .inl ⟨(c _ _ n h nofun).2, .inr ⟨o, (c _ _ n h nofun).1⟩⟩
 ·exact .inr h
mutual
theorem Rep.car (c : Car O O' H H') : ∀ (x : PV) (v : V), Rep K O H x v → Rep K O' H' x v
 | .non, _, h => by unfold Rep at h ⊢; exact h
 | .bl _, _, h => by unfold Rep at h ⊢; exact h
 | .int _, _, h => by unfold Rep at h ⊢; exact h
 | .str _, _, h => by unfold Rep at h ⊢; exact h
 | .raw _, _, h => by unfold Rep at h ⊢; exact h
 | .scr _, _, h => by
  unfold Rep at h ⊢
  obtain ⟨a, o, e, n, h⟩ := h
  exact ⟨a, o, e, (c _ _ n h nofun).2, (c _ _ n h nofun).1⟩
 | .dic kvs, _, h => by
  unfold Rep at h ⊢
  obtain ⟨a, ws, e, n, h, r⟩ := h
  exact ⟨a, ws, e, (c _ _ n h nofun).2, (c _ _ n h nofun).1, RepD.car c kvs ws r⟩
 | .pln xs, _, h => by
  unfold Rep at h ⊢
  obtain ⟨a, vs, o, e, n, h, d, r⟩ := h
  exact ⟨a, vs, o, e, (c _ _ n h nofun).2, (c _ _ n h nofun).1, d, Reps.car c xs vs r⟩
 | .exn _ d fs, _, h => by
  unfold Rep at h ⊢
  obtain ⟨e, ws, n, r⟩ := h
  exact ⟨e, ws, fun x hx => ⟨(c _ _ (n x hx).1 (n x hx).2 nofun).2, (c _ _ (n x hx).1 (n x hx).2 nofun).1⟩, RepF.car c fs ws r⟩
 | .tup xs, _, h => by
  unfold Rep at h ⊢
  obtain ⟨a, vs, e, t, r⟩ := h
  exact ⟨a, vs, e, t.car c, Reps.car c xs vs r⟩
 | .lst xs, _, h => by
  unfold Rep at h ⊢
  obtain ⟨a, vs, e, n, t, r⟩ := h
  exact ⟨a, vs, e, (c _ _ n t nofun).2, (c _ _ n t nofun).1, Reps.car c xs vs r⟩
 | .ins C fs, _, h => by
  unfold Rep at h ⊢
  obtain ⟨a, dx, ws, e, n, t, r⟩ := h
  exact ⟨a, dx, ws, e, (c _ _ n t nofun).2, (c _ _ n t nofun).1, RepF.car c fs ws r⟩
theorem Reps.car (c : Car O O' H H') : ∀ (xs : List PV) (vs : List V), Reps K O H xs vs → Reps K O' H' xs vs
 | [], _, h => by unfold Reps at h ⊢; exact h
 | x :: xs, _, h => by
  unfold Reps at h ⊢
  obtain ⟨v, us, e, r, t⟩ := h
  exact ⟨v, us, e, Rep.car c x v r, Reps.car c xs us t⟩
theorem RepF.car (c : Car O O' H H') : ∀ (xs : List (Str × PV)) (vs : List (Str × V)), RepF K O H xs vs → RepF K O' H' xs vs
 | [], _, h => by unfold RepF at h ⊢; exact h
 | (n, x) :: xs, _, h => by
  unfold RepF at h ⊢
  obtain ⟨v, us, e, r, t⟩ := h
  exact ⟨v, us, e, Rep.car c x v r, RepF.car c xs us t⟩
theorem RepD.car (c : Car O O' H H') : ∀ (xs : List (Key × PV)) (vs : List (Key × V)), RepD K O H xs vs → RepD K O' H' xs vs
 | [], _, h => by unfold RepD at h ⊢; exact h
 | (n, x) :: xs, _, h => by
  unfold RepD at h ⊢
  obtain ⟨v, us, e, r, t⟩ := h
  exact ⟨v, us, e, Rep.car c x v r, RepD.car c xs us t⟩
end
theorem Car.mono {O O' : Addr → Prop} {H : Hp} (h : ∀ a, O' a → O a) : Car O O' H H := fun a o n e _ => ⟨e, fun z => n (h a z)⟩
theorem Rep.mono {x v} (h : ∀ a, O' a → O a) (r : Rep K O H x v) : Rep K O' H x v := r.car (Car.mono h)
theorem Reps.mono {x v} (h : ∀ a, O' a → O a) (r : Reps K O H x v) : Reps K O' H x v := r.car (Car.mono h)
theorem RepF.mono {x v} (h : ∀ a, O' a → O a) (r : RepF K O H x v) : RepF K O' H x v := r.car (Car.mono h)
theorem RepD.mono {x v} (h : ∀ a, O' a → O a) (r : RepD K O H x v) : RepD K O' H x v := r.car (Car.mono h)
def Nw (H : Hp) (b : Addr) : Prop := ∀ o, H b = some o → ∃ ps, o = .tbl ps
theorem Nw.of {b : Addr} (h : H b = none) : Nw H b := fun o e => by rw [h] at e; cases e
theorem Nw.no {b : Addr} {o : HO} (n : Nw H b) (h : H b = some o) (t : ∀ ps, o ≠ .tbl ps) : False := by
 obtain ⟨ps, e⟩ := n o h
 exact t ps e
theorem nw_ne {a b : Addr} {u : HO} (z : b ≠ a) (n : Nw (upd H a u) b) : Nw H b := fun o h => n o (by rw [upd_ne z]; exact h)
theorem nw_same {a : Addr} {u : HO} (t : ∀ ps, u ≠ .tbl ps) : ¬ Nw (upd H a u) a := fun n => n.no upd_same t
theorem live_upd {a b : Addr} {u : HO} (t : ∀ ps, u ≠ .tbl ps) (n : ¬ Nw H b) : ¬ Nw (upd H a u) b := by
 by_cases z : b = a
 ·rw [z]; exact nw_same t
 ·exact fun q => n (nw_ne z q)
def Trk (O : Addr → Prop) (H : Hp) : Prop := ∀ a, O a → ¬ Nw H a
theorem Trk.same (t : Trk O H) (s : Same H H') : Trk O H' := fun a h e => t a h fun o q => e o (s a o q)
theorem Car.same (s : Same H H') : Car O O H H' := fun a o n e _ => ⟨s a o e, n⟩
theorem Same.new {p : Addr} {o : HO} (hp : H p = none) : Same H (upd H p o) := fun b u e => by rw [upd_ne (ne_of_none e hp)]; exact e
theorem Trk.fresh {p : Addr} (t : Trk O H) (hp : H p = none) : ¬ O p := fun h => t p h (Nw.of hp)
-- lists
theorem Reps.nil : Reps K O H [] [] := by unfold Reps; rfl
theorem Reps.cons {x xs v vs} (h : Rep K O H x v) (t : Reps K O H xs vs) : Reps K O H (x :: xs) (v :: vs) := by unfold Reps; exact ⟨v, vs, rfl, h, t⟩
theorem Reps.inv {x : PV} {xs : List PV} {vs : List V} (h : Reps K O H (x :: xs) vs) : ∃ v us, vs = v :: us ∧ Rep K O H x v ∧ Reps K O H xs us := by unfold Reps at h; exact h
theorem Reps.inv0 {vs : List V} (h : Reps K O H [] vs) : vs = [] := by unfold Reps at h; exact h
theorem Reps.len : ∀ {xs : List PV} {vs : List V}, Reps K O H xs vs → vs.length = xs.length
 | [], _, h => by rw [h.inv0]; rfl
 | x :: xs, _, h => by
  obtain ⟨v, us, rfl, _, t⟩ := h.inv
  rw [List.length_cons, List.length_cons, t.len]
theorem Reps.get : ∀ {xs : List PV} {vs : List V} {i : Nat} {x : PV}, Reps K O H xs vs → xs[i]? = some x → ∃ v, vs[i]? = some v ∧ Rep K O H x v
 | [], _, _, _, _, e => by simp at e
 | x :: xs, _, 0, _, h, e => by
  obtain ⟨v, us, rfl, r, t⟩ := h.inv
  simp at e; subst e; exact ⟨v, rfl, r⟩
 | x :: xs, _, i + 1, _, h, e => by
  obtain ⟨v, us, rfl, r, t⟩ := h.inv
  obtain ⟨u, h1, h2⟩ := t.get (i := i) (by simpa using e)
  exact ⟨u, by simpa using h1, h2⟩
theorem Reps.app : ∀ {xs ys : List PV} {vs us : List V}, Reps K O H xs vs → Reps K O H ys us → Reps K O H (xs ++ ys) (vs ++ us)
 | [], _, _, _, h, t => by rw [h.inv0]; exact t
 | x :: xs, _, _, _, h, t => by
  obtain ⟨v, us, rfl, r, q⟩ := h.inv
  exact .cons r (q.app t)
theorem Reps.take : ∀ {xs : List PV} {vs : List V} (n : Nat), Reps K O H xs vs → Reps K O H (xs.take n) (vs.take n)
 | [], _, n, h => by rw [h.inv0]; simp; exact .nil
 | x :: xs, _, 0, h => by simp; exact .nil
 | x :: xs, _, n + 1, h => by
  obtain ⟨v, us, rfl, r, q⟩ := h.inv
  exact .cons r (q.take n)
theorem Reps.drop : ∀ {xs : List PV} {vs : List V} (n : Nat), Reps K O H xs vs → Reps K O H (xs.drop n) (vs.drop n)
 | [], _, n, h => by rw [h.inv0]; simp; exact .nil
 | x :: xs, _, 0, h => by simpa using h
 | x :: xs, _, n + 1, h => by
  obtain ⟨v, us, rfl, r, q⟩ := h.inv
  exact q.drop n
theorem Reps.set : ∀ {xs : List PV} {vs : List V} {x v} (i : Nat), Reps K O H xs vs → Rep K O H x v → Reps K O H (xs.set i x) (vs.set i v)
 | [], _, _, _, n, h, _ => by rw [h.inv0]; exact .nil
 | y :: xs, _, _, _, 0, h, r => by
  obtain ⟨v, us, rfl, _, q⟩ := h.inv
  exact .cons r q
 | y :: xs, _, _, _, n + 1, h, r => by
  obtain ⟨v, us, rfl, r0, q⟩ := h.inv
  exact .cons r0 (q.set n r)
theorem RepF.look : ∀ {fs : List (Str × PV)} {ws : List (Str × V)}, RepF K O H fs ws → ∀ f : Str, (∀ x, fs.lookup f = some x → ∃ v, ws.lookup f = some v ∧ Rep K O H x v) ∧ (fs.lookup f = none → ws.lookup f = none)
 | [], _, h, f => by
  unfold RepF at h; subst h
  refine ⟨fun x e => ?_, fun _ => rfl⟩
  simp at e
 | (n, x) :: fs, _, h, f => by
  unfold RepF at h
  obtain ⟨v, us, rfl, r, t⟩ := h
  obtain ⟨h1, h2⟩ := t.look f
  by_cases e : f = n
  ·subst e
   simp only [List.lookup_cons_self]
   exact ⟨fun y q => by cases q; exact ⟨v, rfl, r⟩, fun q => nomatch q⟩
  ·have e' : (f == n) = false := by simpa using e
   simp only [List.lookup_cons, e']
   exact ⟨h1, h2⟩
theorem RepF.len : ∀ {fs : List (Str × PV)} {ws : List (Str × V)}, RepF K O H fs ws → ws.length = fs.length
 | [], _, h => by unfold RepF at h; rw [h]; rfl
 | (n, x) :: fs, _, h => by
  unfold RepF at h
  obtain ⟨v, us, rfl, r, t⟩ := h
  rw [List.length_cons, List.length_cons, t.len]
theorem RepD.nil : RepD K O H [] [] := by unfold RepD; rfl
theorem RepD.len : ∀ {fs : List (Key × PV)} {ws : List (Key × V)}, RepD K O H fs ws → ws.length = fs.length
 | [], _, h => by unfold RepD at h; rw [h]; rfl
 | (n, x) :: fs, _, h => by
  unfold RepD at h
  obtain ⟨v, us, rfl, r, t⟩ := h
  rw [List.length_cons, List.length_cons, t.len]
theorem RepD.keys : ∀ {fs : List (Key × PV)} {ws : List (Key × V)}, RepD K O H fs ws → ws.map (·.1) = fs.map (·.1)
 | [], _, h => by unfold RepD at h; rw [h]; rfl
 | (n, x) :: fs, _, h => by
  unfold RepD at h
  obtain ⟨v, us, rfl, r, t⟩ := h
  rw [List.map_cons, List.map_cons, t.keys]
end
inductive Ow where
 | l (xs : List PV) | o (C : Addr) (fs : List (Str × PV)) | d (kvs : List (Key × PV))
inductive Sl where
 | no | va (x : PV) | ow (o : Ow)
abbrev EP' := List Sl
def OwAt (K : PySem.W.Frag) (O : Addr → Prop) (H : Hp) (a : Addr) : Ow → Prop
 | .l xs => ∃ vs, H a = some (.lst vs) ∧ Reps K O H xs vs
 | .o C fs => ∃ dx ws, H a = some (.ins C dx ws) ∧ RepF K O H fs ws
 | .d kvs => ∃ ws, H a = some (.dK ws) ∧ RepD K O H kvs ws
def IsOwn (σ : St) (η : EP') (a : Addr) : Prop := ∃ (i : Nat) (o : Ow), σ[i]? = some (some (V.ref a)) ∧ η[i]? = some (Sl.ow o)
def Oof (F : Addr → Prop) (σ : St) (η : EP') : Addr → Prop := fun a => F a ∨ IsOwn σ η a
structure Rs (K : PySem.W.Frag) (T : List (Addr × Str)) (F : Addr → Prop) (σ : St) (η : EP') (H : Hp) : Prop where
 len : σ.length = η.length
 va : ∀ (i : Nat) (x : PV), η[i]? = some (Sl.va x) → ∃ v, σ[i]? = some (some v) ∧ Rep K (Oof F σ η) H x v
 ow : ∀ (i : Nat) (o : Ow), η[i]? = some (Sl.ow o) → ∃ a, σ[i]? = some (some (V.ref a)) ∧ OwAt K (Oof F σ η) H a o ∧ ¬ F a
 nd : ∀ (i j : Nat) (o o' : Ow) (a : Addr), η[i]? = some (Sl.ow o) → η[j]? = some (Sl.ow o') → σ[i]? = some (some (V.ref a)) → σ[j]? = some (some (V.ref a)) → i = j
 tr : Trk F H
 tb : LamX.Tabs T H
structure Ext (σ : St) (η : EP') (σ' : St) (η' : EP') (H H' : Hp) : Prop where
 keep : ∀ b o, H b = some o → ¬ IsOwn σ η b → (∀ ps, o ≠ .tbl ps) → H' b = some o
 live : ∀ b, ¬ Nw H b → ¬ Nw H' b
 new : ∀ b, IsOwn σ' η' b → IsOwn σ η b ∨ Nw H b
 fst : ∀ o' : Ow, η'[0]? = some (Sl.ow o') → ∃ o : Ow, η[0]? = some (Sl.ow o) ∧ σ'[0]? = σ[0]?
section
variable {K : PySem.W.Frag} {T : List (Addr × Str)} {F : Addr → Prop} {σ σ1 σ2 : St} {η η1 η2 : EP'} {H H1 H2 : Hp}
theorem Ext.refl : Ext σ η σ η H H := ⟨fun _ _ e _ _ => e, fun _ e => e, fun _ e => .inl e, fun o e => ⟨o, e, rfl⟩⟩
theorem Ext.trans (a : Ext σ η σ1 η1 H H1) (b : Ext σ1 η1 σ2 η2 H1 H2) : Ext σ η σ2 η2 H H2 := by
 refine ⟨fun c o e n t => b.keep c o (a.keep c o e n t) ?_ t, fun c e => b.live c (a.live c e), fun c z => ?_, fun o e => ?_⟩
 ·intro z
  rcases a.new c z with q | q
  ·exact n q
  ·exact q.no e t
 ·rcases b.new c z with q | q
  ·exact a.new c q
  ·by_cases e : Nw H c
   ·exact .inr e
   ·exact absurd q (a.live c e)
 ·obtain ⟨o1, e1, s1⟩ := b.fst o e
  obtain ⟨o2, e2, s2⟩ := a.fst o1 e1
  exact ⟨o2, e2, s1.trans s2⟩
theorem Ext.same (s : Same H H1) : Ext σ η σ η H H1 := by
 refine ⟨fun b o e _ _ => s b o e, fun b e q => e fun o r => q o (s b o r), fun _ z => .inl z, fun o e => ⟨o, e, rfl⟩⟩
theorem Ext.nw {b : Addr} (e : Ext σ η σ1 η1 H H1) (n : Nw H1 b) : Nw H b := Classical.byContradiction fun z => e.live b z n
theorem Rs.trO (R : Rs K T F σ η H) : Trk (Oof F σ η) H := by
 rintro a (h | ⟨i, o, h1, h2⟩) e
 ·exact R.tr a h e
 ·obtain ⟨b, q1, q2, _⟩ := R.ow i o h2
  rw [h1] at q1; cases q1
  cases o with
  | l xs => obtain ⟨vs, q, _⟩ := q2; exact e.no q nofun
  | o C fs => obtain ⟨dx, ws, q, _⟩ := q2; exact e.no q nofun
  | d kvs => obtain ⟨ws, q, _⟩ := q2; exact e.no q nofun
theorem Ext.car (e : Ext σ η σ1 η1 H H1) : Car (Oof F σ η) (Oof F σ1 η1) H H1 := fun a o n h t =>
 ⟨e.keep a o h (fun z => n (.inr z)) t, fun z => z.elim (fun z => n (.inl z)) fun z => (e.new a z).elim (fun z => n (.inr z)) fun q => q.no h t⟩
theorem OwAt.car {O O' : Addr → Prop} {a : Addr} {o : Ow} (c : Car O O' H H1) (h : OwAt K O H a o) (e : H1 a = H a) : OwAt K O' H1 a o := by
 cases o with
 | l xs =>
  obtain ⟨vs, q, r⟩ := h
  exact ⟨vs, e.trans q, r.car c⟩
 | o C fs =>
  obtain ⟨dx, ws, q, r⟩ := h
  exact ⟨dx, ws, e.trans q, r.car c⟩
 | d kvs =>
  obtain ⟨ws, q, r⟩ := h
  exact ⟨ws, e.trans q, r.car c⟩
theorem Rs.same (R : Rs K T F σ η H) (s : Same H H1) : Rs K T F σ η H1 := by
 have c : Car (Oof F σ η) (Oof F σ η) H H1 := Car.same s
 refine ⟨R.len, fun i x e => ?_, fun i o e => ?_, R.nd, R.tr.same s, R.tb.ext s⟩
 ·obtain ⟨v, h1, h2⟩ := R.va i x e
  exact ⟨v, h1, h2.car c⟩
 ·obtain ⟨a, h1, h2, h3⟩ := R.ow i o e
  refine ⟨a, h1, h2.car c ?_, h3⟩
  cases q : H a with
  | none => exact absurd (Nw.of q) (R.trO a (.inr ⟨i, o, h1, e⟩))
  | some u => exact s a u q
end
abbrev TEp := EP' → (PV → EP' → Prop) → Prop
abbrev TTp := EP' → (Bool → EP' → Prop) → Prop
abbrev TAp := EP' → (List PV → EP' → Prop) → Prop
structure EndsP where
 nx : EP' → Prop
 rt : PV → EP' → Prop
 bk : EP' → Prop := fun _ => False
 ct : EP' → Prop := fun _ => False
abbrev TSp := EndsP → EP' → Prop
def up (K : PySem.W.Frag) (T : List (Addr × Str)) (tp : TEp) : TE := fun σ H Q => ∃ F η P, Rs K T F σ η H ∧ tp η P ∧ ∀ x η' v H', P x η' → Ext σ η σ η' H H' → Rs K T F σ η' H' → Rep K (Oof F σ η') H' x v → Q v H'
def upB (K : PySem.W.Frag) (T : List (Addr × Str)) (tp : TTp) : TT := fun σ H Q => ∃ F η P, Rs K T F σ η H ∧ tp η P ∧ ∀ x η' H', P x η' → Ext σ η σ η' H H' → Rs K T F σ η' H' → Q x H'
def upA (K : PySem.W.Frag) (T : List (Addr × Str)) (tp : TAp) : TA := fun σ H Q => ∃ F η P, Rs K T F σ η H ∧ tp η P ∧ ∀ xs η' vs H', P xs η' → Ext σ η σ η' H H' → Rs K T F σ η' H' → Reps K (Oof F σ η') H' xs vs → Q vs H'
def upS (K : PySem.W.Frag) (T : List (Addr × Str)) (ts : TSp) : TS := fun D σ H => ∃ F η D', Rs K T F σ η H ∧ ts D' η ∧
 (∀ η' σ' H', D'.nx η' → Ext σ η σ' η' H H' → Rs K T F σ' η' H' → D.nx σ' H') ∧
 (∀ η' σ' H', D'.bk η' → Ext σ η σ' η' H H' → Rs K T F σ' η' H' → D.bk σ' H') ∧
 (∀ η' σ' H', D'.ct η' → Ext σ η σ' η' H H' → Rs K T F σ' η' H' → D.ct σ' H') ∧
 (∀ x η' σ' v H', D'.rt x η' → Ext σ η σ' η' H H' → Rs K T F σ' η' H' → Rep K (Oof F σ' η') H' x v → D.rt v H')
section
variable {X : Cx}
theorem PE.weak {e : Expr} {t t' : TE} (h : PE X e t) (w : ∀ σ H Q, t' σ H Q → t σ H Q) : PE X e t' := ⟨fun pins s σ H Q I q => h.run pins s σ H Q I (w _ _ _ q)⟩
theorem PT.weak {e : Expr} {t t' : TT} (h : PT X e t) (w : ∀ σ H Q, t' σ H Q → t σ H Q) : PT X e t' := ⟨fun pins s σ H Q I q => h.run pins s σ H Q I (w _ _ _ q)⟩
theorem PW.weak {e : Expr} {t t' : TT} (h : PW X e t) (w : ∀ σ H Q, t' σ H Q → t σ H Q) : PW X e t' := ⟨fun wh pins s σ H Q I q => h.run wh pins s σ H Q I (w _ _ _ q)⟩
theorem PA.weak {e : List Expr} {t t' : TA} (h : PA X e t) (w : ∀ σ H Q, t' σ H Q → t σ H Q) : PA X e t' := ⟨fun pos pins s σ H Q I q => h.run pos pins s σ H Q I (w _ _ _ q)⟩
theorem PS.weak {e : Stmt} {t t' : TS} (h : PS X e t) (w : ∀ D σ H, t' D σ H → t D σ H) : PS X e t' := ⟨fun pins s σ H D I q => h.run pins s σ H D I (w _ _ _ q)⟩
theorem PSs.weak {e : List Stmt} {t t' : TS} (h : PSs X e t) (w : ∀ D σ H, t' D σ H → t D σ H) : PSs X e t' := ⟨fun pins s σ H D I q => h.run pins s σ H D I (w _ _ _ q)⟩
end
section
variable {K : PySem.W.Frag} {T : List (Addr × Str)} {F : Addr → Prop} {σ : St} {η : EP'} {H H' : Hp} {i : Nat} {x : PV} {v : V} {a : Addr} {o : Ow}
theorem ne_set {α : Type} {l : List α} {i j : Nat} {x : α} (h : j ≠ i) : (l.set i x)[j]? = l[j]? := List.getElem?_set_ne (Ne.symm h)
theorem at_set {α : Type} {l : List α} {i : Nat} {x y : α} (h : (l.set i x)[i]? = some y) : y = x := by
 by_cases hi : i < l.length
 ·rw [List.getElem?_set_self hi] at h; exact (Option.some.inj h).symm
 ·rw [List.getElem?_eq_none (by simpa using hi)] at h; cases h
theorem own_set {b : Addr} {w : V} (h : IsOwn (σ.set i (some w)) (η.set i (.va x)) b) : IsOwn σ η b := by
 obtain ⟨j, o, h1, h2⟩ := h
 by_cases e : j = i
 ·subst e; cases at_set h2
 ·rw [ne_set e] at h1 h2; exact ⟨j, o, h1, h2⟩
theorem own_set1 {b : Addr} (h : IsOwn σ (η.set i (.va x)) b) : IsOwn σ η b := by
 obtain ⟨j, o, h1, h2⟩ := h
 by_cases e : j = i
 ·subst e; cases at_set h2
 ·rw [ne_set e] at h2; exact ⟨j, o, h1, h2⟩
theorem Oof_mono {σ' : St} {η' : EP'} (h : ∀ b, IsOwn σ' η' b → IsOwn σ η b) : ∀ b, Oof F σ' η' b → Oof F σ η b := fun b z => z.elim .inl fun z => .inr (h b z)
theorem OwAt.mono {O O' : Addr → Prop} (h : ∀ b, O' b → O b) (r : OwAt K O H a o) : OwAt K O' H a o := r.car (Car.mono h) rfl
theorem Rs.setv (R : Rs K T F σ η H) (r : Rep K (Oof F σ η) H x v) : Rs K T F (σ.set i (some v)) (η.set i (.va x)) H := by
 have m : ∀ b, Oof F (σ.set i (some v)) (η.set i (.va x)) b → Oof F σ η b := Oof_mono fun b z => own_set z
 refine ⟨by simpa using R.len, fun j y e => ?_, fun j o e => ?_, fun j k o o' a e1 e2 e3 e4 => ?_, R.tr, R.tb⟩
 ·by_cases h : j = i
  ·subst h
   have := at_set e; cases this
   have hj : j < η.length := by
    have := (List.getElem?_eq_some_iff.mp e).1; simpa using this
   exact ⟨v, by rw [List.getElem?_set_self (by rw [R.len]; exact hj)], r.mono m⟩
  ·rw [ne_set h] at e ⊢
   obtain ⟨w, h1, h2⟩ := R.va j y e
   exact ⟨w, h1, h2.mono m⟩
 ·by_cases h : j = i
  ·subst h; cases at_set e
  ·rw [ne_set h] at e ⊢
   obtain ⟨a, h1, h2, h3⟩ := R.ow j o e
   exact ⟨a, h1, h2.mono m, h3⟩
 ·have hj : j ≠ i := fun h => by subst h; cases at_set e1
  have hk : k ≠ i := fun h => by subst h; cases at_set e2
  rw [ne_set hj] at e1 e3
  rw [ne_set hk] at e2 e4
  exact R.nd j k o o' a e1 e2 e3 e4
theorem Ext.setv {w : V} : Ext σ η (σ.set i (some w)) (η.set i (.va x)) H H := ⟨fun _ _ e _ _ => e, fun _ e => e, fun _ z => .inl (own_set z), fun o e => by
 by_cases h : (0 : Nat) = i
 ·subst h; cases at_set e
 ·rw [ne_set h] at e ⊢
  exact ⟨o, e, rfl⟩⟩
def wkV : PV → PV
 | .pln xs => .tup xs
 | x => x
theorem Rep.wkV {O : Addr → Prop} {x : PV} {v : V} (h : Rep K O H x v) : Rep K O H (wkV x) v := by
 cases x <;> try exact h
 unfold Z.wkV
 unfold Rep at h ⊢
 obtain ⟨a, vs, o, e, n, h, d, r⟩ := h
 exact ⟨a, vs, e, .inl ⟨n, .inr ⟨o, h⟩⟩, r⟩
def frz : Ow → PV
 | .l xs => .lst xs
 | .o C fs => .ins C fs
 | .d kvs => .dic kvs
theorem OwAt.frz {O : Addr → Prop} (h : OwAt K O H a o) (n : ¬ O a) : Rep K O H (frz o) (.ref a) := by
 cases o with
 | l xs =>
  obtain ⟨vs, h1, h2⟩ := h
  unfold Z.frz Rep
  exact ⟨a, vs, rfl, n, h1, h2⟩
 | o C fs =>
  obtain ⟨dx, ws, h1, h2⟩ := h
  unfold Z.frz Rep
  exact ⟨a, dx, ws, rfl, n, h1, h2⟩
 | d kvs =>
  obtain ⟨ws, h1, h2⟩ := h
  unfold Z.frz Rep
  exact ⟨a, ws, rfl, n, h1, h2⟩
theorem Rs.freeze (R : Rs K T F σ η H) (e : η[i]? = some (.ow o)) : ∃ a, σ[i]? = some (some (V.ref a)) ∧ Rs K T F σ (η.set i (.va (frz o))) H ∧ Rep K (Oof F σ (η.set i (.va (frz o)))) H (frz o) (.ref a) := by
 obtain ⟨a, s, r, nf⟩ := R.ow i o e
 have m : ∀ b, Oof F σ (η.set i (.va (frz o))) b → Oof F σ η b := Oof_mono fun b z => own_set1 z
 have na : ¬ Oof F σ (η.set i (.va (frz o))) a := by
  rintro (z | ⟨j, o', h1, h2⟩)
  ·exact nf z
  ·have hj : j ≠ i := fun h => by subst h; cases at_set h2
   rw [ne_set hj] at h2
   exact hj (R.nd j i o' o a h2 e h1 s)
 have rep := (r.mono m).frz na
 refine ⟨a, s, ⟨by simpa using R.len, fun j y q => ?_, fun j o' q => ?_, fun j k p p' b e1 e2 e3 e4 => ?_, R.tr, R.tb⟩, rep⟩
 ·by_cases h : j = i
  ·subst h
   cases at_set q
   exact ⟨_, s, rep⟩
  ·rw [ne_set h] at q
   obtain ⟨w, h1, h2⟩ := R.va j y q
   exact ⟨w, h1, h2.mono m⟩
 ·by_cases h : j = i
  ·subst h; cases at_set q
  ·rw [ne_set h] at q
   obtain ⟨b, h1, h2, h3⟩ := R.ow j o' q
   exact ⟨b, h1, h2.mono m, h3⟩
 ·have hj : j ≠ i := fun h => by subst h; cases at_set e1
  have hk : k ≠ i := fun h => by subst h; cases at_set e2
  rw [ne_set hj] at e1
  rw [ne_set hk] at e2
  exact R.nd j k p p' b e1 e2 e3 e4
theorem Ext.freeze : Ext σ η σ (η.set i (.va x)) H H := ⟨fun _ _ e _ _ => e, fun _ e => e, fun _ z => .inl (own_set1 z), fun o e => by
 by_cases h : (0 : Nat) = i
 ·subst h; cases at_set e
 ·rw [ne_set h] at e
  exact ⟨o, e, rfl⟩⟩
end
section
variable {X : Cx} {T : List (Addr × Str)}
def Out (K : PySem.W.Frag) (O : Addr → Prop) (H : Hp) (P : PV → Prop) (Q : VK) : Prop := ∀ z v H', P z → Same H H' → Rep K O H' z v → Q v H'
abbrev R2p := PV → PV → (PV → Prop) → Prop
def r2 (K : PySem.W.Frag) (r : R2p) : R2 := fun x y H Q => ∃ O px py P, Trk O H ∧ Rep K O H px x ∧ Rep K O H py y ∧ r px py P ∧ Out K O H P Q
abbrev R1p := List PV → (PV → Prop) → Prop
def r1 (K : PySem.W.Frag) (r : R1p) : List V → Hp → VK → Prop := fun vs H Q => ∃ O ps P, Trk O H ∧ Reps K O H ps vs ∧ r ps P ∧ Out K O H P Q
def tOpP (r : R2p) (ta tb : TEp) : TEp := fun η P => ta η fun x η1 => tb η1 fun y η2 => r x y fun z => P z η2
def tCBP (r : R1p) (t : TAp) : TEp := fun η P => t η fun xs η1 => r xs fun z => P z η1
def tConP (x : PV) : TEp := fun η P => P x η
def tVarP (i : Nat) : TEp := fun η P => match η[i]? with
 | some (.va x) => P x η
 | some (.ow o) => P (frz o) (η.set i (.va (frz o)))
 | _ => False
def tNilP : TAp := fun η P => P [] η
def tConsP (ta : TEp) (t : TAp) : TAp := fun η P => ta η fun x η1 => t η1 fun xs η2 => P (x :: xs) η2
variable {e a b c : Expr} {es : List Expr} {ta tb tc : TEp} {t : TAp} {pos : Pos}
theorem z_var {i : Nat} {x : Str} (h : PE X (.Name x pos) (tVar i)) : PE X (.Name x pos) (up X.K T (tVarP i)) := by
 refine PE.weak h fun σ H Q q => ?_
 obtain ⟨F, η, P, R, h, k⟩ := q
 unfold tVarP at h
 split at h
 ·rename_i y e
  obtain ⟨v, h1, h2⟩ := R.va i y e
  exact ⟨v, h1, k _ _ _ _ h .refl R h2⟩
 ·rename_i o e
  obtain ⟨a, h1, h2, h3⟩ := R.freeze e
  exact ⟨_, h1, k _ _ _ _ h .freeze h2 h3⟩
 ·cases h
theorem zv (i : Nat) {x : Str} {pos : Pos} (hN : X.N[i]? = some x := by rfl) (hv : Vis X.env.scope x := by first | exact Or.inl rfl | exact Or.inr (Or.inl rfl) | exact Or.inr (Or.inr rfl)) (hd : (x == ("__debug__" : Str)) = false := by decide)
  (hcd : (x == ("__classdict__" : Str)) = false := by decide) : PE X (.Name x pos) (up X.K T (tVarP i)) := z_var (pe_var hN hv hd hcd)
theorem z_con {v : V} {x : PV} (h : PE X e (tC v)) (r : ∀ O H, Rep X.K O H x v) : PE X e (up X.K T (tConP x)) := by
 refine PE.weak h fun σ H Q q => ?_
 obtain ⟨F, η, P, R, h, k⟩ := q
 exact k _ _ _ _ h .refl R (r _ _)
theorem z_int {i j} : PE X (.Constant (.int i) j pos) (up X.K T (tConP (.int i))) := z_con pe_int fun _ _ => by unfold Rep; rfl
theorem z_bl {i j} : PE X (.Constant (.bool i) j pos) (up X.K T (tConP (.bl i))) := z_con pe_bl fun _ _ => by unfold Rep; rfl
theorem z_non {j} : PE X (.Constant .none j pos) (up X.K T (tConP .non)) := z_con pe_non fun _ _ => by unfold Rep; rfl
theorem z_str {i j} : PE X (.Constant (.str i) j pos) (up X.K T (tConP (.str i))) := z_con pe_str fun _ _ => by unfold Rep; rfl
theorem z_op {op : Operator} {r : R2p} (ho : OpR X (binaryOp op) (r2 X.K r)) (ha : PE X a (up X.K T ta)) (hb : PE X b (up X.K T tb)) : PE X (.BinOp a op b pos) (up X.K T (tOpP r ta tb)) := by
 refine PE.weak (pe_op ho ha hb) fun σ H Q q => ?_
 obtain ⟨F, η, P, R, h, k⟩ := q
 refine ⟨F, η, _, R, h, fun x η1 v H1 h1 e1 R1 r1' => ⟨F, η1, _, R1, h1, fun y η2 w H2 h2 e2 R2' rw' => ?_⟩⟩
 exact ⟨Oof F σ η2, x, y, _, R2'.trO, r1'.car e2.car, rw', h2, fun z u H3 pz s rz => k z η2 u H3 pz ((e1.trans e2).trans (.same s)) (R2'.same s) rz⟩
theorem z_cmp {op : CmpOp} {r : R2p} (ho : OpR X (compareOp op) (r2 X.K r)) (ha : PE X a (up X.K T ta)) (hb : PE X b (up X.K T tb)) (hm : behindInMarks op b = false := by first | exact nomark _ | rfl) : PE X (.Compare a [op] [b] pos) (up X.K T (tOpP r ta tb)) := by
 refine PE.weak (pe_cmpR ho ha hb hm) fun σ H Q q => ?_
 obtain ⟨F, η, P, R, h, k⟩ := q
 refine ⟨F, η, _, R, h, fun x η1 v H1 h1 e1 R1 r1' => ⟨F, η1, _, R1, h1, fun y η2 w H2 h2 e2 R2' rw' => ?_⟩⟩
 exact ⟨Oof F σ η2, x, y, _, R2'.trO, r1'.car e2.car, rw', h2, fun z u H3 pz s rz => k z η2 u H3 pz ((e1.trans e2).trans (.same s)) (R2'.same s) rz⟩
def tChainP (r r' : R2p) (ta tb tc : TEp) : TEp := fun η P => ta η fun x η1 => tb η1 fun y η2 => r x y fun z => ∃ k, z = .bl k ∧ if k = true then tc η2 fun w η3 => r' y w fun z' => P z' η3 else P (.bl false) η2
theorem za_nil : PA X [] (upA X.K T tNilP) := by
 refine PA.weak pa_nil fun σ H Q q => ?_
 obtain ⟨F, η, P, R, h, k⟩ := q
 exact k [] η [] H h .refl R .nil
theorem za_cons (ha : PE X e (up X.K T ta)) (hr : PA X es (upA X.K T t)) (hs : starEach (e :: es) X.env = (false, eval e X.env) :: starEach es X.env := by rfl) : PA X (e :: es) (upA X.K T (tConsP ta t)) := by
 refine PA.weak (pa_cons ha hr hs) fun σ H Q q => ?_
 obtain ⟨F, η, P, R, h, k⟩ := q
 refine ⟨F, η, _, R, h, fun x η1 v H1 h1 e1 R1 r1' => ⟨F, η1, _, R1, h1, fun y η2 w H2 h2 e2 R2' rw' => ?_⟩⟩
 exact k (x :: y) η2 (v :: w) H2 h2 (e1.trans e2) R2' (.cons (r1'.car e2.car) rw')
theorem z_callB {x : Str} {id : String} {r : R1p} {p : Pos} (hc : CallR X (.builtin id) (r1 X.K r)) (hg : Gl X x) (hm : X.mg x = none) (hv : bootBuiltins x = some (.builtin id)) (ha : PA X (e :: es) (upA X.K T t)) (hn : x ≠ "__name__" := by decide) (hdb : (x == ("__debug__" : Str)) = false := by decide)
  (he : starEach (e :: es) X.env = (false, eval e X.env) :: starEach es X.env := by rfl) (hpl : (backTo pos (starEach es X.env)).any (·.1) = false := by rfl) : PE X (.Call (.Name x p) (e :: es) [] pos) (up X.K T (tCBP r t)) := by
 refine PE.weak (pe_callB hc hg hm hv ha hn hdb he hpl) fun σ H Q q => ?_
 obtain ⟨F, η, P, R, h, k⟩ := q
 refine ⟨F, η, _, R, h, fun x η1 v H1 h1 e1 R1 r1' => ?_⟩
 exact ⟨Oof F σ η1, x, _, R1.trO, r1', h1, fun z u H3 pz s rz => k z η1 u H3 pz (e1.trans (.same s)) (R1.same s) rz⟩
theorem z_callTy {x : Str} {id : String} {r : R1p} {p : Pos} (hc : CallR X (.type id) (r1 X.K r)) (hg : Gl X x) (hm : X.mg x = none) (hv : bootBuiltins x = some (.type id)) (ha : PA X (e :: es) (upA X.K T t)) (hn : x ≠ "__name__" := by decide) (hdb : (x == ("__debug__" : Str)) = false := by decide)
  (he : starEach (e :: es) X.env = (false, eval e X.env) :: starEach es X.env := by rfl) (hpl : (backTo pos (starEach es X.env)).any (·.1) = false := by rfl) : PE X (.Call (.Name x p) (e :: es) [] pos) (up X.K T (tCBP r t)) := by
 refine PE.weak (pe_callTy hc hg hm hv ha hn hdb he hpl) fun σ H Q q => ?_
 obtain ⟨F, η, P, R, h, k⟩ := q
 refine ⟨F, η, _, R, h, fun x η1 v H1 h1 e1 R1 r1' => ?_⟩
 exact ⟨Oof F σ η1, x, _, R1.trO, r1', h1, fun z u H3 pz s rz => k z η1 u H3 pz (e1.trans (.same s)) (R1.same s) rz⟩
def tTupP (t : TAp) : TEp := fun η P => t η fun xs η1 => xs.length ≤ sizeLine ∧ P (.tup xs) η1
def tLstP (t : TAp) : TEp := fun η P => t η fun xs η1 => xs.length ≤ sizeLine ∧ P (.lst xs) η1
theorem rep_newT {K : PySem.W.Frag} {O : Addr → Prop} {H : Hp} {p : Addr} {xs : List PV} {vs : List V} (tr : Trk O H) (hp : H p = none) (r : Reps K O H xs vs) : Rep K O (upd H p (.tup vs)) (.tup xs) (.ref p) := by
 unfold Rep
 exact ⟨p, vs, rfl, .inl ⟨tr.fresh hp, .inl upd_same⟩, r.car (Car.same (Same.new hp))⟩
theorem rep_newL {K : PySem.W.Frag} {O : Addr → Prop} {H : Hp} {p : Addr} {xs : List PV} {vs : List V} (tr : Trk O H) (hp : H p = none) (r : Reps K O H xs vs) : Rep K O (upd H p (.lst vs)) (.lst xs) (.ref p) := by
 unfold Rep
 exact ⟨p, vs, rfl, tr.fresh hp, upd_same, r.car (Car.same (Same.new hp))⟩
theorem z_tup {x1} (h : PA X es (upA X.K T t)) : PE X (.Tuple es x1 pos) (up X.K T (tTupP t)) := by
 refine PE.weak (pe_tup h) fun σ H Q q => ?_
 obtain ⟨F, η, P, R, h, k⟩ := q
 refine ⟨F, η, _, R, h, fun xs η1 vs H1 h1 e1 R1 r1' => ⟨by rw [r1'.len]; exact h1.1, fun p hp => ?_⟩⟩
 exact k _ η1 _ _ h1.2 (e1.trans (.same (Same.new hp))) (R1.same (Same.new hp)) (rep_newT R1.trO hp r1')
theorem z_lst (h : PA X es (upA X.K T t)) : PE X (.List es pos) (up X.K T (tLstP t)) := by
 refine PE.weak (pe_lst h) fun σ H Q q => ?_
 obtain ⟨F, η, P, R, h, k⟩ := q
 refine ⟨F, η, _, R, h, fun xs η1 vs H1 h1 e1 R1 r1' => ⟨by rw [r1'.len]; exact h1.1, fun p hp => ?_⟩⟩
 exact k _ η1 _ _ h1.2 (e1.trans (.same (Same.new hp))) (R1.same (Same.new hp)) (rep_newL R1.trO hp r1')
def truth : PV → Option Bool
 | .bl b => some b
 | .non => some false
 | .int i => some (i != 0)
 | .lst xs => some (!xs.isEmpty)
 | .tup xs => some (!xs.isEmpty)
 | _ => none
def tBlP (ta : TEp) : TTp := fun η P => ta η fun x η1 => match x with | .bl b => P b η1 | _ => False
theorem zt_val (h : PE X e (up X.K T ta)) (he : ∀ whole, isTrue e X.env whole = (do let v ← whole; standAt e.pos; holding [v] (truthy v)) := by intro _; rfl) : PT X e (upB X.K T (tBlP ta)) := by
 refine PT.weak (pt_val h he) fun σ H Q q => ?_
 obtain ⟨F, η, P, R, h, k⟩ := q
 refine ⟨F, η, _, R, h, fun x η1 v H1 h1 e1 R1 r1' => ?_⟩
 split at h1
 ·unfold Rep at r1'
  exact ⟨_, r1', k _ η1 H1 h1 e1 R1⟩
 ·cases h1
theorem zt_cmp {op : CmpOp} {r : R2p} (ho : OpR X (compareOp op) (r2 X.K r)) (ha : PE X a (up X.K T ta)) (hb : PE X b (up X.K T tb)) (hm : behindInMarks op b = false := by first | exact nomark _ | rfl) : PT X (.Compare a [op] [b] pos) (upB X.K T (tBlP (tOpP r ta tb))) := by
 refine PT.weak (pt_cmpR ho ha hb hm) fun σ H Q q => ?_
 obtain ⟨F, η, P, R, h, k⟩ := q
 refine ⟨F, η, _, R, h, fun x η1 v H1 h1 e1 R1 r1' => ⟨F, η1, _, R1, h1, fun y η2 w H2 h2 e2 R2' rw' => ?_⟩⟩
 refine ⟨Oof F σ η2, x, y, _, R2'.trO, r1'.car e2.car, rw', h2, fun z u H3 pz s rz => ?_⟩
 dsimp only at pz
 split at pz
 ·unfold Rep at rz
  exact ⟨_, rz, k _ η2 H3 pz ((e1.trans e2).trans (.same s)) (R2'.same s)⟩
 ·cases pz
theorem z_chain {op op' : CmpOp} {r r' : R2p} (ho : OpR X (compareOp op) (r2 X.K r)) (ho' : OpR X (compareOp op') (r2 X.K r')) (ha : PE X a (up X.K T ta)) (hb : PE X b (up X.K T tb)) (hc : PE X c (up X.K T tc))
  (pf : PE X (.Compare a [op, op'] [b, c] pos) (tChain (r2 X.K r) (r2 X.K r') (up X.K T ta) (up X.K T tb) (up X.K T tc))) : PE X (.Compare a [op, op'] [b, c] pos) (up X.K T (tChainP r r' ta tb tc)) := by
 refine PE.weak pf fun σ H Q q => ?_
 obtain ⟨F, η, P, R, h, k⟩ := q
 refine ⟨F, η, _, R, h, fun x η1 v H1 h1 e1 R1 r1' => ⟨F, η1, _, R1, h1, fun y η2 w H2 h2 e2 R2' rw' => ?_⟩⟩
 refine ⟨Oof F σ η2, x, y, _, R2'.trO, r1'.car e2.car, rw', h2, fun z u H3 pz s rz => ?_⟩
 obtain ⟨kk, rfl, pz⟩ := pz
 unfold Rep at rz
 refine ⟨kk, rz, ?_⟩
 cases kk with
 | false => exact k _ η2 _ H3 pz ((e1.trans e2).trans (.same s)) (R2'.same s) (by unfold Rep; rfl)
 | true =>
  simp only [if_true] at pz ⊢
  refine ⟨F, η2, _, R2'.same s, pz, fun z' η3 u' H4 h4 e4 R4 r4 => ?_⟩
  exact ⟨Oof F σ η3, y, z', _, R4.trO, (rw'.car (Car.same s)).car e4.car, r4, h4, fun z2 u2 H5 p5 s5 r5 => k z2 η3 u2 H5 p5 ((((e1.trans e2).trans (.same s)).trans e4).trans (.same s5)) (R4.same s5) r5⟩
def tAndP (t u : TTp) : TTp := fun η P => t η fun c η1 => if c = true then u η1 P else P false η1
def tOrP (t u : TTp) : TTp := fun η P => t η fun c η1 => if c = true then P true η1 else u η1 P
def tNotP (t : TTp) : TTp := fun η P => t η fun c η1 => P (!c) η1
variable {rest : List Expr} {tA tB : TTp}
theorem zw_and1 (ha : PT X a (upB X.K T tA)) : PW X (.BoolOp .And [a] pos) (upB X.K T tA) := pw_and1 ha
theorem zw_or1 (ha : PT X a (upB X.K T tA)) : PW X (.BoolOp .Or [a] pos) (upB X.K T tA) := pw_or1 ha
theorem zw_and (ha : PT X a (upB X.K T tA)) (hb : PW X (.BoolOp .And (b :: rest) pos) (upB X.K T tB)) : PW X (.BoolOp .And (a :: b :: rest) pos) (upB X.K T (tAndP tA tB)) := by
 refine PW.weak (pw_and ha hb) fun σ H Q q => ?_
 obtain ⟨F, η, P, R, h, k⟩ := q
 refine ⟨F, η, _, R, h, fun x η1 H1 h1 e1 R1 => ?_⟩
 cases x with
 | false => exact k _ _ _ h1 e1 R1
 | true =>
  simp only [if_true] at h1 ⊢
  exact ⟨F, η1, _, R1, h1, fun y η2 H2 h2 e2 R2' => k _ _ _ h2 (e1.trans e2) R2'⟩
theorem zw_or (ha : PT X a (upB X.K T tA)) (hb : PW X (.BoolOp .Or (b :: rest) pos) (upB X.K T tB)) : PW X (.BoolOp .Or (a :: b :: rest) pos) (upB X.K T (tOrP tA tB)) := by
 refine PW.weak (pw_or ha hb) fun σ H Q q => ?_
 obtain ⟨F, η, P, R, h, k⟩ := q
 refine ⟨F, η, _, R, h, fun x η1 H1 h1 e1 R1 => ?_⟩
 cases x with
 | true => exact k _ _ _ h1 e1 R1
 | false =>
  simp only [Bool.false_eq_true, if_false] at h1 ⊢
  exact ⟨F, η1, _, R1, h1, fun y η2 H2 h2 e2 R2' => k _ _ _ h2 (e1.trans e2) R2'⟩
theorem zt_not (ha : PT X a (upB X.K T tA)) : PT X (.UnaryOp .Not a pos) (upB X.K T (tNotP tA)) := by
 refine PT.weak (pt_not ha) fun σ H Q q => ?_
 obtain ⟨F, η, P, R, h, k⟩ := q
 exact ⟨F, η, _, R, h, fun x η1 H1 h1 e1 R1 => k _ _ _ h1 e1 R1⟩
def tAndVP (ta tb : TEp) : TEp := fun η P => ta η fun x η1 => match x with | .bl true => tb η1 P | .bl false => P (.bl false) η1 | _ => False
def tOrVP (ta tb : TEp) : TEp := fun η P => ta η fun x η1 => match x with | .bl false => tb η1 P | .bl true => P (.bl true) η1 | _ => False
def tNotVP (ta : TEp) : TEp := fun η P => ta η fun x η1 => match x with | .bl b => P (.bl (!b)) η1 | _ => False
theorem z_one {op} (h : PE X a (up X.K T ta)) : PE X (.BoolOp op [a] pos) (up X.K T ta) := pe_one h
theorem z_and (ha : PE X a (up X.K T ta)) (hb : PE X (.BoolOp .And (b :: rest) pos) (up X.K T tb)) : PE X (.BoolOp .And (a :: b :: rest) pos) (up X.K T (tAndVP ta tb)) := by
 refine PE.weak (pe_and ha hb) fun σ H Q q => ?_
 obtain ⟨F, η, P, R, h, k⟩ := q
 refine ⟨F, η, _, R, h, fun x η1 v H1 h1 e1 R1 r => ?_⟩
 split at h1
 ·unfold Rep at r
  exact ⟨true, r, F, η1, _, R1, h1, fun y η2 w H2 h2 e2 R2' r2' => k _ _ _ _ h2 (e1.trans e2) R2' r2'⟩
 ·have r' := r
  unfold Rep at r'
  exact ⟨false, r', k _ _ _ _ h1 e1 R1 (by unfold Rep; rfl)⟩
 ·cases h1
theorem z_not (ha : PE X a (up X.K T ta)) : PE X (.UnaryOp .Not a pos) (up X.K T (tNotVP ta)) := by
 refine PE.weak (pe_not ha) fun σ H Q q => ?_
 obtain ⟨F, η, P, R, h, k⟩ := q
 refine ⟨F, η, _, R, h, fun x η1 v H1 h1 e1 R1 r => ?_⟩
 split at h1
 ·unfold Rep at r
  exact ⟨_, r, k _ _ _ _ h1 e1 R1 (by unfold Rep; rfl)⟩
 ·cases h1
def tIfP (t : TTp) (ta tb : TEp) : TEp := fun η P => t η fun c η1 => if c = true then ta η1 P else tb η1 P
theorem z_ifExp (hc : PT X c (upB X.K T tA)) (ha : PE X a (up X.K T ta)) (hb : PE X b (up X.K T tb)) : PE X (.IfExp c a b pos) (up X.K T (tIfP tA ta tb)) := by
 refine PE.weak (pe_ifExp hc ha hb) fun σ H Q q => ?_
 obtain ⟨F, η, P, R, h, k⟩ := q
 refine ⟨F, η, _, R, h, fun x η1 H1 h1 e1 R1 => ?_⟩
 cases x with
 | true =>
  simp only [if_true] at h1 ⊢
  exact ⟨F, η1, _, R1, h1, fun y η2 w H2 h2 e2 R2' r2' => k _ _ _ _ h2 (e1.trans e2) R2' r2'⟩
 | false =>
  simp only [Bool.false_eq_true, if_false] at h1 ⊢
  exact ⟨F, η1, _, R1, h1, fun y η2 w H2 h2 e2 R2' r2' => k _ _ _ _ h2 (e1.trans e2) R2' r2'⟩
end
section
variable {X : Cx}
theorem OpR.weak {f : Value → Value → Sem Value} {r r' : R2} (h : OpR X f r) (w : ∀ x y H Q, r' x y H Q → r x y H Q) : OpR X f r' := fun pins s σ H x y v u Q I rx ry q => h pins s σ H x y v u Q I rx ry (w _ _ _ _ q)
theorem CallR.weak {f : Value} {r r' : List V → Hp → VK → Prop} (h : CallR X f r) (w : ∀ x H Q, r' x H Q → r x H Q) : CallR X f r' := fun pins s σ H xs us Q I r q => h pins s σ H xs us Q I r (w _ _ _ q)
variable {K : PySem.W.Frag} {O : Addr → Prop} {H : Hp} {v : V} {P : PV → Prop} {Q : VK}
-- inversion
theorem Rep.int_ {i} (h : Rep K O H (.int i) v) : v = .int i := by unfold Rep at h; exact h
theorem Rep.str_ {i} (h : Rep K O H (.str i) v) : v = .str i := by unfold Rep at h; exact h
theorem Rep.bl_ {i} (h : Rep K O H (.bl i) v) : v = .bl i := by unfold Rep at h; exact h
theorem Rep.non_ (h : Rep K O H .non v) : v = .non := by unfold Rep at h; exact h
theorem Rep.raw_ {u} (h : Rep K O H (.raw u) v) : v = u := by unfold Rep at h; exact h
theorem Rep.lst_ {xs} (h : Rep K O H (.lst xs) v) : ∃ a vs, v = .ref a ∧ ¬ O a ∧ H a = some (.lst vs) ∧ Reps K O H xs vs := by unfold Rep at h; exact h
theorem Rep.tup_ {xs} (h : Rep K O H (.tup xs) v) : ∃ a vs, v = .ref a ∧ TupAt K O H a vs ∧ Reps K O H xs vs := by unfold Rep at h; exact h
theorem Rep.scr_ {ns} (h : Rep K O H (.scr ns) v) : ∃ a o, v = .ref a ∧ ¬ O a ∧ H a = some (.frz o (.lst (ns.map V.int))) := by unfold Rep at h; exact h
theorem Rep.ins_ {C fs} (h : Rep K O H (.ins C fs) v) : ∃ a dx ws, v = .ref a ∧ ¬ O a ∧ H a = some (.ins C dx ws) ∧ RepF K O H fs ws := by unfold Rep at h; exact h
theorem rep_int {i} : Rep K O H (.int i) (.int i) := by unfold Rep; rfl
theorem rep_str {i} : Rep K O H (.str i) (.str i) := by unfold Rep; rfl
theorem rep_bl {i} : Rep K O H (.bl i) (.bl i) := by unfold Rep; rfl
theorem rep_non : Rep K O H .non .non := by unfold Rep; rfl
theorem Out.int {i} (h : Out K O H P Q) (p : P (.int i)) : Q (.int i) H := h _ _ _ p (Same.refl _) rep_int
theorem Out.str {i} (h : Out K O H P Q) (p : P (.str i)) : Q (.str i) H := h _ _ _ p (Same.refl _) rep_str
theorem Out.bl {i} (h : Out K O H P Q) (p : P (.bl i)) : Q (.bl i) H := h _ _ _ p (Same.refl _) rep_bl
theorem Out.non (h : Out K O H P Q) (p : P .non) : Q .non H := h _ _ _ p (Same.refl _) rep_non
theorem Out.newL {xs vs} {p : Addr} (h : Out K O H P Q) (q : P (.lst xs)) (tr : Trk O H) (r : Reps K O H xs vs) (hp : H p = none) : Q (.ref p) (upd H p (.lst vs)) := h _ _ _ q (Same.new hp) (rep_newL tr hp r)
theorem Out.newT {xs vs} {p : Addr} (h : Out K O H P Q) (q : P (.tup xs)) (tr : Trk O H) (r : Reps K O H xs vs) (hp : H p = none) : Q (.ref p) (upd H p (.tup vs)) := h _ _ _ q (Same.new hp) (rep_newT tr hp r)
def rAdd : R2p := fun x y P => match x, y with
 | .int i, .int j => P (.int (i + j))
 | .str x, .str y => x.length + y.length ≤ sizeLine ∧ P (.str (x ++ y))
 | .lst xs, .lst ys => xs.length + ys.length ≤ sizeLine ∧ P (.lst (xs ++ ys))
 | .tup xs, .tup ys => xs ≠ [] ∧ xs.length + ys.length ≤ sizeLine ∧ P (.tup (xs ++ ys))
 | _, _ => False
theorem zo_add : OpR X (binaryOp .Add) (r2 X.K rAdd) := by
 refine OpR.weak ((op_add (X := X)).or (op_add_str.or (op_cat.or op_catT))) fun x y H Q h => ?_
 obtain ⟨O, px, py, P, tr, hx, hy, h, k⟩ := h
 unfold rAdd at h
 split at h
 ·exact .inl ⟨_, _, hx.int_, hy.int_, k.int h⟩
 ·exact .inr (.inl ⟨_, _, hx.str_, hy.str_, h.1, k.str h.2⟩)
 ·obtain ⟨a, vs, e1, n1, h1, q1⟩ := hx.lst_
  obtain ⟨b, us, e2, n2, h2, q2⟩ := hy.lst_
  exact .inr (.inr (.inl ⟨a, b, vs, us, e1, e2, h1, h2, by rw [q1.len, q2.len]; exact h.1, fun p hp => k.newL h.2 tr (q1.app q2) hp⟩))
 ·obtain ⟨a, vs, e1, h1, q1⟩ := hx.tup_
  obtain ⟨b, us, e2, h2, q2⟩ := hy.tup_
  refine .inr (.inr (.inr ⟨a, b, vs, us, e1, e2, h1.sq, h2.sq, fun z => h.1 (by rw [z] at q1; exact List.length_eq_zero_iff.mp q1.len.symm), by rw [q1.len, q2.len]; exact h.2.1, fun z => ?_, fun _ p hp => k.newT h.2.2 tr (q1.app q2) hp⟩))
  refine k _ _ _ h.2.2 (Same.refl _) ?_
  unfold Rep
  exact ⟨a, vs, rfl, h1, by have := q1.app q2; rw [z, List.append_nil] at this; exact this⟩
 ·cases h
def rSub : R2p := fun x y P => match x, y with
 | .int i, .int j => P (.int (i - j))
 | _, _ => False
theorem zo_sub : OpR X (binaryOp .Sub) (r2 X.K rSub) := by
 refine OpR.weak (op_sub (X := X)) fun x y H Q h => ?_
 obtain ⟨O, px, py, P, tr, hx, hy, h, k⟩ := h
 unfold rSub at h
 split at h
 ·exact ⟨_, _, hx.int_, hy.int_, k.int h⟩
 ·cases h
def rMul : R2p := fun x y P => match x, y with
 | .int i, .int j => CMul i j ∧ P (.int (i * j))
 | .lst xs, .int k => -(2 ^ 63) ≤ k ∧ k < 2 ^ 63 ∧ xs.length * k.toNat ≤ sizeLine ∧ P (.lst (List.replicate k.toNat xs).flatten)
 | _, _ => False
theorem Reps.flat {xs vs} (h : Reps K O H xs vs) : ∀ n, Reps K O H (List.replicate n xs).flatten (List.replicate n vs).flatten
 | 0 => by simp; exact .nil
 | n + 1 => by simp only [List.replicate_succ, List.flatten_cons]; exact h.app (h.flat n)
theorem zo_mul : OpR X (binaryOp .Mult) (r2 X.K rMul) := by
 refine OpR.weak ((op_mul (X := X)).or op_rep) fun x y H Q h => ?_
 obtain ⟨O, px, py, P, tr, hx, hy, h, k⟩ := h
 unfold rMul at h
 split at h
 ·exact .inl ⟨_, _, hx.int_, hy.int_, h.1, k.int h.2⟩
 ·obtain ⟨a, vs, e1, n1, h1, q1⟩ := hx.lst_
  exact .inr ⟨a, _, vs, e1, hy.int_, h1, h.1, h.2.1, by rw [q1.len]; exact h.2.2.1, fun p hp => k.newL h.2.2.2 tr (q1.flat _) hp⟩
 ·cases h
def rDiv : R2p := fun x y P => match x, y with
 | .int i, .int j => CDiv i j ∧ P (.int (i / j))
 | _, _ => False
theorem zo_div : OpR X (binaryOp .FloorDiv) (r2 X.K rDiv) := by
 refine OpR.weak (op_fdiv (X := X)) fun x y H Q h => ?_
 obtain ⟨O, px, py, P, tr, hx, hy, h, k⟩ := h
 unfold rDiv at h
 split at h
 ·exact ⟨_, _, hx.int_, hy.int_, h.1, k.int h.2⟩
 ·cases h
def rMod : R2p := fun x y P => match x, y with
 | .int i, .int j => 0 < j ∧ P (.int (i % j))
 | _, _ => False
theorem zo_mod : OpR X (binaryOp .Mod) (r2 X.K rMod) := by
 refine OpR.weak (op_mod (X := X)) fun x y H Q h => ?_
 obtain ⟨O, px, py, P, tr, hx, hy, h, k⟩ := h
 unfold rMod at h
 split at h
 ·exact ⟨_, _, hx.int_, hy.int_, h.1, k.int h.2⟩
 ·cases h
def rPow : R2p := fun x y P => match x, y with
 | .int i, .int j => CPow i j ∧ P (.int (i ^ j.toNat))
 | _, _ => False
theorem zo_pow : OpR X (binaryOp .Pow) (r2 X.K rPow) := by
 refine OpR.weak (op_pow (X := X)) fun x y H Q h => ?_
 obtain ⟨O, px, py, P, tr, hx, hy, h, k⟩ := h
 unfold rPow at h
 split at h
 ·exact ⟨_, _, hx.int_, hy.int_, h.1, k.int h.2⟩
 ·cases h
def rLt : R2p := fun x y P => match x, y with
 | .int i, .int j => P (.bl (decide (i < j)))
 | .str x, .str y => P (.bl (decide (x.cps.toList < y.cps.toList)))
 | _, _ => False
theorem zo_lt : OpR X (compareOp .Lt) (r2 X.K rLt) := by
 refine OpR.weak ((op_lt (X := X)).or op_lt_str) fun x y H Q h => ?_
 obtain ⟨O, px, py, P, tr, hx, hy, h, k⟩ := h
 unfold rLt at h
 split at h
 ·exact .inl ⟨_, _, hx.int_, hy.int_, k.bl h⟩
 ·exact .inr ⟨_, _, hx.str_, hy.str_, k.bl h⟩
 ·cases h
def rGt : R2p := fun x y P => match x, y with
 | .int i, .int j => P (.bl (decide (j < i)))
 | _, _ => False
theorem zo_gt : OpR X (compareOp .Gt) (r2 X.K rGt) := by
 refine OpR.weak (op_gt (X := X)) fun x y H Q h => ?_
 obtain ⟨O, px, py, P, tr, hx, hy, h, k⟩ := h
 unfold rGt at h
 split at h
 ·exact ⟨_, _, hx.int_, hy.int_, k.bl h⟩
 ·cases h
def rGe : R2p := fun x y P => match x, y with
 | .int i, .int j => P (.bl (decide (j ≤ i)))
 | _, _ => False
theorem zo_ge : OpR X (compareOp .GtE) (r2 X.K rGe) := by
 refine OpR.weak (op_ge (X := X)) fun x y H Q h => ?_
 obtain ⟨O, px, py, P, tr, hx, hy, h, k⟩ := h
 unfold rGe at h
 split at h
 ·exact ⟨_, _, hx.int_, hy.int_, k.bl h⟩
 ·cases h
end
mutual
def toD : PV → Option PyData
 | .non => some .none
 | .bl b => some (.bool b)
 | .int i => some (.int i)
 | .str x => some (.str x)
 | .tup xs => (toDs xs).map .tuple
 | .lst xs => (toDs xs).map .list
 | .scr _ => none
 | .ins _ _ => none
 | .dic _ => none
 | .raw _ => none
 | .pln xs => (toDs xs).map .tuple
 | .exn _ _ _ => none
def toDs : List PV → Option (List PyData)
 | [] => some []
 | x :: xs => match toD x, toDs xs with
  | some d, some ds => some (d :: ds)
  | _, _ => none
end
theorem toDs_cons {x : PV} {xs : List PV} {ds : List PyData} (h : toDs (x :: xs) = some ds) : ∃ d r, ds = d :: r ∧ toD x = some d ∧ toDs xs = some r := by
 unfold toDs at h
 split at h
 ·rename_i d r h1 h2
  cases h
  exact ⟨d, r, rfl, h1, h2⟩
 ·cases h
section
variable {K : PySem.W.Frag} {O : Addr → Prop} {H : Hp}
mutual
theorem Rep.dp : ∀ (x : PV) (v : V) (d : PyData), Rep K O H x v → toD x = some d → Dp K H v d
 | .non, _, _, h, e => by cases h.non_; unfold toD at e; cases e; exact .non
 | .bl _, _, _, h, e => by cases h.bl_; unfold toD at e; cases e; exact .bl _
 | .int _, _, _, h, e => by cases h.int_; unfold toD at e; cases e; exact .int _
 | .str _, _, _, h, e => by cases h.str_; unfold toD at e; cases e; exact .str _
 | .tup xs, _, _, h, e => by
  obtain ⟨a, vs, rfl, t, r⟩ := h.tup_
  unfold toD at e
  cases q : toDs xs with
  | none => rw [q] at e; cases e
  | some ds => rw [q] at e; cases e; exact .tup t.sq (Reps.dp xs vs ds r q)
 | .lst xs, _, _, h, e => by
  obtain ⟨a, vs, rfl, n, t, r⟩ := h.lst_
  unfold toD at e
  cases q : toDs xs with
  | none => rw [q] at e; cases e
  | some ds => rw [q] at e; cases e; exact .lst (SqL.of t) (Reps.dp xs vs ds r q)
 | .scr _, _, _, _, e => by unfold toD at e; cases e
 | .ins _ _, _, _, _, e => by unfold toD at e; cases e
 | .dic _, _, _, _, e => by unfold toD at e; cases e
 | .raw _, _, _, _, e => by unfold toD at e; cases e
 | .exn _ _ _, _, _, _, e => by unfold toD at e; cases e
 | .pln xs, _, _, h, e => by
  have h' := h.wkV
  unfold wkV at h'
  obtain ⟨a, vs, rfl, t, r⟩ := h'.tup_
  unfold toD at e
  cases q : toDs xs with
  | none => rw [q] at e; cases e
  | some ds => rw [q] at e; cases e; exact .tup t.sq (Reps.dp xs vs ds r q)
theorem Reps.dp : ∀ (xs : List PV) (vs : List V) (ds : List PyData), Reps K O H xs vs → toDs xs = some ds → DpAll K H vs ds
 | [], _, _, h, e => by rw [h.inv0]; unfold toDs at e; cases e; exact .nil
 | x :: xs, _, _, h, e => by
  obtain ⟨v, us, rfl, r, t⟩ := h.inv
  obtain ⟨d, ds, rfl, h1, h2⟩ := toDs_cons e
  exact .cons (Rep.dp x v d r h1) (Reps.dp xs us ds t h2)
end
end
section
variable {X : Cx}
def rEqP (neg : Bool) : R2p := fun x y P => ∃ d e, toD x = some d ∧ toD y = some e ∧ SeqAt.shaped d = true ∧ SeqAt.shaped e = true ∧ P (.bl (if neg then !PyData.eqv d e else PyData.eqv d e))
theorem zo_eq (hu : X.A.units + 64 < cLine) : OpR X (compareOp .Eq) (r2 X.K (rEqP false)) := by
 refine OpR.weak (op_eqD hu) fun x y H Q h => ?_
 obtain ⟨O, px, py, P, tr, hx, hy, ⟨d, e, h1, h2, h3, h4, h⟩, k⟩ := h
 exact ⟨d, e, Rep.dp _ _ _ hx h1, Rep.dp _ _ _ hy h2, h3, h4, k.bl h⟩
theorem zo_ne (hu : X.A.units + 64 < cLine) : OpR X (compareOp .NotEq) (r2 X.K (rEqP true)) := by
 refine OpR.weak (op_neD hu) fun x y H Q h => ?_
 obtain ⟨O, px, py, P, tr, hx, hy, ⟨d, e, h1, h2, h3, h4, h⟩, k⟩ := h
 exact ⟨d, e, Rep.dp _ _ _ hx h1, Rep.dp _ _ _ hy h2, h3, h4, k.bl h⟩
def rEqI (neg : Bool) : R2p := fun x y P => match x, y with
 | .int i, .int j => P (.bl (if neg then !decide (i = j) else decide (i = j)))
 | .str i, .str j => P (.bl (if neg then !decide (i = j) else decide (i = j)))
 | .bl i, .bl j => P (.bl (if neg then !decide (i = j) else decide (i = j)))
 | _, _ => False
theorem zo_eqI : OpR X (compareOp .Eq) (r2 X.K (rEqI false)) := by
 refine OpR.weak (op_eq (X := X)) fun x y H Q h => ?_
 obtain ⟨O, px, py, P, tr, hx, hy, h, k⟩ := h
 unfold rEqI at h
 split at h
 ·rw [hx.int_, hy.int_]; refine ⟨rfl, k.bl ?_⟩; simpa using h
 ·rw [hx.str_, hy.str_]; refine ⟨rfl, k.bl ?_⟩; simpa using h
 ·rw [hx.bl_, hy.bl_]; refine ⟨rfl, k.bl ?_⟩; simpa using h
 ·cases h
theorem zo_neI : OpR X (compareOp .NotEq) (r2 X.K (rEqI true)) := by
 refine OpR.weak (op_ne (X := X)) fun x y H Q h => ?_
 obtain ⟨O, px, py, P, tr, hx, hy, h, k⟩ := h
 unfold rEqI at h
 split at h
 ·rw [hx.int_, hy.int_]; refine ⟨rfl, k.bl ?_⟩; simpa using h
 ·rw [hx.str_, hy.str_]; refine ⟨rfl, k.bl ?_⟩; simpa using h
 ·rw [hx.bl_, hy.bl_]; refine ⟨rfl, k.bl ?_⟩; simpa using h
 ·cases h
def rLe : R2p := fun x y P => match x, y with
 | .int i, .int j => P (.bl (decide (i ≤ j)))
 | .str x, .str y => P (.bl (!decide (y.cps.toList < x.cps.toList)))
 | _, _ => False
theorem zo_le : OpR X (compareOp .LtE) (r2 X.K rLe) := by
 refine OpR.weak ((op_le (X := X)).or op_le_str) fun x y H Q h => ?_
 obtain ⟨O, px, py, P, tr, hx, hy, h, k⟩ := h
 unfold rLe at h
 split at h
 ·exact .inl ⟨_, _, hx.int_, hy.int_, k.bl h⟩
 ·exact .inr ⟨_, _, hx.str_, hy.str_, k.bl h⟩
 ·cases h
def rInS (neg : Bool) : R2p := fun x y P => match x, y with
 | .str a, .str z => ∃ c, a = ⟨#[c]⟩ ∧ P (.bl (if neg then !decide (c ∈ z.cps.toList) else decide (c ∈ z.cps.toList)))
 | _, _ => False
theorem zo_in : OpR X (compareOp .In) (r2 X.K (rInS false)) := by
 refine OpR.weak (op_in_sign (X := X)) fun x y H Q h => ?_
 obtain ⟨O, px, py, P, tr, hx, hy, h, k⟩ := h
 unfold rInS at h
 split at h
 ·obtain ⟨c, rfl, h⟩ := h
  exact ⟨c, _, hx.str_, hy.str_, k.bl h⟩
 ·cases h
def rLen : R1p := fun ps P => match ps with
 | [.str x] => x.length ≤ sizeLine ∧ P (.int x.length)
 | [.lst xs] => P (.int xs.length)
 | [.tup xs] => P (.int xs.length)
 | [.scr xs] => P (.int xs.length)
 | _ => False
theorem zc_len : CallR X (.builtin "len") (r1 X.K rLen) := by
 refine CallR.weak (call_len (X := X)) fun xs H Q h => ?_
 obtain ⟨O, ps, P, tr, hx, h, k⟩ := h
 unfold rLen at h
 split at h
 ·obtain ⟨v, us, rfl, r, t⟩ := hx.inv
  cases t.inv0; cases r.str_
  exact ⟨_, _, rfl, ⟨h.1, rfl⟩, k.int h.2⟩
 ·obtain ⟨v, us, rfl, r, t⟩ := hx.inv
  cases t.inv0
  obtain ⟨a, vs, rfl, n, q, rr⟩ := r.lst_
  exact ⟨_, _, rfl, .inl ⟨vs, SqL.of q, rfl⟩, by rw [rr.len]; exact k.int h⟩
 ·obtain ⟨v, us, rfl, r, t⟩ := hx.inv
  cases t.inv0
  obtain ⟨a, vs, rfl, q, rr⟩ := r.tup_
  exact ⟨_, _, rfl, .inr ⟨vs, q.sq, rfl⟩, by rw [rr.len]; exact k.int h⟩
 ·obtain ⟨v, us, rfl, r, t⟩ := hx.inv
  cases t.inv0
  obtain ⟨a, o, rfl, n, q⟩ := r.scr_
  exact ⟨_, _, rfl, .inl ⟨_, .inl (.inr ⟨o, q⟩), rfl⟩, by rw [List.length_map]; exact k.int h⟩
 ·cases h
def rAbs : R1p := fun ps P => match ps with
 | [.int i] => P (.int (if i < 0 then -i else i))
 | _ => False
theorem zc_abs : CallR X (.builtin "abs") (r1 X.K rAbs) := by
 refine CallR.weak (call_abs (X := X)) fun xs H Q h => ?_
 obtain ⟨O, ps, P, tr, hx, h, k⟩ := h
 unfold rAbs at h
 split at h
 ·obtain ⟨v, us, rfl, r, t⟩ := hx.inv
  cases t.inv0; cases r.int_
  exact ⟨_, rfl, k.int h⟩
 ·cases h
theorem Reps.two {K : PySem.W.Frag} {O H} {x y : PV} {vs : List V} (h : Reps K O H [x, y] vs) : ∃ v w, vs = [v, w] ∧ Rep K O H x v ∧ Rep K O H y w := by
 obtain ⟨v, us, rfl, r, t⟩ := h.inv
 obtain ⟨w, us, rfl, r', t⟩ := t.inv
 cases t.inv0
 exact ⟨v, w, rfl, r, r'⟩
theorem Reps.one {K : PySem.W.Frag} {O H} {x : PV} {vs : List V} (h : Reps K O H [x] vs) : ∃ v, vs = [v] ∧ Rep K O H x v := by
 obtain ⟨v, us, rfl, r, t⟩ := h.inv
 cases t.inv0
 exact ⟨v, rfl, r⟩
def rMax2 : R1p := fun ps P => match ps with
 | [.int i, .int j] => P (.int (if j > i then j else i))
 | _ => False
def rMin2 : R1p := fun ps P => match ps with
 | [.int i, .int j] => P (.int (if j < i then j else i))
 | _ => False
theorem zc_max2 (hc : X.calm = true) : CallR X (.builtin "max") (r1 X.K rMax2) := by
 refine CallR.weak (call_max2 hc) fun xs H Q h => ?_
 obtain ⟨O, ps, P, tr, hx, h, k⟩ := h
 unfold rMax2 at h
 split at h
 ·obtain ⟨v, w, rfl, r, r'⟩ := hx.two
  cases r.int_; cases r'.int_
  exact ⟨_, _, rfl, k.int h⟩
 ·cases h
theorem zc_min2 (hc : X.calm = true) : CallR X (.builtin "min") (r1 X.K rMin2) := by
 refine CallR.weak (call_min2 hc) fun xs H Q h => ?_
 obtain ⟨O, ps, P, tr, hx, h, k⟩ := h
 unfold rMin2 at h
 split at h
 ·obtain ⟨v, w, rfl, r, r'⟩ := hx.two
  cases r.int_; cases r'.int_
  exact ⟨_, _, rfl, k.int h⟩
 ·cases h
def blsOf : List PV → Option (List Bool)
 | [] => some []
 | .bl b :: r => (blsOf r).map (b :: ·)
 | _ => none
theorem blsOf_rep {K : PySem.W.Frag} {O H} : ∀ {xs : List PV} {bs : List Bool} {vs : List V}, blsOf xs = some bs → Reps K O H xs vs → vs = bs.map V.bl
 | [], _, _, e, h => by unfold blsOf at e; cases e; exact h.inv0
 | x :: xs, _, _, e, h => by
  obtain ⟨v, us, rfl, r, t⟩ := h.inv
  cases x <;> unfold blsOf at e <;> try (cases e)
  cases q : blsOf xs with
  | none => rw [q] at e; cases e
  | some r' =>
   rw [q] at e; cases e
   rw [r.bl_, blsOf_rep q t]; rfl
def rAllP : R1p := fun ps P => match ps with
 | [.lst xs] => ∃ bs, blsOf xs = some bs ∧ P (.bl (bs.all id))
 | _ => False
theorem zc_all (hc : X.calm = true) : CallR X (.builtin "all") (r1 X.K rAllP) := by
 refine CallR.weak (cr_all hc) fun xs H Q h => ?_
 obtain ⟨O, ps, P, tr, hx, h, k⟩ := h
 unfold rAllP at h
 split at h
 ·obtain ⟨bs, e, h⟩ := h
  obtain ⟨v, rfl, r⟩ := hx.one
  obtain ⟨a, vs, rfl, n, q, rr⟩ := r.lst_
  have := blsOf_rep e rr
  subst this
  exact ⟨a, bs, rfl, SqL.of q, k.bl h⟩
 ·cases h
def rTuple : R1p := fun ps P => match ps with
 | [.lst xs] => P (.tup xs)
 | [.tup xs] => P (.tup xs)
 | _ => False
theorem zc_tuple : CallR X (.type "tuple") (r1 X.K rTuple) := by
 refine CallR.weak (call_tuple_of (X := X)) fun xs H Q h => ?_
 obtain ⟨O, ps, P, tr, hx, h, k⟩ := h
 unfold rTuple at h
 split at h
 ·rename_i xs
  obtain ⟨v, rfl, r⟩ := hx.one
  obtain ⟨a, vs, rfl, n, q, rr⟩ := r.lst_
  exact ⟨a, vs, rfl, .inl ⟨SqL.of q, fun l hl => k.newT h tr rr hl⟩⟩
 ·obtain ⟨v, rfl, r⟩ := hx.one
  obtain ⟨a, vs, rfl, q, rr⟩ := r.tup_
  exact ⟨a, vs, rfl, .inr ⟨q.sq, k _ _ _ h (Same.refl _) r⟩⟩
 ·cases h
def rStr : R1p := fun ps P => match ps with
 | [.int i] => i.natAbs.log2 < 1920 ∧ P (.str (toString i))
 | _ => False
theorem zc_str : CallR X (.type "str") (r1 X.K rStr) := by
 refine CallR.weak (call_str_int (X := X)) fun xs H Q h => ?_
 obtain ⟨O, ps, P, tr, hx, h, k⟩ := h
 unfold rStr at h
 split at h
 ·obtain ⟨v, rfl, r⟩ := hx.one
  cases r.int_
  exact ⟨_, rfl, h.1, k.str h.2⟩
 ·cases h
def tyN : PV → Option String
 | .non => some "NoneType"
 | .bl _ => some "bool"
 | .int _ => some "int"
 | .str _ => some "str"
 | .tup _ => some "tuple"
 | .lst _ => some "list"
 | .scr _ => some "list"
 | .dic _ => some "dict"
 | .ins _ _ => none
 | .raw _ => none
 | .pln _ => none
 | .exn _ _ _ => none
structure ClsT (K : PySem.W.Frag) (C : Addr) : Prop where
 cl : Cls K C
 ha : PySem.W.findIn K (.ref C) "__class__" = some (some (.builtin "object.__class__"))
 hn : PySem.W.specialIn K (.builtin "object.__class__") "__get__" = some (some (.builtin "getset_descriptor.__get__"))
 htk : PySem.W.takesIn K (.builtin "object.__class__") = some true
 hm : PySem.W.mroIn K C (.type "object") = some true
 own : PySem.W.kitOne K (.ref C) (.ref C) = some true
 ty : ∀ n : String, n ∈ ["int", "bool", "str", "tuple", "list", "dict"] → PySem.W.kitOne K (.ref C) (.type n) = some false
 no : ∀ n : String, n ∈ ["NoneType", "int", "bool", "str", "tuple", "list", "dict"] → PySem.W.kitOne K (.type n) (.ref C) = some false
def rIsI (K : PySem.W.Frag) : R1p := fun ps P => match ps with
 | [x, .raw (.ty n)] => (match tyN x with
  | some t => ∃ b, kitB t n = some b ∧ P (.bl b)
  | none => match x with
   | .ins C _ => ClsT K C ∧ n ∈ ["int", "bool", "str", "tuple", "list", "dict"] ∧ P (.bl false)
   | _ => False)
 | [x, .raw (.ref C)] => (match tyN x with
  | some t => ClsT K C ∧ t ∈ ["NoneType", "int", "bool", "str", "tuple", "list", "dict"] ∧ P (.bl false)
  | none => match x with
   | .ins C' _ => C' = C ∧ ClsT K C ∧ P (.bl true)
   | _ => False)
 | _ => False
theorem tyN_rep {K : PySem.W.Frag} {O H} {x : PV} {v : V} {t : String} (h : Rep K O H x v) (e : tyN x = some t) : TyX K H v (.type t) := by
 cases x <;> unfold tyN at e <;> cases e
 ·rw [h.non_]; exact .base .non
 ·rw [h.bl_]; exact .base (.bl _)
 ·rw [h.int_]; exact .base (.int _)
 ·rw [h.str_]; exact .base (.str _)
 ·obtain ⟨a, vs, rfl, q, rr⟩ := h.tup_
  rcases q with ⟨_, q | ⟨o, q⟩⟩ | ⟨o, its, n, q1, q2, _⟩
  ·exact .base (.tup q)
  ·exact .fTuple q
  ·exact .kTuple q1 q2
 ·obtain ⟨a, vs, rfl, n, q, rr⟩ := h.lst_; exact .base (.lst q)
 ·obtain ⟨a, o, rfl, n, q⟩ := h.scr_; exact .base (.frz q)
 ·unfold Rep at h; obtain ⟨a, ws, rfl, n, q, _⟩ := h; exact .base (.dK q)
theorem zc_isi : CallR X (.builtin "isinstance") (r1 X.K (rIsI X.K)) := by
 refine CallR.weak (call_isi (X := X)) fun xs H Q h => ?_
 obtain ⟨O, ps, P, tr, hx, h, k⟩ := h
 unfold rIsI at h
 split at h
 ·obtain ⟨v, w, rfl, r, r'⟩ := hx.two
  cases r'.raw_
  split at h
  ·rename_i t et
   obtain ⟨b, hb, h⟩ := h
   exact ⟨_, _, _, _, b, rfl, .ty _, tyN_rep r et, kit_ty hb, k.bl h⟩
  ·split at h
   ·obtain ⟨a, dx, ws, rfl, n, q, rr⟩ := r.ins_
    obtain ⟨T, hn, h⟩ := h
    exact ⟨_, _, _, _, false, rfl, .ty _, .base (.ins q T.cl T.ha T.hn T.htk T.hm), T.ty _ hn, k.bl h⟩
   ·cases h
 ·obtain ⟨v, w, rfl, r, r'⟩ := hx.two
  cases r'.raw_
  split at h
  ·rename_i t et
   obtain ⟨T, hn, h⟩ := h
   exact ⟨_, _, _, _, false, rfl, .own _, tyN_rep r et, T.no _ hn, k.bl h⟩
  ·split at h
   ·obtain ⟨rfl, T, h⟩ := h
    obtain ⟨a, dx, ws, rfl, n, q, rr⟩ := r.ins_
    exact ⟨_, _, _, _, true, rfl, .own _, .base (.ins q T.cl T.ha T.hn T.htk T.hm), T.own, k.bl h⟩
   ·cases h
 ·cases h
theorem call_reprD (hg : X.A.guards = some []) (hu : X.A.units + 64 < cLine) : CallR X (.builtin "repr") (fun xs H Q => ∃ v d, xs = [v] ∧ Dp X.K H v d ∧ d.showable = true ∧ d.hasDict = false ∧ d.depth ≤ 60 ∧ d.shown.length ≤ sizeLine ∧ Q (.str d.shown) H) := by
 intro pins s σ H xs us Q I r h
 obtain ⟨v, d, rfl, hd, hs, hn, hdep, hz, q⟩ := h
 obtain ⟨u, rfl, ru⟩ := vals1 r
 obtain ⟨as, rd⟩ := Dp.reads I d v u hd ru
 have fin : ∀ h' tk tk', (∀ b o, s.heap.get? b = some o → h'.get? b = some o) → EP X pins σ Q (.str d.shown tk) { s with heap := h', toks := tk' } := fun h' tk tk' k => ⟨.str d.shown, H, I.kept k, ⟨_, rfl⟩, q⟩
 cases rd with
 | none => exact PySem.P.repr_of_none (fin s.heap _ _ fun _ _ e => e)
 | bool b => exact PySem.P.repr_of_bool (fin s.heap _ _ fun _ _ e => e)
 | int i t => exact PySem.P.repr_of_int (of_decide_eq_true hs) (fin s.heap _ _ fun _ _ e => e)
 | str x t => exact PySem.P.repr_of_str (fin s.heap _ _ fun _ _ e => e) hz
 | list h1 h2 h3 h4 => exact repr_of_reads' (Reads.list h1 h2 h3 h4) hs (PyData.noDict_hsm hn) hg (by omega) (fun _ _ e => e) (fun h' u tk k => fin h' _ _ k) hz
 | tuple h1 h2 h3 h4 => exact repr_of_reads' (Reads.tuple h1 h2 h3 h4) hs (PyData.noDict_hsm hn) hg (by omega) (fun _ _ e => e) (fun h' u tk k => fin h' _ _ k) hz
 | dict h1 h2 h3 h4 h5 => cases hd
def rRepr : R1p := fun ps P => match ps with
 | [x] => ∃ d, toD x = some d ∧ d.showable = true ∧ d.hasDict = false ∧ d.depth ≤ 60 ∧ d.shown.length ≤ sizeLine ∧ P (.str d.shown)
 | _ => False
theorem zc_repr (hg : X.A.guards = some []) (hu : X.A.units + 64 < cLine) : CallR X (.builtin "repr") (r1 X.K rRepr) := by
 refine CallR.weak (call_reprD hg hu) fun xs H Q h => ?_
 obtain ⟨O, ps, P, tr, hx, h, k⟩ := h
 unfold rRepr at h
 split at h
 ·obtain ⟨d, h1, h2, h3, h4, h5, h⟩ := h
  obtain ⟨v, rfl, r⟩ := hx.one
  exact ⟨v, d, rfl, Rep.dp _ _ _ r h1, h2, h3, h4, h5, k.str h⟩
 ·cases h
def encD (x : PV) : PyData := (toD x).getD .none
theorem toDs_map : ∀ {xs : List PV} {ds : List PyData}, toDs xs = some ds → ds = xs.map encD
 | [], _, e => by unfold toDs at e; cases e; rfl
 | x :: xs, _, e => by
  obtain ⟨d, r, rfl, h1, h2⟩ := toDs_cons e
  rw [List.map_cons, ← toDs_map h2]
  unfold encD; rw [h1]; rfl
def ValR (K : PySem.W.Frag) (O : Addr → Prop) (H : Hp) (u : Value) (x : PV) : Prop := ∃ v, RelV v u ∧ Rep K O H x v
theorem each_val {K : PySem.W.Frag} {O H} : ∀ {xs : List PV} {vs : List V} {us : List Value}, Reps K O H xs vs → Vals vs us → PySem.W.EachIs (ValR K O H) us xs
 | [], _, _, h, r => by cases h.inv0; cases r; exact .nil
 | x :: xs, _, _, h, r => by
  obtain ⟨v, us, rfl, r1, t⟩ := h.inv
  cases r with
  | cons r2 t2 => exact .cons ⟨v, r2, r1⟩ (each_val t t2)
theorem val_each {K : PySem.W.Frag} {O H} : ∀ {xs : List PV} {us : List Value}, PySem.W.EachIs (ValR K O H) us xs → ∃ vs, Reps K O H xs vs ∧ Vals vs us
 | _, _, .nil => ⟨[], .nil, .nil⟩
 | _, _, .cons ⟨v, h1, h2⟩ t => by
  obtain ⟨vs, q1, q2⟩ := val_each t
  exact ⟨v :: vs, .cons h2 q1, .cons h1 q2⟩
theorem each_reads {K : PySem.W.Frag} {O H} {pins s σ} (I : Inv X pins σ H s) (hK : K = X.K) : ∀ {xs : List PV} {vs : List V} {us : List Value} {ds : List PyData}, Reps K O H xs vs → Vals vs us → toDs xs = some ds → PySem.W.EachIs (fun u x => ∃ as, Reads s.heap u (encD x) as) us xs
 | [], _, _, _, h, r, e => by cases h.inv0; cases r; exact .nil
 | x :: xs, _, _, _, h, r, e => by
  subst hK
  obtain ⟨v, us, rfl, r1, t⟩ := h.inv
  obtain ⟨d, ds, rfl, h1, h2⟩ := toDs_cons e
  cases r with
  | cons r2 t2 =>
   refine .cons ?_ (each_reads I rfl t t2 h2)
   have e' : encD x = d := by unfold encD; rw [h1]; rfl
   rw [e']
   exact Dp.reads I d v _ (Rep.dp _ _ _ r1 h1) r2
def rSortD : R1p := fun ps P => match ps with
 | [.lst xs] => ∃ ds, toDs xs = some ds ∧ PySem.W.AllAlike ds ∧ PySem.W.Sortable ds ∧ (∀ x ∈ xs, (encD x).depth ≤ 50) ∧ xs.length ≤ sizeLine ∧ P (.lst (xs.mergeSort (PySem.W.dataLe false encD)))
 | [.tup xs] => False
 | _ => False
theorem zc_sorted (hu : X.A.units + 64 < cLine) : CallR X (.builtin "sorted") (r1 X.K rSortD) := by
 intro pins s σ H vs us Q I r h
 obtain ⟨O, ps, P, tr, hx, h, k⟩ := h
 unfold rSortD at h
 split at h
 ·rename_i xs
  obtain ⟨ds, e, hal, hso, hdp, hz, h⟩ := h
  obtain ⟨v, rfl, rv⟩ := hx.one
  obtain ⟨a, ws, rfl, na, q, rr⟩ := rv.lst_
  obtain ⟨u, rfl, ru⟩ := vals1 r
  cases ru
  obtain ⟨its, rits, hl, hzz⟩ := I.list (SqL.of q)
  have em := toDs_map e
  rw [em] at hal hso
  refine PySem.W.sorted_data (R := ValR X.K O H) (enc := encD) hl.isList (each_val rr rits) (each_reads I rfl rr rits e) hal hso hz (fun b hb => by have := hdp b hb; omega) fun out ho eo => ?_
  obtain ⟨ys, r3, r4⟩ := val_each eo
  obtain ⟨c, hc⟩ := sortedAll_at s.heap its out.toArray
  have fr : H (s.heap.objs.size + 1) = none := I.hok.fresh (Nat.le_succ _)
  refine ⟨.ref (s.heap.objs.size + 1), upd H (s.heap.objs.size + 1) (.lst ys), I.laid (t' := s.toks) (fun b o e => sortedAll_old e) (Nat.le_succ _) ⟨?_, out, c, r4, hc⟩, rfl, k.newL h tr r3 fr⟩
  rw [r3.len, List.length_mergeSort]; exact hz
 ·cases h
 ·cases h
end
structure Gr (H H' : Hp) : Prop where
 keep : ∀ b o, H b = some o → (∀ ps, o ≠ .tbl ps) → H' b = some o
 live : ∀ b, ¬ Nw H b → ¬ Nw H' b
section
variable {K : PySem.W.Frag} {T : List (Addr × Str)} {F O : Addr → Prop} {σ σ' : St} {η η' : EP'} {H H' : Hp} {i : Nat} {x : PV} {v : V} {a : Addr} {o : Ow}
theorem Gr.car (g : Gr H H') : Car O O H H' := fun a o n e t => ⟨g.keep a o e t, n⟩
theorem Gr.ext (g : Gr H H') : Ext σ η σ η H H' := ⟨fun b o e _ t => g.keep b o e t, g.live, fun _ z => .inl z, fun o e => ⟨o, e, rfl⟩⟩
theorem Gr.same (s : Same H H') : Gr H H' := ⟨fun b o e _ => s b o e, (Ext.same (σ := []) (η := []) s).live⟩
theorem Rs.gr (R : Rs K T F σ η H) (g : Gr H H') (tb : LamX.Tabs T H') : Rs K T F σ η H' := by
 have c : Car (Oof F σ η) (Oof F σ η) H H' := g.car
 refine ⟨R.len, fun i x e => ?_, fun i o e => ?_, R.nd, fun a h => g.live a (R.tr a h), tb⟩
 ·obtain ⟨v, h1, h2⟩ := R.va i x e
  exact ⟨v, h1, h2.car c⟩
 ·obtain ⟨a, h1, h2, h3⟩ := R.ow i o e
  refine ⟨a, h1, h2.car c ?_, h3⟩
  cases o with
  | l xs => obtain ⟨vs, q, _⟩ := h2; rw [q]; exact g.keep _ _ q nofun
  | o C fs => obtain ⟨dx, ws, q, _⟩ := h2; rw [q]; exact g.keep _ _ q nofun
  | d kvs => obtain ⟨ws, q, _⟩ := h2; rw [q]; exact g.keep _ _ q nofun
theorem own_put {b : Addr} {o' : Ow} (e : η[i]? = some (Sl.ow o)) : IsOwn σ (η.set i (.ow o')) b ↔ IsOwn σ η b := by
 have hi : i < η.length := (List.getElem?_eq_some_iff.mp e).1
 constructor
 ·rintro ⟨j, p, h1, h2⟩
  by_cases q : j = i
  ·subst q; exact ⟨j, o, h1, e⟩
  ·rw [ne_set q] at h2; exact ⟨j, p, h1, h2⟩
 ·rintro ⟨j, p, h1, h2⟩
  by_cases q : j = i
  ·subst q; exact ⟨j, o', h1, by rw [List.getElem?_set_self hi]⟩
  ·exact ⟨j, p, h1, by rw [ne_set q]; exact h2⟩
theorem Rs.put {o' : Ow} (R : Rs K T F σ η H) (e : η[i]? = some (Sl.ow o)) (s : σ[i]? = some (some (V.ref a))) (c : Car (Oof F σ η) (Oof F σ η) H H') (oth : ∀ b, b ≠ a → IsOwn σ η b → H' b = H b) (tr : Trk F H') (tb : LamX.Tabs T H')
  (h : OwAt K (Oof F σ η) H' a o') : Rs K T F σ (η.set i (.ow o')) H' := by
 have hi : i < η.length := (List.getElem?_eq_some_iff.mp e).1
 have m : ∀ b, Oof F σ (η.set i (.ow o')) b → Oof F σ η b := Oof_mono fun b z => (own_put e).mp z
 refine ⟨by simpa using R.len, fun j y q => ?_, fun j p q => ?_, fun j k p p' b e1 e2 e3 e4 => ?_, tr, tb⟩
 ·have hj : j ≠ i := fun z => by subst z; cases at_set q
  rw [ne_set hj] at q
  obtain ⟨w, h1, h2⟩ := R.va j y q
  exact ⟨w, h1, (h2.car c).mono m⟩
 ·by_cases hj : j = i
  ·subst hj
   cases at_set q
   obtain ⟨b, h1, h2, h3⟩ := R.ow j o e
   rw [s] at h1; cases h1
   exact ⟨a, s, h.mono m, h3⟩
  ·rw [ne_set hj] at q
   obtain ⟨b, h1, h2, h3⟩ := R.ow j p q
   refine ⟨b, h1, (h2.car c (oth b ?_ ⟨j, p, h1, q⟩)).mono m, h3⟩
   rintro rfl
   exact hj (R.nd j i p o b q e h1 s)
 ·have f : ∀ {j p}, (η.set i (.ow o'))[j]? = some (Sl.ow p) → ∃ p', η[j]? = some (Sl.ow p') := fun {j p} q => by
   by_cases hj : j = i
   ·rw [hj]; exact ⟨o, e⟩
   ·rw [ne_set hj] at q; exact ⟨p, q⟩
  obtain ⟨q1, f1⟩ := f e1
  obtain ⟨q2, f2⟩ := f e2
  exact R.nd j k q1 q2 b f1 f2 e3 e4
theorem Tabs.upd {a : Addr} {u w : HO} (t : LamX.Tabs T H) (h : H a = some w) (n1 : ∀ ps, w ≠ .tbl ps) (n2 : ∀ φ, w ≠ .ext φ) : LamX.Tabs T (upd H a u) := fun p hp => by
 obtain ⟨ps, h1, h2, h3⟩ := t p hp
 refine ⟨ps, by rw [upd_ne (fun z => n1 ps (by rw [z] at h1; exact Option.some.inj (h.symm.trans h1)))]; exact h1, h2, fun pos cv hc => ?_⟩
 obtain ⟨c, e1, e2⟩ := h3 pos cv hc
 refine ⟨c, e1, ?_⟩
 rw [upd_ne (fun z => by rw [z] at e2; exact n2 _ (Option.some.inj (h.symm.trans e2)))]
 exact e2
theorem Rs.write {o' : Ow} {u w : HO} (R : Rs K T F σ η H) (e : η[i]? = some (Sl.ow o)) (s : σ[i]? = some (some (V.ref a))) (hw : H a = some w) (n1 : ∀ ps, w ≠ .tbl ps) (n2 : ∀ φ, w ≠ .ext φ) (n3 : ∀ ps, u ≠ .tbl ps)
  (h : Car (Oof F σ η) (Oof F σ η) H (upd H a u) → OwAt K (Oof F σ η) (upd H a u) a o') : Rs K T F σ (η.set i (.ow o')) (upd H a u) ∧ Ext σ η σ (η.set i (.ow o')) H (upd H a u) := by
 have own : IsOwn σ η a := ⟨i, o, s, e⟩
 have c : Car (Oof F σ η) (Oof F σ η) H (upd H a u) := fun b q n hb _ => ⟨by rw [upd_ne (fun z => n (by rw [z]; exact .inr own))]; exact hb, n⟩
 refine ⟨R.put e s c (fun b n _ => upd_ne n) (fun b hb => ?_) (Tabs.upd R.tb hw n1 n2) (h c), fun b q hb n _ => ?_, fun b hb => ?_, fun b z => .inl ((own_put e).mp z), fun p q => ?_⟩
 ·exact live_upd n3 (R.tr b hb)
 ·rw [upd_ne (fun z => n (by rw [z]; exact own))]; exact hb
 ·exact live_upd n3 hb
 ·by_cases z : (0 : Nat) = i
  ·rw [z]; exact ⟨o, e, rfl⟩
  ·rw [ne_set z] at q; exact ⟨p, q, rfl⟩
end
section
variable {X : Cx} {T : List (Addr × Str)} {e o : Expr} {es : List Expr} {te ta tb : TEp} {t : TAp} {pos : Pos} {st : Stmt} {rest : List Stmt} {t1 t2 : TSp}
def tSeqP (t u : TSp) : TSp := fun D η => t { D with nx := fun η' => u D η' } η
theorem zs_cons (h1 : PS X st (upS X.K T t1)) (h2 : PSs X rest (upS X.K T t2)) : PSs X (st :: rest) (upS X.K T (tSeqP t1 t2)) := by
 refine PSs.weak (pss_cons h1 h2) fun D σ H q => ?_
 obtain ⟨F, η, D', R, h, k1, k2, k3, k4⟩ := q
 refine ⟨F, η, _, R, h, fun η' σ' H' q e1 R1 => ?_, k2, k3, k4⟩
 exact ⟨F, η', D', R1, q, fun η'' σ'' H'' q' e2 R2 => k1 _ _ _ q' (e1.trans e2) R2, fun η'' σ'' H'' q' e2 R2 => k2 _ _ _ q' (e1.trans e2) R2, fun η'' σ'' H'' q' e2 R2 => k3 _ _ _ q' (e1.trans e2) R2, fun x η'' σ'' v H'' q' e2 R2 r => k4 _ _ _ _ _ q' (e1.trans e2) R2 r⟩
theorem zs_one (h1 : PS X st (upS X.K T t1)) : PSs X [st] (upS X.K T t1) := pss_one h1
def tNextP : TSp := fun D η => D.nx η
theorem zs_nil : PSs X [] (upS X.K T tNextP) := by
 refine PSs.weak pss_nil fun D σ H q => ?_
 obtain ⟨F, η, D', R, h, k1, k2, k3, k4⟩ := q
 exact k1 _ _ _ h .refl R
def tNevP : TSp := fun _ _ => False
def tDropP (te : TEp) : TSp := fun D η => te η fun _ η1 => D.nx η1
def tRetP (te : TEp) : TSp := fun D η => te η D.rt
theorem z_ret (he : PE X e (up X.K T te)) : PS X (.Return (some e) pos) (upS X.K T (tRetP te)) := by
 refine PS.weak (ps_ret he) fun D σ H q => ?_
 obtain ⟨F, η, D', R, h, k1, k2, k3, k4⟩ := q
 exact ⟨F, η, _, R, h, fun x η1 v H1 h1 e1 R1 r => k4 _ _ _ _ _ h1 e1 R1 r⟩
def tRetNP : TSp := fun D η => D.rt .non η
def tIfSP (c : TTp) (t u : TSp) : TSp := fun D η => c η fun b η1 => if b = true then t D η1 else u D η1
theorem z_if {c : Expr} {a b : List Stmt} {tc : TTp} (hc : PT X c (upB X.K T tc)) (ha : PSs X a (upS X.K T t1)) (hb : PSs X b (upS X.K T t2)) : PS X (.If c a b pos) (upS X.K T (tIfSP tc t1 t2)) := by
 refine PS.weak (ps_if hc ha hb) fun D σ H q => ?_
 obtain ⟨F, η, D', R, h, k1, k2, k3, k4⟩ := q
 refine ⟨F, η, _, R, h, fun x η1 H1 h1 e1 R1 => ?_⟩
 cases x with
 | true =>
  simp only [if_true] at h1 ⊢
  exact ⟨F, η1, D', R1, h1, fun η'' σ'' H'' q' e2 R2 => k1 _ _ _ q' (e1.trans e2) R2, fun η'' σ'' H'' q' e2 R2 => k2 _ _ _ q' (e1.trans e2) R2, fun η'' σ'' H'' q' e2 R2 => k3 _ _ _ q' (e1.trans e2) R2, fun x η'' σ'' v H'' q' e2 R2 r => k4 _ _ _ _ _ q' (e1.trans e2) R2 r⟩
 | false =>
  simp only [Bool.false_eq_true, if_false] at h1 ⊢
  exact ⟨F, η1, D', R1, h1, fun η'' σ'' H'' q' e2 R2 => k1 _ _ _ q' (e1.trans e2) R2, fun η'' σ'' H'' q' e2 R2 => k2 _ _ _ q' (e1.trans e2) R2, fun η'' σ'' H'' q' e2 R2 => k3 _ _ _ q' (e1.trans e2) R2, fun x η'' σ'' v H'' q' e2 R2 r => k4 _ _ _ _ _ q' (e1.trans e2) R2 r⟩
def tSetP (i : Nat) (te : TEp) : TSp := fun D η => te η fun x η1 => D.nx (η1.set i (.va x))
theorem z_set {i : Nat} {x : Str} {pos' : Pos} (hN : X.N.Nodup) (hi : X.N[i]? = some x) (hx : Loc X.env.scope x) (he : PE X e (up X.K T te)) (hs : swapsWith e (some (.Name x pos')) pos.line X.env = pure false := by rfl) (hf : X.fn x = true ∨ X.env.scope.names.lookup x = some .local := by first | exact .inl rfl | exact .inr rfl | assumption) :
  PS X (.Assign [.Name x pos'] e pos) (upS X.K T (tSetP i te)) := by
 refine PS.weak (ps_set hN hi hx he hs hf) fun D σ H q => ?_
 obtain ⟨F, η, D', R, h, k1, k2, k3, k4⟩ := q
 exact ⟨F, η, _, R, h, fun x η1 v H1 h1 e1 R1 r => k1 _ _ _ h1 (e1.trans .setv) (R1.setv r)⟩
abbrev TGp := PV → EP' → (EP' → Prop) → Prop
abbrev TGsp := List PV → EP' → (EP' → Prop) → Prop
def upG (K : PySem.W.Frag) (T : List (Addr × Str)) (g : TGp) : TG := fun v σ H Q => ∃ F η x P, Rs K T F σ η H ∧ Rep K (Oof F σ η) H x v ∧ g x η P ∧ ∀ η' σ' H', P η' → Ext σ η σ' η' H H' → Rs K T F σ' η' H' → Q σ' H'
def upGs (K : PySem.W.Frag) (T : List (Addr × Str)) (g : TGsp) : TGs := fun vs σ H Q => ∃ F η xs P, Rs K T F σ η H ∧ Reps K (Oof F σ η) H xs vs ∧ g xs η P ∧ ∀ η' σ' H', P η' → Ext σ η σ' η' H H' → Rs K T F σ' η' H' → Q σ' H'
theorem PG.weak {tg : Expr} {t t' : TG} (h : PG X tg t) (w : ∀ v σ H Q, t' v σ H Q → t v σ H Q) : PG X tg t' := by
 obtain ⟨r⟩ := h
 exact ⟨fun pins s σ H v u Q I rv q => r pins s σ H v u Q I rv (w _ _ _ _ q)⟩
theorem PGs.weak {tg : List Expr} {t t' : TGs} (h : PGs X tg t) (w : ∀ v σ H Q, t' v σ H Q → t v σ H Q) : PGs X tg t' := by
 obtain ⟨r⟩ := h
 exact ⟨fun pins s σ H v u Q I rv q => r pins s σ H v u Q I rv (w _ _ _ _ q)⟩
def gNameP (i : Nat) : TGp := fun x η P => P (η.set i (.va x))
theorem zg_name {i : Nat} {x : Str} (hN : X.N.Nodup) (hi : X.N[i]? = some x) (hx : Loc X.env.scope x) (hf : X.fn x = true ∨ X.env.scope.names.lookup x = some .local := by first | exact .inl rfl | exact .inr rfl | assumption) : PG X (.Name x pos) (upG X.K T (gNameP i)) := by
 refine PG.weak (pg_name hN hi hx hf) fun v σ H Q q => ?_
 obtain ⟨F, η, x, P, R, r, h, k⟩ := q
 exact k _ _ _ h .setv (R.setv r)
def gNilP : TGsp := fun xs η P => xs = [] ∧ P η
def gConsP (t : TGp) (u : TGsp) : TGsp := fun xs η P => match xs with
 | x :: r => t x η fun η1 => u r η1 P
 | [] => False
theorem zgs_nil : PGs X [] (upGs X.K T gNilP) := by
 refine PGs.weak pgs_nil fun v σ H Q q => ?_
 obtain ⟨F, η, x, P, R, r, h, k⟩ := q
 rw [h.1] at r
 exact ⟨r.inv0, k _ _ _ h.2 .refl R⟩
theorem zgs_cons {t : TGp} {u : TGsp} (h1 : PG X e (upG X.K T t)) (h2 : PGs X es (upGs X.K T u)) (pf : PGs X (e :: es) (gCons (upG X.K T t) (upGs X.K T u))) : PGs X (e :: es) (upGs X.K T (gConsP t u)) := by
 refine PGs.weak pf fun v σ H Q q => ?_
 obtain ⟨F, η, x, P, R, r, h, k⟩ := q
 unfold gConsP at h
 split at h
 ·obtain ⟨v, us, rfl, r1, r2⟩ := r.inv
  refine ⟨v, us, rfl, F, η, _, _, R, r1, h, fun η' σ' H' h' e1 R1 => ⟨F, η', _, P, R1, r2.car e1.car, h', fun η'' σ'' H'' h'' e2 R2 => k _ _ _ h'' (e1.trans e2) R2⟩⟩
 ·cases h
def gTupP (n : Nat) (t : TGsp) : TGp := fun x η P => match x with
 | .tup xs => xs.length = n ∧ t xs η P
 | _ => False
theorem zg_tup {k n : Nat} {t : TGsp} (pf : PG X (.Tuple es k pos) (gTup X.K n (upGs X.K T t))) : PG X (.Tuple es k pos) (upG X.K T (gTupP n t)) := by
 refine PG.weak pf fun v σ H Q q => ?_
 obtain ⟨F, η, x, P, R, r, h, k⟩ := q
 unfold gTupP at h
 split at h
 ·obtain ⟨a, vs, rfl, t, r⟩ := r.tup_
  exact ⟨a, vs, rfl, t.sq, by rw [r.len]; exact h.1, F, η, _, P, R, r, h.2, k⟩
 ·cases h
def tAsgP (te : TEp) (g : TGp) : TSp := fun D η => te η fun x η1 => g x η1 D.nx
theorem z_asg {tg : Expr} {g : TGp} (he : PE X e (up X.K T te)) (hg : PG X tg (upG X.K T g)) (hs : swapsWithSole [tg] e pos.line X.env = pure false := by rfl) (hw : swappedStores [tg] e X.env = pure none := by rfl) (h1 : (assignEach [tg] X.env).map (·.2) = [assign tg X.env] := by rfl) : PS X (.Assign [tg] e pos) (upS X.K T (tAsgP te g)) := by
 refine PS.weak (ps_asg he hg hs hw h1) fun D σ H q => ?_
 obtain ⟨F, η, D', R, h, k1, k2, k3, k4⟩ := q
 exact ⟨F, η, _, R, h, fun x η1 v H1 h1 e1 R1 r => ⟨F, η1, x, _, R1, r, h1, fun η' σ' H' h' e2 R2 => k1 _ _ _ h' (e1.trans e2) R2⟩⟩
def gSubP (i : Nat) (ti : TEp) : TGp := fun x η P => (∃ o, η[i]? = some (Sl.ow o)) ∧ ti η fun k η1 => match η1[i]? with
 | some (.ow (.l xs)) => ∃ kk j, k = .int kk ∧ ixN xs.length kk = some j ∧ P (η1.set i (.ow (.l (xs.set j x))))
 | _ => False
theorem zg_sub {i : Nat} {ix : Expr} {ti : TEp} (ho : PE X o (tVar i)) (hi : PE X ix (up X.K T ti)) (pf : PG X (.Subscript o ix pos) (gSub (tVar i) (up X.K T ti) rSetL)) : PG X (.Subscript o ix pos) (upG X.K T (gSubP i ti)) := by
 refine PG.weak pf fun v σ H Q q => ?_
 obtain ⟨F, η, x, P, R, r, ⟨⟨oo, ho⟩, h⟩, k⟩ := q
 obtain ⟨b, hw, _, _⟩ := R.ow i _ ho
 refine ⟨_, hw, F, η, _, R, h, fun y η1 u H1 h1 e1 R1 r1 => ?_⟩
 split at h1
 ·rename_i xs e
  obtain ⟨kk, j, rfl, hj, h1⟩ := h1
  obtain ⟨a, s, ⟨vs, q1, q2⟩, nf⟩ := R1.ow i _ e
  rw [hw] at s; cases s
  refine ⟨b, vs, kk, j, rfl, r1.int_, q1, by rw [q2.len]; exact hj, ?_⟩
  have rr := r.car e1.car
  obtain ⟨W, E⟩ := R1.write (o' := .l (xs.set j x)) (u := .lst (vs.set j v)) e hw q1 nofun nofun nofun fun c => ⟨_, upd_same, (q2.set j rr).car c⟩
  exact k _ _ _ h1 (e1.trans E) W
 ·cases h1
end
section
variable {K : PySem.W.Frag} {T : List (Addr × Str)} {F : Addr → Prop} {σ : St} {η : EP'} {H H' : Hp} {i : Nat} {x : PV} {v : V} {a : Addr} {o : Ow}
def With (F : Addr → Prop) (a : Addr) : Addr → Prop := fun b => F b ∨ b = a
abbrev TFp := EP' → (List PV → EP' → Prop) → Prop
def upF (K : PySem.W.Frag) (T : List (Addr × Str)) (tp : TFp) : TE := fun σ H Q => ∃ F η P, Rs K T F σ η H ∧ tp η P ∧ ∀ xs η' a vs H', P xs η' → Ext σ η σ η' H H' → Rs K T (With F a) σ η' H' → Nw H a → ¬ F a → H' a = some (.lst vs) → Reps K (Oof (With F a) σ η') H' xs vs → Q (.ref a) H'
theorem Rs.shrink {F' : Addr → Prop} (R : Rs K T F σ η H) (h : ∀ b, F' b → F b) : Rs K T F' σ η H := by
 have m : ∀ b, Oof F' σ η b → Oof F σ η b := fun b z => z.elim (fun z => .inl (h b z)) .inr
 refine ⟨R.len, fun i x e => ?_, fun i o e => ?_, R.nd, fun a z => R.tr a (h a z), R.tb⟩
 ·obtain ⟨v, h1, h2⟩ := R.va i x e
  exact ⟨v, h1, h2.mono m⟩
 ·obtain ⟨a, h1, h2, h3⟩ := R.ow i o e
  exact ⟨a, h1, h2.mono m, fun z => h3 (h a z)⟩
theorem Rs.add {p : Addr} {o : HO} (R : Rs K T F σ η H) (hp : H p = none) (nt : ∀ ps, o ≠ .tbl ps) : Rs K T (With F p) σ η (upd H p o) := by
 have c : Car (Oof F σ η) (Oof (With F p) σ η) H (upd H p o) := fun b q n hb _ => ⟨(Same.new hp) b q hb, fun z => by
  rcases z with (z | z) | z
  ·exact n (.inl z)
  ·rw [z, hp] at hb; cases hb
  ·exact n (.inr z)⟩
 refine ⟨R.len, fun i x e => ?_, fun i o e => ?_, R.nd, fun a z => ?_, R.tb.ext (Same.new hp)⟩
 ·obtain ⟨v, h1, h2⟩ := R.va i x e
  exact ⟨v, h1, h2.car c⟩
 ·obtain ⟨a, h1, h2, h3⟩ := R.ow i o e
  have na : a ≠ p := fun z => R.trO a (.inr ⟨i, o, h1, e⟩) (Nw.of (by rw [z]; exact hp))
  refine ⟨a, h1, h2.car c (upd_ne na), fun z => z.elim h3 na⟩
 ·rcases z with z | z
  ·exact R.tr.same (Same.new hp) a z
  ·rw [z]; exact nw_same nt
theorem car_add {p : Addr} {o : HO} (hp : H p = none) : Car (Oof F σ η) (Oof (With F p) σ η) H (upd H p o) := fun b q n hb _ => ⟨(Same.new hp) b q hb, fun z => by
  rcases z with (z | z) | z
  ·exact n (.inl z)
  ·rw [z, hp] at hb; cases hb
  ·exact n (.inr z)⟩
theorem Rs.seto (R : Rs K T (With F a) σ η H) (nf : ¬ F a) (h : OwAt K (Oof (With F a) σ η) H a o) (hi : i < η.length) : Rs K T F (σ.set i (some (.ref a))) (η.set i (.ow o)) H := by
 have m : ∀ b, Oof F (σ.set i (some (.ref a))) (η.set i (.ow o)) b → Oof (With F a) σ η b := by
  rintro b (z | ⟨j, p, h1, h2⟩)
  ·exact .inl (.inl z)
  ·by_cases hj : j = i
   ·subst hj
    cases at_set h1
    exact .inl (.inr rfl)
   ·rw [ne_set hj] at h1 h2
    exact .inr ⟨j, p, h1, h2⟩
 have hs : i < σ.length := by rw [R.len]; exact hi
 refine ⟨by simpa using R.len, fun j y e => ?_, fun j p e => ?_, fun j k p p' b e1 e2 e3 e4 => ?_, fun b z => R.tr b (.inl z), R.tb⟩
 ·have hj : j ≠ i := fun z => by subst z; cases at_set e
  rw [ne_set hj] at e ⊢
  obtain ⟨w, h1, h2⟩ := R.va j y e
  exact ⟨w, h1, h2.mono m⟩
 ·by_cases hj : j = i
  ·subst hj
   cases at_set e
   exact ⟨a, by rw [List.getElem?_set_self hs], h.mono m, nf⟩
  ·rw [ne_set hj] at e ⊢
   obtain ⟨b, h1, h2, h3⟩ := R.ow j p e
   exact ⟨b, h1, h2.mono m, fun z => h3 (.inl z)⟩
 ·by_cases hj : j = i
  ·by_cases hk : k = i
   ·exact hj.trans hk.symm
   ·exfalso
    subst hj
    cases at_set e3
    rw [ne_set hk] at e2 e4
    obtain ⟨b, h1, h2, h3⟩ := R.ow k _ e2
    rw [e4] at h1; cases h1
    exact h3 (.inr rfl)
  ·by_cases hk : k = i
   ·exfalso
    subst hk
    cases at_set e4
    rw [ne_set hj] at e1 e3
    obtain ⟨b, h1, h2, h3⟩ := R.ow j _ e1
    rw [e3] at h1; cases h1
    exact h3 (.inr rfl)
   ·rw [ne_set hj] at e1 e3
    rw [ne_set hk] at e2 e4
    exact R.nd j k _ _ b e1 e2 e3 e4
theorem Ext.seto {σ0 : St} {η0 : EP'} {H0 : Hp} (e : Ext σ0 η0 σ η H0 H) (hn : Nw H0 a) (h0 : (0 : Nat) ≠ i) : Ext σ0 η0 (σ.set i (some (.ref a))) (η.set i (.ow o)) H0 H := by
 refine ⟨e.keep, e.live, fun b z => ?_, fun p q => ?_⟩
 rotate_left
 ·rw [ne_set h0] at q ⊢
  exact e.fst p q
 obtain ⟨j, p, h1, h2⟩ := z
 by_cases hj : j = i
 ·subst hj
  cases at_set h1
  exact .inr hn
 ·rw [ne_set hj] at h1 h2
  exact e.new b ⟨j, p, h1, h2⟩
end
section
variable {X : Cx} {T : List (Addr × Str)} {e o : Expr} {es : List Expr} {te ta tb : TEp} {t : TAp} {tf : TFp} {pos : Pos}
def tValP (tf : TFp) : TEp := fun η P => tf η fun xs η1 => P (.lst xs) η1
theorem z_val (h : PE X e (upF X.K T tf)) : PE X e (up X.K T (tValP tf)) := by
 refine PE.weak h fun σ H Q q => ?_
 obtain ⟨F, η, P, R, h, k⟩ := q
 refine ⟨F, η, _, R, h, fun xs η' a vs H' h1 e1 R1 hn nf hv r => ?_⟩
 refine k _ _ _ _ h1 e1 (R1.shrink fun b z => .inl z) ?_
 unfold Rep
 refine ⟨a, vs, rfl, fun z => ?_, hv, r.mono fun b z => z.elim (fun z => .inl (.inl z)) .inr⟩
 rcases z with z | ⟨j, p, h1, h2⟩
 ·exact nf z
 ·obtain ⟨b, q1, q2, q3⟩ := R1.ow j p h2
  rw [h1] at q1; cases q1
  exact q3 (.inr rfl)
def tLstFP (t : TAp) : TFp := fun η P => t η fun xs η1 => xs.length ≤ sizeLine ∧ P xs η1
theorem zf_lst (h : PA X es (upA X.K T t)) : PE X (.List es pos) (upF X.K T (tLstFP t)) := by
 refine PE.weak (pe_lst h) fun σ H Q q => ?_
 obtain ⟨F, η, P, R, h, k⟩ := q
 refine ⟨F, η, _, R, h, fun xs η1 vs H1 h1 e1 R1 r1' => ⟨by rw [r1'.len]; exact h1.1, fun p hp => ?_⟩⟩
 have hn : Nw H p := e1.nw (Nw.of hp)
 exact k xs η1 p vs _ h1.2 (e1.trans (.same (Same.new hp))) (R1.add hp nofun) hn (fun z => R.tr p z hn) upd_same (r1'.car (car_add hp))
def tSetFP (i : Nat) (tf : TFp) : TSp := fun D η => (0 : Nat) ≠ i ∧ tf η fun xs η1 => i < η1.length ∧ D.nx (η1.set i (.ow (.l xs)))
def tAppP (i : Nat) (te : TEp) : TSp := fun D η => (∃ xs, η[i]? = some (Sl.ow (.l xs))) ∧ te η fun x η1 => match η1[i]? with
 | some (.ow (.l xs)) => xs.length < sizeLine ∧ D.nx (η1.set i (.ow (.l (xs ++ [x]))))
 | _ => False
theorem z_app {i : Nat} {K0 : PySem.W.Frag} (hK : X.K = K0) (pf : PS X (.Expr o pos) (tDrop (tBM K0 "list" rAppend (tVar i) (tCons (up K0 T te) tNil)))) : PS X (.Expr o pos) (upS K0 T (tAppP i te)) := by
 subst hK
 refine PS.weak pf fun D σ H q => ?_
 obtain ⟨F, η, D', R, ⟨⟨oo, ho⟩, h⟩, k1, k2, k3, k4⟩ := q
 obtain ⟨b, hw, q0, _⟩ := R.ow i _ ho
 refine ⟨_, hw, ?_, F, η, _, R, h, fun y η1 u H1 h1 e1 R1 r1 => ?_⟩
 ·obtain ⟨vs, q1, q2⟩ := q0; exact .inl ⟨rfl, vs, SqL.of q1⟩
 ·split at h1
  ·rename_i xs e
   obtain ⟨a, s, ⟨vs, q1, q2⟩, nf⟩ := R1.ow i _ e
   rw [hw] at s; cases s
   refine ⟨b, vs, u, rfl, rfl, q1, by rw [q2.len]; exact h1.1, ?_⟩
   obtain ⟨W, E⟩ := R1.write (o' := .l (xs ++ [y])) (u := .lst (vs ++ [u])) e hw q1 nofun nofun nofun fun c => ⟨_, upd_same, (q2.app (.cons r1 .nil)).car c⟩
   exact k1 _ _ _ h1.2 (e1.trans E) W
  ·cases h1
end
section
variable {X : Cx} {T : List (Addr × Str)} {a b e o : Expr} {es : List Expr} {te ta tb : TEp} {t : TAp} {tf : TFp} {pos : Pos}
def strRep (x : Str) (n : Nat) : Str := ⟨((List.replicate n x.cps.toList).flatten).toArray⟩
theorem fold_app (c : Array Nat) : ∀ (n : Nat) (acc : Array Nat), (List.replicate n c).foldl (· ++ ·) acc = acc ++ ((List.replicate n c.toList).flatten).toArray
 | 0, acc => by simp
 | n + 1, acc => by
  rw [List.replicate_succ, List.foldl_cons, fold_app c n, List.replicate_succ, List.flatten_cons]
  apply Array.toList_inj.mp
  simp
theorem strRep_len (x : Str) (n : Nat) : (strRep x n).length = n * x.length := by
 show ((List.replicate n x.cps.toList).flatten).toArray.size = _
 rw [List.size_toArray, PyProof.Rows.lm_len_rep_flat]
 simp [Str.length]
def rMulS : R2p := fun x y P => match x, y with
 | .str z, .int n => 1 ≤ n ∧ n ≤ 1000 ∧ z.length ≤ 1000 ∧ P (.str (strRep z n.toNat))
 | _, _ => False
theorem zo_mulS : OpR X (binaryOp .Mult) (r2 X.K rMulS) := by
 intro pins s σ H x y v u Q I rx ry h
 obtain ⟨O, px, py, P, tr, hx, hy, h, k⟩ := h
 unfold rMulS at h
 split at h
 ·rename_i z n
  obtain ⟨h1, h2, h3, h⟩ := h
  cases hx.str_
  cases hy.int_
  obtain ⟨t, rfl⟩ := rx
  obtain ⟨t', rfl⟩ := ry
  have hn : ¬ n < 1 := by omega
  have hz : z.length * n.toNat ≤ 1000000 := by
   have := Nat.mul_le_mul h3 (show n.toNat ≤ 1000 by omega)
   omega
  refine PySem.P.mul_str (by rw [decide_eq_false (by omega), decide_eq_false (by omega)]; rfl) (fun _ _ => ?_) (fun _ _ => ?_) ?_
  ·have q : (1000 : Int) ≤ (2 ^ 63 - 1) / n := by
    apply Int.le_ediv_of_mul_le (by omega)
    omega
   omega
  ·exact decide_eq_false (by rw [sizeLine_eq]; omega)
  ·rw [if_neg hn]
   split
   ·rename_i hc
    have e : strRep z n.toNat = z := by
     rw [Bool.or_eq_true] at hc
     rcases hc with hc | hc
     ·have : n = 1 := by simpa using hc
      subst this
      show (⟨((List.replicate 1 z.cps.toList).flatten).toArray⟩ : Str) = z
      simp
     ·have h0 : z.length = 0 := by simpa using hc
      have : z.cps = #[] := by simpa [Str.length] using h0
      show (⟨((List.replicate _ z.cps.toList).flatten).toArray⟩ : Str) = z
      obtain ⟨c⟩ := z
      simp at this
      subst this
      simp
    exact ⟨.str z, H, I, ⟨_, rfl⟩, k.str (by rw [e] at h; exact h)⟩
   ·have e : (⟨(List.replicate n.toNat z.cps).foldl (· ++ ·) #[]⟩ : Str) = strRep z n.toNat := by
     unfold strRep
     rw [fold_app]
     simp
    rw [e]
    refine ⟨?_, .str _, H, I.tok _, ⟨_, rfl⟩, k.str h⟩
    rw [strRep_len, sizeLine_eq, Nat.mul_comm]; omega
 ·cases h
def rIxP : R2p := fun x y P => match x, y with
 | .lst xs, .int i => ∃ v, atI xs i = some v ∧ P v
 | .tup xs, .int i => ∃ v, atI xs i = some v ∧ P v
 | .scr ns, .int i => ∃ v, atI ns i = some v ∧ P (.int v)
 | .str z, .int i => z.length ≤ sizeLine ∧ ∃ c, atI z.cps.toList i = some c ∧ P (.str ⟨#[c]⟩)
 | _, _ => False
theorem atI_reps {K : PySem.W.Frag} {O H} {xs : List PV} {vs : List V} {i : Int} {x : PV} (h : Reps K O H xs vs) (e : atI xs i = some x) : ∃ v, atI vs i = some v ∧ Rep K O H x v := by
 unfold atI at e ⊢
 rw [h.len]
 cases q : ixN xs.length i with
 | none => rw [q] at e; cases e
 | some j =>
  rw [q] at e
  obtain ⟨v, h1, h2⟩ := h.get (i := j) (x := x) e
  exact ⟨v, h1, h2⟩
theorem IxR.weak {r r' : R2} (h : IxR X r) (w : ∀ x y H Q, r' x y H Q → r x y H Q) : IxR X r' := fun value slice pins s σ H x y v u Q I rx ry q hs => h value slice pins s σ H x y v u Q I rx ry (w _ _ _ _ q) hs
theorem zx_ix : IxR X (r2 X.K rIxP) := by
 refine IxR.weak (ix_seq (X := X)) fun x y H Q h => ?_
 obtain ⟨O, px, py, P, tr, hx, hy, h, k⟩ := h
 unfold rIxP at h
 split at h
 ·obtain ⟨w, e, h⟩ := h
  obtain ⟨a, vs, rfl, n, q, rr⟩ := hx.lst_
  obtain ⟨v, e1, r1⟩ := atI_reps rr e
  exact .inl ⟨a, vs, _, v, rfl, hy.int_, SqL.of q, e1, k _ _ _ h (Same.refl _) r1⟩
 ·obtain ⟨w, e, h⟩ := h
  obtain ⟨a, vs, rfl, q, rr⟩ := hx.tup_
  obtain ⟨v, e1, r1⟩ := atI_reps rr e
  exact .inr (.inl ⟨a, vs, _, v, rfl, hy.int_, q.sq, e1, k _ _ _ h (Same.refl _) r1⟩)
 ·obtain ⟨w, e, h⟩ := h
  obtain ⟨a, o, rfl, n, q⟩ := hx.scr_
  refine .inl ⟨a, _, _, .int w, rfl, hy.int_, .inl (.inr ⟨o, q⟩), ?_, k.int h⟩
  unfold atI at e ⊢
  rw [List.length_map]
  cases q : ixN _ _ with
  | none => rw [q] at e; cases e
  | some j =>
   rw [q] at e
   show (List.map V.int _)[j]? = _
   rw [List.getElem?_map, show _[j]? = some w from e]; rfl
 ·obtain ⟨hz, c, e, h⟩ := h
  cases hx.str_
  exact .inr (.inr ⟨_, _, c, rfl, hy.int_, hz, e, k.str h⟩)
 ·cases h
theorem z_ix (ha : PE X a (up X.K T ta)) (hb : PE X b (up X.K T tb)) (hs : PlainIx b := by exact fun _ _ => rfl) : PE X (.Subscript a b pos) (up X.K T (tOpP rIxP ta tb)) := by
 refine PE.weak (pe_ix zx_ix ha hb hs) fun σ H Q q => ?_
 obtain ⟨F, η, P, R, h, k⟩ := q
 refine ⟨F, η, _, R, h, fun x η1 v H1 h1 e1 R1 r1' => ⟨F, η1, _, R1, h1, fun y η2 w H2 h2 e2 R2' rw' => ?_⟩⟩
 exact ⟨Oof F σ η2, x, y, _, R2'.trO, r1'.car e2.car, rw', h2, fun z u H3 pz s rz => k z η2 u H3 pz ((e1.trans e2).trans (.same s)) (R2'.same s) rz⟩
def tIxOP (i : Nat) (ti : TEp) : TEp := fun η P => (∃ o, η[i]? = some (Sl.ow o)) ∧ ti η fun k η1 => match η1[i]? with
 | some (.ow (.l xs)) => ∃ kk v, k = .int kk ∧ atI xs kk = some v ∧ P v η1
 | _ => False
theorem z_ixO {i : Nat} (ho : PE X o (tVar i)) (hb : PE X b (up X.K T tb)) (hs : PlainIx b := by exact fun _ _ => rfl) : PE X (.Subscript o b pos) (up X.K T (tIxOP i tb)) := by
 refine PE.weak (pe_ix ix_list ho hb hs) fun σ H Q q => ?_
 obtain ⟨F, η, P, R, ⟨⟨oo, ho⟩, h⟩, k⟩ := q
 obtain ⟨b, hw, q0, _⟩ := R.ow i _ ho
 refine ⟨_, hw, F, η, _, R, h, fun y η1 u H1 h1 e1 R1 r1 => ?_⟩
 split at h1
 ·rename_i xs e
  obtain ⟨kk, v, rfl, hv, h1⟩ := h1
  obtain ⟨a, s, ⟨vs, q1, q2⟩, nf⟩ := R1.ow i _ e
  rw [hw] at s; cases s
  obtain ⟨w, e1', r1'⟩ := atI_reps q2 hv
  exact ⟨b, vs, kk, w, rfl, r1.int_, SqL.of q1, e1', k _ _ _ _ h1 e1 R1 r1'⟩
 ·cases h1
abbrev TOp := EP' → (Option Int → EP' → Prop) → Prop
def upO (K : PySem.W.Frag) (T : List (Addr × Str)) (tp : TOp) : TO := fun σ H Q => ∃ F η P, Rs K T F σ η H ∧ tp η P ∧ ∀ x η' H', P x η' → Ext σ η σ η' H H' → Rs K T F σ η' H' → Q x H'
def tNoPartP : TOp := fun η P => P none η
def tPartP (t : TEp) : TOp := fun η P => t η fun x η1 => match x with
 | .int i => P (some i) η1
 | _ => False
theorem PO.weak {e : Option Expr} {t t' : TO} (h : PO X e t) (w : ∀ σ H Q, t' σ H Q → t σ H Q) : PO X e t' := ⟨fun pins s σ H Q I q => h.run pins s σ H Q I (w _ _ _ q)⟩
theorem zp_none : PO X none (upO X.K T tNoPartP) := PO.weak po_none fun σ H Q q => by
 obtain ⟨F, η, P, R, h, k⟩ := q
 exact k _ _ _ h .refl R
theorem zp_some (h : PE X e (up X.K T te)) : PO X (some e) (upO X.K T (tPartP te)) := PO.weak (po_some h) fun σ H Q q => by
 obtain ⟨F, η, P, R, h, k⟩ := q
 refine ⟨F, η, _, R, h, fun x η1 v H1 h1 e1 R1 r => ?_⟩
 split at h1
 ·exact ⟨_, r.int_, k _ _ _ h1 e1 R1⟩
 ·cases h1
def cutP {α : Type} (xs : List α) (lo hi : Option Int) : List α := (xs.drop (HT.sIx xs.length 0 lo)).take (HT.sIx xs.length xs.length hi - HT.sIx xs.length 0 lo)
theorem cut_reps {K : PySem.W.Frag} {O H} {xs : List PV} {vs : List V} {lo hi} (h : Reps K O H xs vs) : Reps K O H (cutP xs lo hi) (cutV vs lo hi) := by
 unfold cutP cutV
 rw [h.len]
 exact (h.drop _).take _
def rSlP : PV → Option Int → Option Int → (PV → Prop) → Prop := fun x lo hi P => match x with
 | .lst xs => P (.lst (cutP xs lo hi))
 | .scr ns => P (.lst ((cutP ns lo hi).map .int))
 | .str z => z.length ≤ sizeLine ∧ P (.str (cutS z lo hi))
 | .tup xs => ¬ (HT.sIx xs.length 0 lo = 0 ∧ HT.sIx xs.length xs.length hi = xs.length) ∧ P (.tup (cutP xs lo hi))
 | _ => False
theorem SlR.weak {r r' : V → Option Int → Option Int → Hp → VK → Prop} (h : SlR X r) (w : ∀ x lo hi H Q, r' x lo hi H Q → r x lo hi H Q) : SlR X r' := fun pins s σ H x v vl vu lo hi sl Q I rx hs pl pu q => h pins s σ H x v vl vu lo hi sl Q I rx hs pl pu (w _ _ _ _ _ q)
theorem ints_reps {K : PySem.W.Frag} {O H} : ∀ ns : List Int, Reps K O H (ns.map .int) (ns.map V.int)
 | [] => .nil
 | _ :: r => .cons rep_int (ints_reps r)
theorem cut_ints (ns : List Int) (lo hi) : cutV (ns.map V.int) lo hi = (cutP ns lo hi).map V.int := by
 unfold cutP cutV
 rw [List.length_map, ← List.map_drop, ← List.map_take]
theorem zl_sl : SlR X (fun x lo hi H Q => ∃ O px P, Trk O H ∧ Rep X.K O H px x ∧ rSlP px lo hi P ∧ Out X.K O H P Q) := by
 refine SlR.weak ((sl_list (X := X)).or (sl_str.or sl_tup)) fun x lo hi H Q h => ?_
 obtain ⟨O, px, P, tr, hx, h, k⟩ := h
 unfold rSlP at h
 split at h
 ·obtain ⟨a, vs, rfl, n, q, rr⟩ := hx.lst_
  exact .inl ⟨a, vs, rfl, SqL.of q, fun p hp => k.newL h tr (cut_reps rr) hp⟩
 ·obtain ⟨a, o, rfl, n, q⟩ := hx.scr_
  refine .inl ⟨a, _, rfl, .inl (.inr ⟨o, q⟩), fun p hp => ?_⟩
  rw [cut_ints]
  exact k.newL h tr (ints_reps _) hp
 ·cases hx.str_
  exact .inr (.inl ⟨_, rfl, h.1, k.str h.2⟩)
 ·obtain ⟨a, vs, rfl, q, rr⟩ := hx.tup_
  exact .inr (.inr ⟨a, vs, rfl, q.sq, by rw [rr.len]; exact h.1, fun p hp => k.newT h.2 tr (cut_reps rr) hp⟩)
 ·cases h
def tSliceP (te : TEp) (tl th : TOp) : TEp := fun η P => te η fun x η1 => tl η1 fun l η2 => th η2 fun u η3 => rSlP x l u fun z => P z η3
theorem z_slice {lo hi : Option Expr} {tl th : TOp} {p2 : Pos} (he : PE X e (up X.K T te)) (hl : PO X lo (upO X.K T tl)) (hu : PO X hi (upO X.K T th)) : PE X (.Subscript e (.Slice lo hi none p2) pos) (up X.K T (tSliceP te tl th)) := by
 refine PE.weak (pe_slice zl_sl he hl hu) fun σ H Q q => ?_
 obtain ⟨F, η, P, R, h, k⟩ := q
 refine ⟨F, η, _, R, h, fun x η1 v H1 h1 e1 R1 r1' => ⟨F, η1, _, R1, h1, fun l η2 H2 h2 e2 R2' => ⟨F, η2, _, R2', h2, fun u η3 H3 h3 e3 R3 => ?_⟩⟩⟩
 exact ⟨Oof F σ η3, x, _, R3.trO, (r1'.car e2.car).car e3.car, h3, fun z u H4 pz s rz => k z η3 u H4 pz (((e1.trans e2).trans e3).trans (.same s)) (R3.same s) rz⟩
def strsOf : List PV → Option (List Str)
 | [] => some []
 | .str b :: r => (strsOf r).map (b :: ·)
 | _ => none
theorem strsOf_rep {K : PySem.W.Frag} {O H} : ∀ {xs : List PV} {bs : List Str} {vs : List V}, strsOf xs = some bs → Reps K O H xs vs → vs = bs.map V.str
 | [], _, _, e, h => by unfold strsOf at e; cases e; exact h.inv0
 | x :: xs, _, _, e, h => by
  obtain ⟨v, us, rfl, r, t⟩ := h.inv
  cases x <;> unfold strsOf at e <;> try (cases e)
  cases q : strsOf xs with
  | none => rw [q] at e; cases e
  | some r' =>
   rw [q] at e; cases e
   rw [r.str_, strsOf_rep q t]; rfl
def tJoinP (ta tb : TEp) : TEp := fun η P => ta η fun x η1 => (∃ z, x = .str z) ∧ tb η1 fun y η2 => match x, y with
 | .str z, .lst xs => ∃ ys, strsOf xs = some ys ∧ (ys.map (·.length)).sum + ys.length * z.length ≤ 16777216 ∧ P (.str (Txt.join z ys)) η2
 | _, _ => False
theorem z_join {K0 : PySem.W.Frag} (hK : X.K = K0)
  (pf : PE X e (tM1 (fun x xs H Q => ∃ a p, ∃ ys : List Str, x = .str a ∧ xs = [.ref p] ∧ (SqL K0 H p (ys.map V.str) ∨ SqT K0 H p (ys.map V.str)) ∧ (ys.map (·.length)).sum + ys.length * a.length ≤ 16777216 ∧ Q (.str (Txt.join a ys)) H) (up K0 T ta) (up K0 T tb))) : PE X e (up K0 T (tJoinP ta tb)) := by
 subst hK
 refine PE.weak pf fun σ H Q q => ?_
 obtain ⟨F, η, P, R, h, k⟩ := q
 refine ⟨F, η, _, R, h, fun x η1 v H1 h1 e1 R1 r1' => ?_⟩
 obtain ⟨⟨z, rfl⟩, h1⟩ := h1
 cases r1'.str_
 refine ⟨⟨z, rfl⟩, F, η1, _, R1, h1, fun y η2 w H2 h2 e2 R2' rw' => ?_⟩
 split at h2
 ·rename_i z' xs q
  cases q
  obtain ⟨ys, e, hz, h2⟩ := h2
  obtain ⟨p, vs, rfl, n, q, rr⟩ := rw'.lst_
  have := strsOf_rep e rr
  subst this
  exact ⟨_, p, ys, rfl, rfl, .inl (SqL.of q), hz, k _ _ _ _ h2 (e1.trans e2) R2' rep_str⟩
 ·cases h2
end
def Itr8 (K : PySem.W.Frag) (O : Addr → Prop) (J : It) (xs : List PV) (H : Hp) : Prop :=
 ∀ O' H', Trk O' H' → Car O O' H H' → (∀ b, ¬ Nw H b → ¬ Nw H' b) → ∀ i : Nat, (∀ x, xs[i]? = some x → J.go i H' ∧ ∀ v H'', J.yld i H' v H'' → Same H' H'' ∧ Rep K O' H'' x v) ∧ (xs.length = i → J.stop i H')
abbrev TIp := EP' → (List PV → EP' → Prop) → Prop
def upI (K : PySem.W.Frag) (T : List (Addr × Str)) (tp : TIp) : TI := fun σ H R => ∃ F η P, Rs K T F σ η H ∧ tp η P ∧ ∀ xs η' J H', P xs η' → Ext σ η σ η' H H' → Rs K T F σ η' H' → Itr8 K (Oof F σ η') J xs H' → R J H'
section
variable {X : Cx} {T : List (Addr × Str)} {a b e o tg : Expr} {es : List Expr} {te ta tb : TEp} {t : TAp} {tf : TFp} {pos : Pos}
theorem PI.weak {t t' : TI} (h : PI X tg e t) (w : ∀ σ H Q, t' σ H Q → t σ H Q) : PI X tg e t' := ⟨fun pins s σ H Q I q => h.run pins s σ H Q I (w _ _ _ q)⟩
def iListP (te : TEp) : TIp := fun η P => te η fun x η1 => match x with
 | .lst xs => P xs η1
 | .scr ns => P (ns.map .int) η1
 | _ => False
def iTupP (te : TEp) : TIp := fun η P => te η fun x η1 => match x with
 | .tup xs => P xs η1
 | _ => False
def iStrP (te : TEp) : TIp := fun η P => te η fun x η1 => match x with
 | .str z => P (z.cps.toList.map fun c => .str ⟨#[c]⟩) η1
 | _ => False
def rangeP (lo : Int) (n : Nat) : List PV := (List.range n).map fun (i : Nat) => .int (lo + i)
def iRng1P (te : TEp) : TIp := fun η P => te η fun x η1 => match x with
 | .int j => -(2 ^ 62) ≤ j ∧ j < 2 ^ 62 ∧ P (rangeP 0 j.toNat) η1
 | _ => False
theorem it_list {K : PySem.W.Frag} {O H} {a : Addr} {xs : List PV} {vs : List V} (n : ¬ O a) (h : H a = some (.lst vs)) (r : Reps K O H xs vs) : Itr8 K O (Itl K a) xs H := fun O' H' tr c _ i => by
 have h' := (c a _ n h nofun).1
 have r' := r.car c
 have uniq : ∀ ys, SqL K H' a ys → ys = vs ∨ True := fun _ _ => .inr trivial
 refine ⟨fun x e => ?_, fun e => ⟨vs, SqL.of h', by rw [r'.len]; exact Nat.le_of_eq e⟩⟩
 obtain ⟨v, e1, r1⟩ := r'.get e
 refine ⟨⟨vs, v, SqL.of h', e1⟩, fun w H'' y => ?_⟩
 obtain ⟨e2, y⟩ := y
 subst e2
 have := y vs (SqL.of h')
 rw [e1] at this; cases this
 exact ⟨Same.refl _, r1⟩
theorem zi_list (h : PE X e (up X.K T te)) : PI X tg e (upI X.K T (iListP te)) := by
 refine PI.weak (pi_list h) fun σ H Q q => ?_
 obtain ⟨F, η, P, R, h, k⟩ := q
 refine ⟨F, η, _, R, h, fun x η1 v H1 h1 e1 R1 r1 => ?_⟩
 split at h1
 ·obtain ⟨a, vs, rfl, n, q, rr⟩ := r1.lst_
  exact ⟨a, rfl, ⟨vs, SqL.of q⟩, k _ _ _ _ h1 e1 R1 (it_list n q rr)⟩
 ·rename_i ns
  obtain ⟨a, o, rfl, n, q⟩ := r1.scr_
  refine ⟨a, rfl, ⟨_, .inl (.inr ⟨o, q⟩)⟩, k _ _ _ _ h1 e1 R1 fun O' H' tr c _ i => ?_⟩
  have h' : SqL X.K H' a (ns.map V.int) := .inl (.inr ⟨o, (c a _ n q nofun).1⟩)
  refine ⟨fun x e => ?_, fun e => ⟨_, h', by simp at e ⊢; omega⟩⟩
  have e' : (ns.map V.int)[i]? = (ns[i]?).map V.int := List.getElem?_map
  rw [List.getElem?_map] at e
  cases q : ns[i]? with
  | none => rw [q] at e; cases e
  | some j =>
   rw [q] at e e'; cases e
   refine ⟨⟨_, _, h', e'⟩, fun w H'' y => ?_⟩
   obtain ⟨e2, y⟩ := y
   subst e2
   have := y _ h'
   rw [e'] at this; cases this
   exact ⟨Same.refl _, rep_int⟩
 ·cases h1
theorem TupAt.inj_car {K : PySem.W.Frag} {O O' H H'} {a : Addr} {vs : List V} (t : TupAt K O H a vs) (c : Car O O' H H') : SqT K H' a vs := (t.car c).sq
theorem zi_tup (h : PE X e (up X.K T te)) : PI X tg e (upI X.K T (iTupP te)) := by
 refine PI.weak (pi_tup h) fun σ H Q q => ?_
 obtain ⟨F, η, P, R, h, k⟩ := q
 refine ⟨F, η, _, R, h, fun x η1 v H1 h1 e1 R1 r1 => ?_⟩
 split at h1
 ·obtain ⟨a, vs, rfl, q, rr⟩ := r1.tup_
  refine ⟨a, rfl, ⟨vs, q.sq⟩, k _ _ _ _ h1 e1 R1 fun O' H' tr c _ i => ?_⟩
  have h' := q.inj_car c
  have r' := rr.car c
  refine ⟨fun x e => ?_, fun e => ⟨vs, h', by rw [r'.len]; exact Nat.le_of_eq e⟩⟩
  obtain ⟨v, e1, r1⟩ := r'.get e
  refine ⟨⟨vs, v, h', e1⟩, fun w H'' y => ?_⟩
  obtain ⟨e2, y⟩ := y
  subst e2
  have := y vs h'
  rw [e1] at this; cases this
  exact ⟨Same.refl _, r1⟩
 ·cases h1
theorem zi_str (h : PE X e (up X.K T te)) : PI X tg e (upI X.K T (iStrP te)) := by
 refine PI.weak (pi_str h) fun σ H Q q => ?_
 obtain ⟨F, η, P, R, h, k⟩ := q
 refine ⟨F, η, _, R, h, fun x η1 v H1 h1 e1 R1 r1 => ?_⟩
 split at h1
 ·rename_i z
  cases r1.str_
  refine ⟨z, rfl, k _ _ _ _ h1 e1 R1 fun O' H' tr c _ i => ⟨fun x e => ?_, fun e => ?_⟩⟩
  ·rw [List.getElem?_map] at e
   cases q : z.cps.toList[i]? with
   | none => rw [q] at e; cases e
   | some c0 =>
    rw [q] at e; cases e
    have q' : z.cps[i]? = some c0 := by rw [← Array.getElem?_toList]; exact q
    refine ⟨(Array.getElem?_eq_some_iff.mp q').1, fun w H'' y => ?_⟩
    obtain ⟨e2, c1, e3, rfl⟩ := y
    subst e2
    rw [q'] at e3; cases e3
    exact ⟨Same.refl _, rep_str⟩
  ·show z.cps.size ≤ i
   simp at e; omega
 ·cases h1
theorem it_range {K : PySem.W.Frag} {O H} {lo : Int} {n : Nat} : Itr8 K O (Itr lo n) (rangeP lo n) H := fun O' H' tr c _ i => by
 refine ⟨fun x e => ?_, fun e => ?_⟩
 ·unfold rangeP at e
  rw [List.getElem?_map] at e
  by_cases hi : i < n
  ·rw [List.getElem?_range hi] at e
   cases e
   refine ⟨hi, fun w H'' y => ?_⟩
   obtain ⟨e2, rfl⟩ := y
   subst e2
   exact ⟨Same.refl _, rep_int⟩
  ·rw [List.getElem?_eq_none (by simpa using hi)] at e; cases e
 ·show n ≤ i
  simp [rangeP] at e; omega
theorem zi_range1 {p : Pos} (hg : Gl X "range") (hm : X.mg "range" = none) (ha : PE X a (up X.K T te)) (hs : starEach [a] X.env = [(false, eval a X.env)] := by rfl) : PI X tg (.Call (.Name "range" p) [a] [] pos) (upI X.K T (iRng1P te)) := by
 refine PI.weak (pi_range1 hg hm (pa_cons ha pa_nil hs) hs) fun σ H Q q => ?_
 obtain ⟨F, η, P, R, h, k⟩ := q
 refine ⟨F, η, _, R, h, fun x η1 v H1 h1 e1 R1 r1 => ?_⟩
 split at h1
 ·exact ⟨_, by rw [r1.int_], h1.1, h1.2.1, k _ _ _ _ h1.2.2 e1 R1 it_range⟩
 ·cases h1
def iRng2P (te tb : TEp) : TIp := fun η P => te η fun x η1 => tb η1 fun y η2 => match x, y with
 | .int i, .int j => -(2 ^ 62) ≤ i ∧ i < 2 ^ 62 ∧ -(2 ^ 62) ≤ j ∧ j < 2 ^ 62 ∧ P (rangeP i (j - i).toNat) η2
 | _, _ => False
theorem zi_range2 {p : Pos} (hg : Gl X "range") (hm : X.mg "range" = none) (ha : PE X a (up X.K T ta)) (hb : PE X b (up X.K T tb)) (hs : starEach [a, b] X.env = [(false, eval a X.env), (false, eval b X.env)] := by rfl) (hs2 : starEach [b] X.env = [(false, eval b X.env)] := by rfl)
  (pf : PI X tg (.Call (.Name "range" p) [a, b] [] pos) (iRng2 (tCons (up X.K T ta) (tCons (up X.K T tb) tNil)))) : PI X tg (.Call (.Name "range" p) [a, b] [] pos) (upI X.K T (iRng2P ta tb)) := by
 refine PI.weak pf fun σ H Q q => ?_
 obtain ⟨F, η, P, R, h, k⟩ := q
 refine ⟨F, η, _, R, h, fun x η1 v H1 h1 e1 R1 r1 => ⟨F, η1, _, R1, h1, fun y η2 w H2 h2 e2 R2' r2 => ?_⟩⟩
 split at h2
 ·exact ⟨_, _, by rw [(r1.car e2.car).int_, r2.int_], ⟨h2.1, h2.2.1, h2.2.2.1, h2.2.2.2.1⟩, k _ _ _ _ h2.2.2.2.2 (e1.trans e2) R2' it_range⟩
 ·cases h2
def tForP (ti : TIp) (g : TGp) (tb : TSp) : TSp := fun D η => ti η fun xs η1 => ∃ Inv : Nat → EP' → Prop, Inv 0 η1 ∧
 (∀ i x η2, xs[i]? = some x → Inv i η2 → g x η2 fun η3 => tb { D with nx := Inv (i + 1), ct := Inv (i + 1), bk := D.nx } η3) ∧ (∀ η2, Inv xs.length η2 → D.nx η2)
theorem z_for {iter : Expr} {body : List Stmt} {ti : TIp} {g : TGp} {tb : TSp} (hp : PassesOwn (model X.prog X.w) X.A X.env X.xe) (hc : X.calm = true) (hi : PI X tg iter (upI X.K T ti)) (hg : PG X tg (upG X.K T g)) (hb : PSs X body (upS X.K T tb))
  (hs : ∀ x, foldedSetIterable iter X.env x = pure x := by intro _; rfl) : PS X (.For tg iter body [] pos) (upS X.K T (tForP ti g tb)) := by
 refine PS.weak (ps_for hp hc hi hg hb hs) fun D σ H q => ?_
 obtain ⟨F, η, D', R, h, k1, k2, k3, k4⟩ := q
 refine ⟨F, η, _, R, h, fun xs η1 J H1 h1 e1 R1 hJ => ?_⟩
 obtain ⟨Inv, i0, step, fin⟩ := h1
 refine ⟨fun i m σ2 H2 => m = xs.length - i ∧ i ≤ xs.length ∧ ∃ η2, Inv i η2 ∧ Rs X.K T F σ2 η2 H2 ∧ Ext σ η1 σ2 η2 H1 H2, ⟨_, rfl, Nat.zero_le _, η1, i0, R1, .refl⟩, ?_⟩
 rintro i m σ2 H2 ⟨rfl, hi, η2, p, R2, e2⟩
 have it := hJ (Oof F σ2 η2) H2 R2.trO e2.car e2.live i
 by_cases hlt : i < xs.length
 ·refine .inr ⟨(it.1 xs[i] (by simp [hlt])).1, fun σ3 H3 => ∃ η3, Inv (i + 1) η3 ∧ Rs X.K T F σ3 η3 H3 ∧ Ext σ η1 σ3 η3 H1 H3, fun σ' H' ⟨η3, p', R', e'⟩ => ⟨xs.length - (i + 1), by omega, rfl, hlt, η3, p', R', e'⟩, fun v H3 y => ?_⟩
  obtain ⟨s, rep⟩ := (it.1 xs[i] (by simp [hlt])).2 v H3 y
  refine ⟨F, η2, _, _, R2.same s, rep, step i _ η2 (by simp [hlt]) p, fun η4 σ4 H4 h4 e4 R4 => ?_⟩
  have E := (e2.trans (.same s)).trans e4
  exact ⟨F, η4, _, R4, h4, fun η5 σ5 H5 h5 e5 R5 => ⟨η5, h5, R5, E.trans e5⟩, fun η5 σ5 H5 h5 e5 R5 => k1 _ _ _ h5 ((e1.trans E).trans e5) R5, fun η5 σ5 H5 h5 e5 R5 => ⟨η5, h5, R5, E.trans e5⟩, fun x η5 σ5 v H5 h5 e5 R5 r5 => k4 _ _ _ _ _ h5 ((e1.trans E).trans e5) R5 r5⟩
 ·have e : i = xs.length := by omega
  subst e
  exact .inl ⟨it.2 rfl, k1 _ _ _ (fin η2 p) (e1.trans e2) R2⟩
end
def wipeP (η : EP') : List Nat → EP'
 | [] => η
 | v :: vs => (wipeP η vs).set v .no
theorem wipeP_len (η : EP') : ∀ vs : List Nat, (wipeP η vs).length = η.length
 | [] => rfl
 | v :: vs => by unfold wipeP; rw [List.length_set, wipeP_len η vs]
theorem wipeP_out {η : EP'} {i : Nat} : ∀ {vs : List Nat}, i ∉ vs → (wipeP η vs)[i]? = η[i]?
 | [], _ => rfl
 | v :: vs, h => by
  unfold wipeP
  rw [List.getElem?_set_ne (fun e => h (by simp [e])), wipeP_out fun z => h (by simp [z])]
theorem wipeP_in {η : EP'} {i : Nat} {y : Sl} : ∀ {vs : List Nat}, i ∈ vs → (wipeP η vs)[i]? = some y → y = .no
 | v :: vs, h, e => by
  unfold wipeP at e
  by_cases q : i = v
  ·subst q; exact at_set e
  ·rw [ne_set q] at e
   exact wipeP_in (by simpa [q] using h) e
theorem wipe_in {σ : St} {i : Nat} : ∀ {vs : List Nat}, i ∈ vs → (wipe σ vs)[i]? = if i < σ.length then some none else none
 | v :: vs, h => by
  unfold wipe
  by_cases q : i = v
  ·subst q
   by_cases hi : i < σ.length
   ·rw [if_pos hi, List.getElem?_set_self (by rw [wipe_length]; exact hi)]
   ·rw [if_neg hi, List.getElem?_eq_none (by rw [List.length_set, wipe_length]; omega)]
  ·rw [ne_set q]
   exact wipe_in (by simpa [q] using h)
theorem wipe_set {σ : St} {i : Nat} {v : Option V} {vs : List Nat} (h : i ∈ vs) : wipe (σ.set i v) vs = wipe σ vs := by
 apply List.ext_getElem?
 intro j
 by_cases hj : j ∈ vs
 ·rw [wipe_in hj, wipe_in hj, List.length_set]
 ·rw [wipe_out hj, wipe_out hj, ne_set fun e => hj (by rw [e]; exact h)]
theorem wipe_set_all {σ : St} {vs : List Nat} : L2.wipe (L2.wipe σ vs) vs = L2.wipe σ vs := by
 apply List.ext_getElem?
 intro j
 by_cases hj : j ∈ vs
 ·rw [wipe_in hj, wipe_in hj, wipe_length]
 ·rw [wipe_out hj]
theorem wipe_agree {σ σ' : St} {vs : List Nat} (h : wipe σ' vs = wipe σ vs) : σ'.length = σ.length ∧ ∀ j, j ∉ vs → σ'[j]? = σ[j]? := by
 refine ⟨by rw [← wipe_length σ' vs, h, wipe_length], fun j hj => ?_⟩
 rw [← wipe_out (σ := σ') hj, h, wipe_out hj]
section
variable {K : PySem.W.Frag} {T : List (Addr × Str)} {F : Addr → Prop} {σ σ' : St} {η : EP'} {H H' : Hp} {vs : List Nat}
theorem own_wipe (ag : ∀ j, j ∉ vs → σ'[j]? = σ[j]?) {b : Addr} (z : IsOwn σ' (wipeP η vs) b) : IsOwn σ η b := by
 obtain ⟨j, p, h1, h2⟩ := z
 by_cases hj : j ∈ vs
 ·cases wipeP_in hj h2
 ·rw [wipeP_out hj] at h2
  rw [ag j hj] at h1
  exact ⟨j, p, h1, h2⟩
theorem Rs.wipe (R : Rs K T F σ η H) (hl : σ'.length = σ.length) (ag : ∀ j, j ∉ vs → σ'[j]? = σ[j]?) : Rs K T F σ' (wipeP η vs) H := by
 have m : ∀ b, Oof F σ' (wipeP η vs) b → Oof F σ η b := Oof_mono fun b z => own_wipe ag z
 refine ⟨by rw [hl, R.len, wipeP_len], fun j y e => ?_, fun j o e => ?_, fun j k o o' a e1 e2 e3 e4 => ?_, R.tr, R.tb⟩
 ·have hj : j ∉ vs := fun z => nomatch wipeP_in z e
  rw [wipeP_out hj] at e
  obtain ⟨w, h1, h2⟩ := R.va j y e
  exact ⟨w, (ag j hj).trans h1, h2.mono m⟩
 ·have hj : j ∉ vs := fun z => nomatch wipeP_in z e
  rw [wipeP_out hj] at e
  obtain ⟨a, h1, h2, h3⟩ := R.ow j o e
  exact ⟨a, (ag j hj).trans h1, h2.mono m, h3⟩
 ·have hj : j ∉ vs := fun z => nomatch wipeP_in z e1
  have hk : k ∉ vs := fun z => nomatch wipeP_in z e2
  rw [wipeP_out hj] at e1
  rw [wipeP_out hk] at e2
  rw [ag j hj] at e3
  rw [ag k hk] at e4
  exact R.nd j k o o' a e1 e2 e3 e4
theorem Ext.wipe (ag : ∀ j, j ∉ vs → σ'[j]? = σ[j]?) : Ext σ η σ' (wipeP η vs) H H := ⟨fun _ _ e _ _ => e, fun _ e => e, fun b z => .inl (own_wipe ag z), fun o e => by
 have hj : 0 ∉ vs := fun z => nomatch wipeP_in z e
 rw [wipeP_out hj] at e
 exact ⟨o, e, ag 0 hj⟩⟩
theorem Rs.updF {D : Addr} {us ws : List V} (R : Rs K T F σ η H) (hF : F D) (h : H D = some (.lst us)) : Rs K T F σ η (upd H D (.lst ws)) := by
 have c : Car (Oof F σ η) (Oof F σ η) H (upd H D (.lst ws)) := fun b q n hb _ => ⟨by rw [upd_ne (fun z => n (.inl (by rw [z]; exact hF)))]; exact hb, n⟩
 refine ⟨R.len, fun i x e => ?_, fun i o e => ?_, R.nd, fun b hb => ?_, Tabs.upd R.tb h nofun nofun⟩
 ·obtain ⟨v, h1, h2⟩ := R.va i x e
  exact ⟨v, h1, h2.car c⟩
 ·obtain ⟨a, h1, h2, h3⟩ := R.ow i o e
  exact ⟨a, h1, h2.car c (upd_ne fun z => h3 (by rw [z]; exact hF)), h3⟩
 ·exact live_upd nofun (R.tr b hb)
end
section
variable {X : Cx} {T : List (Addr × Str)} {a b e o tg elt iter : Expr} {es ifs : List Expr} {te ta tb : TEp} {t : TAp} {tf : TFp} {pos : Pos}
def upGw (K : PySem.W.Frag) (T : List (Addr × Str)) (vs : List Nat) (g : TGp) : TG := fun v σ H Q => ∃ F η x P, Rs K T F σ η H ∧ Rep K (Oof F σ η) H x v ∧ g x η P ∧ ∀ η' σ' H', P η' → L2.wipe σ' vs = L2.wipe σ vs → Ext σ η σ' η' H H' → Rs K T F σ' η' H' → Q σ' H'
def upGsw (K : PySem.W.Frag) (T : List (Addr × Str)) (vs : List Nat) (g : TGsp) : TGs := fun us σ H Q => ∃ F η xs P, Rs K T F σ η H ∧ Reps K (Oof F σ η) H xs us ∧ g xs η P ∧ ∀ η' σ' H', P η' → L2.wipe σ' vs = L2.wipe σ vs → Ext σ η σ' η' H H' → Rs K T F σ' η' H' → Q σ' H'
theorem zgw_name {vs : List Nat} {i : Nat} (hv : i ∈ vs) (pf : PG X tg (gName i)) : PG X tg (upGw X.K T vs (gNameP i)) := by
 refine PG.weak pf fun v σ H Q q => ?_
 obtain ⟨F, η, x, P, R, r, h, k⟩ := q
 exact k _ _ _ h (wipe_set hv) .setv (R.setv r)
theorem zgsw_nil {vs : List Nat} : PGs X [] (upGsw X.K T vs gNilP) := by
 refine PGs.weak pgs_nil fun v σ H Q q => ?_
 obtain ⟨F, η, x, P, R, r, h, k⟩ := q
 rw [h.1] at r
 exact ⟨r.inv0, k _ _ _ h.2 rfl .refl R⟩
theorem zgsw_cons {vs : List Nat} {t : TGp} {u : TGsp} (pf : PGs X (e :: es) (gCons (upGw X.K T vs t) (upGsw X.K T vs u))) : PGs X (e :: es) (upGsw X.K T vs (gConsP t u)) := by
 refine PGs.weak pf fun v σ H Q q => ?_
 obtain ⟨F, η, x, P, R, r, h, k⟩ := q
 unfold gConsP at h
 split at h
 ·obtain ⟨v, us, rfl, r1, r2⟩ := r.inv
  refine ⟨v, us, rfl, F, η, _, _, R, r1, h, fun η' σ' H' h' w1 e1 R1 => ⟨F, η', _, P, R1, r2.car e1.car, h', fun η'' σ'' H'' h'' w2 e2 R2 => k _ _ _ h'' (w2.trans w1) (e1.trans e2) R2⟩⟩
 ·cases h
theorem zgw_tup {vs : List Nat} {k n : Nat} {t : TGsp} (pf : PG X (.Tuple es k pos) (gTup X.K n (upGsw X.K T vs t))) : PG X (.Tuple es k pos) (upGw X.K T vs (gTupP n t)) := by
 refine PG.weak pf fun v σ H Q q => ?_
 obtain ⟨F, η, x, P, R, r, h, k⟩ := q
 unfold gTupP at h
 split at h
 ·obtain ⟨a, vs, rfl, t, r⟩ := r.tup_
  exact ⟨a, vs, rfl, t.sq, by rw [r.len]; exact h.1, F, η, _, P, R, r, h.2, k⟩
 ·cases h
def tYesP : TTp := fun η P => P true η
theorem PTs.weak {t t' : TT} (h : PTs X ifs t) (w : ∀ σ H Q, t' σ H Q → t σ H Q) : PTs X ifs t' := ⟨fun pins s σ H Q I q => h.run pins s σ H Q I (w _ _ _ q)⟩
theorem zts_nil : PTs X [] (upB X.K T tYesP) := PTs.weak pts_nil fun σ H Q q => by
 obtain ⟨F, η, P, R, h, k⟩ := q
 exact k _ _ _ h .refl R
theorem zts_one {c : Expr} {t : TTp} (h : PT X c (upB X.K T t)) : PTs X [c] (upB X.K T t) := pts_one h
def tLcP (ti : TIp) (g : TGp) (tt : TTp) (te : TEp) (vs : List Nat) : TFp := fun η P => ti η fun xs η1 => ∃ Inv : Nat → List PV → EP' → Prop, Inv 0 [] (wipeP η1 vs) ∧
 (∀ i x acc η2, xs[i]? = some x → Inv i acc η2 → g x (wipeP η2 vs) fun η3 => tt η3 fun b η4 => if b = true then te η4 fun y η5 => acc.length < sizeLine ∧ Inv (i + 1) (acc ++ [y]) (wipeP η5 vs) else Inv (i + 1) acc (wipeP η4 vs)) ∧
 (∀ acc η2, Inv xs.length acc η2 → P acc η2)
theorem lc_weak {K : PySem.W.Frag} {ti : TIp} {g : TGp} {tt : TTp} {te : TEp} {vs : List Nat} {σ : St} {H : Hp} {Q : VK} (q : upF K T (tLcP ti g tt te vs) σ H Q) : tLc (upI K T ti) (upGw K T vs g) (upB K T tt) (up K T te) vs σ H Q := by
 obtain ⟨F, η, P, R, h, k⟩ := q
 refine ⟨F, η, _, R, h, fun xs η1 J H1 h1 e1 R1 hJ D hD => ?_⟩
 obtain ⟨Inv, i0, step, fin⟩ := h1
 have hn : Nw H D := e1.nw (Nw.of hD)
 have nF : ¬ F D := fun z => R.tr D z hn
 have agw : ∀ j, j ∉ vs → (L2.wipe σ vs)[j]? = σ[j]? := fun j hj => wipe_out hj
 refine ⟨fun i m H2 => m = xs.length - i ∧ i ≤ xs.length ∧ ∃ acc us η2, Inv i acc η2 ∧ Rs K T (With F D) σ η2 H2 ∧ Ext σ η1 σ η2 H1 H2 ∧ H2 D = some (.lst us) ∧ Reps K (Oof (With F D) σ η2) H2 acc us, ⟨_, rfl, Nat.zero_le _, [], [], wipeP η1 vs, i0, (R1.add (o := .lst []) hD nofun).wipe rfl (fun _ _ => rfl), ?_, upd_same, .nil⟩, ?_⟩
 ·exact (Ext.same (Same.new hD)).trans (.wipe fun _ _ => rfl)
 rintro i m H2 ⟨rfl, hi, acc, us, η2, p, R2, e2, hd, ru⟩
 have Rb : Rs K T (With F D) (L2.wipe σ vs) (wipeP η2 vs) H2 := R2.wipe (wipe_length _ _) agw
 have eb : Ext σ η1 (L2.wipe σ vs) (wipeP η2 vs) H1 H2 := e2.trans (.wipe agw)
 have carD : Car (Oof F σ η1) (Oof (With F D) (L2.wipe σ vs) (wipeP η2 vs)) H1 H2 := fun b o n hb t => by
  refine ⟨((eb.car (F := F)) b o n hb t).1, fun z => ?_⟩
  rcases z with (z | z) | z
  ·exact n (.inl z)
  ·rw [z, hD] at hb; cases hb
  ·exact ((eb.car (F := F)) b o n hb t).2 (.inr z)
 have it := hJ _ H2 Rb.trO carD e2.live i
 by_cases hlt : i < xs.length
 ·refine .inr ⟨(it.1 xs[i] (by simp [hlt])).1, fun H3 => ∃ acc us η3, Inv (i + 1) acc η3 ∧ Rs K T (With F D) σ η3 H3 ∧ Ext σ η1 σ η3 H1 H3 ∧ H3 D = some (.lst us) ∧ Reps K (Oof (With F D) σ η3) H3 acc us,
   fun H' ⟨acc, us, η3, q1, q2, q3, q4, q5⟩ => ⟨xs.length - (i + 1), by omega, rfl, hlt, acc, us, η3, q1, q2, q3, q4, q5⟩, fun v H3 y => ?_⟩
  obtain ⟨s, rep⟩ := (it.1 xs[i] (by simp [hlt])).2 v H3 y
  refine ⟨With F D, wipeP η2 vs, _, _, Rb.same s, rep, step i _ acc η2 (by simp [hlt]) p, fun η4 σ4 H4 h4 w4 e4 R4 => ⟨by rw [w4]; exact wipe_set_all, With F D, η4, _, R4, h4, fun c η5 H5 h5 e5 R5 => ?_⟩⟩
  have E5 : Ext σ η1 σ4 η5 H1 H5 := ((eb.trans (.same s)).trans e4).trans e5
  have ag4 : ∀ j, j ∉ vs → σ[j]? = σ4[j]? := fun j hj => ((wipe_agree (w4.trans wipe_set_all)).2 j hj).symm
  have ln4 : σ.length = σ4.length := ((wipe_agree (w4.trans wipe_set_all)).1).symm
  cases c with
  | true =>
   simp only [if_true] at h5 ⊢
   refine ⟨With F D, η5, _, R5, h5, fun y η6 w H6 h6 e6 R6 r6 => ?_⟩
   have E6 := E5.trans e6
   have e36 : Ext (L2.wipe σ vs) (wipeP η2 vs) σ4 η6 H2 H6 := (((Ext.same s).trans e4).trans e5).trans e6
   have dk : H6 D = some (.lst us) := e36.keep D _ hd (fun z => by
    obtain ⟨j, p, z1, z2⟩ := z
    obtain ⟨a, q1, q2, q3⟩ := Rb.ow j p z2
    rw [z1] at q1; cases q1
    exact q3 (.inr rfl)) nofun
   have ru6 : Reps K (Oof (With F D) σ4 η6) H6 acc us := (ru.car ((Ext.wipe agw).car (F := With F D))).car (e36.car (F := With F D))
   refine ⟨us, dk, by rw [ru.len]; exact h6.1, acc ++ [y], us ++ [w], wipeP η6 vs, h6.2, (R6.updF (.inr rfl) dk).wipe ln4 ag4, ?_, upd_same, ?_⟩
   ·refine Ext.trans ⟨fun b o hb nb t => ?_, fun b hb => ?_, E6.new, E6.fst⟩ (Ext.wipe ag4)
    ·rw [upd_ne (fun z => by rw [z, hD] at hb; cases hb)]; exact E6.keep b o hb nb t
    ·exact live_upd nofun (E6.live b hb)
   ·have c7 : Car (Oof (With F D) σ4 η6) (Oof (With F D) σ4 η6) H6 (upd H6 D (.lst (us ++ [w]))) := fun b o n hb _ => ⟨by rw [upd_ne (fun z => n (.inl (.inr z)))]; exact hb, n⟩
    exact ((ru6.app (.cons r6 .nil)).car c7).car ((Ext.wipe (H := upd H6 D (.lst (us ++ [w]))) ag4).car (F := With F D))
  | false =>
   simp only [Bool.false_eq_true, if_false] at h5 ⊢
   have e35 : Ext (L2.wipe σ vs) (wipeP η2 vs) σ4 η5 H2 H5 := ((Ext.same s).trans e4).trans e5
   have dk : H5 D = some (.lst us) := e35.keep D _ hd (fun z => by
    obtain ⟨j, p, z1, z2⟩ := z
    obtain ⟨a, q1, q2, q3⟩ := Rb.ow j p z2
    rw [z1] at q1; cases q1
    exact q3 (.inr rfl)) nofun
   exact ⟨acc, us, wipeP η5 vs, h5, R5.wipe ln4 ag4, E5.trans (.wipe ag4), dk, ((ru.car ((Ext.wipe agw).car (F := With F D))).car (e35.car (F := With F D))).car ((Ext.wipe ag4).car (F := With F D))⟩
 ·have e : i = xs.length := by omega
  subst e
  exact .inl ⟨it.2 rfl, k acc η2 D us H2 (fin acc η2 p) (e1.trans e2) R2 hn nF hd ru⟩
theorem zf_lc {scope : Scope} {own : List (Str × Nat)} {ti : TIp} {g : TGp} {tt : TTp}
  (pf : PE X (.ListComp elt [⟨tg, iter, ifs, 0⟩] scope pos) (tLc (upI X.K T ti) (upGw X.K T (own.map (·.2)) g) (upB X.K T tt) (up X.K T te) (own.map (·.2)))) : PE X (.ListComp elt [⟨tg, iter, ifs, 0⟩] scope pos) (upF X.K T (tLcP ti g tt te (own.map (·.2)))) :=
 PE.weak pf fun σ H Q q => lc_weak q
end
abbrev SpP := List PV → (PV → Prop) → Prop
abbrev SpR := Ow → List PV → (PV → Ow → Prop) → Prop
def upSp (K : PySem.W.Frag) (T : List (Addr × Str)) (sp : SpP) : Sp := fun vs H Q _ => ∃ F args P, Trk F H ∧ LamX.Tabs T H ∧ Reps K F H args vs ∧ sp args P ∧ ∀ x v H', P x → Gr H H' → LamX.Tabs T H' → Rep K F H' x v → Q v H'
structure GrB (a : Addr) (H H' : Hp) : Prop where
 keep : ∀ b o, b ≠ a → H b = some o → (∀ ps, o ≠ .tbl ps) → H' b = some o
 live : ∀ b, ¬ Nw H b → ¬ Nw H' b
def upSpR (K : PySem.W.Frag) (T : List (Addr × Str)) (sp : SpR) : Sp := fun vs H Q _ => ∃ F a ws o args P, vs = .ref a :: ws ∧ ¬ F a ∧ Trk F H ∧ LamX.Tabs T H ∧ OwAt K (With F a) H a o ∧ Reps K (With F a) H args ws ∧ sp o args P ∧
 ∀ x o' v H', P x o' → GrB a H H' → LamX.Tabs T H' → OwAt K (With F a) H' a o' → Rep K (With F a) H' x v → Q v H'
def startP (n : Nat) (args : List PV) : EP' := args.map Sl.va ++ List.replicate (n - args.length) .no
section
variable {K : PySem.W.Frag} {T : List (Addr × Str)} {F : Addr → Prop} {H H' : Hp}
theorem start_of {N : List Str} {vs : List V} {i : Nat} {v : V} (h : vs[i]? = some v) : (start N vs)[i]? = some (some v) := by
 have hi : i < vs.length := (List.getElem?_eq_some_iff.mp h).1
 unfold L2.start
 rw [List.getElem?_append_left (by simpa using hi), List.getElem?_map, h]; rfl
theorem startP_va {n : Nat} {args : List PV} {i : Nat} {s : Sl} (h : (startP n args)[i]? = some s) : (∃ x, s = .va x ∧ args[i]? = some x) ∨ s = .no := by
 unfold startP at h
 by_cases hi : i < args.length
 ·rw [List.getElem?_append_left (by simpa using hi), List.getElem?_map] at h
  cases q : args[i]? with
  | none => rw [q] at h; cases h
  | some w => rw [q] at h; cases h; exact .inl ⟨w, rfl, rfl⟩
 ·rw [List.getElem?_append_right (by simpa using hi), List.getElem?_replicate] at h
  split at h
  ·cases h; exact .inr rfl
  ·cases h
theorem startP_noown {n : Nat} {args : List PV} {σ : St} {a : Addr} : ¬ IsOwn σ (startP n args) a := by
 rintro ⟨i, o, h1, h2⟩
 rcases startP_va h2 with ⟨x, e, _⟩ | e <;> cases e
theorem rs_start {N : List Str} {args : List PV} {vs : List V} (tr : Trk F H) (tb : LamX.Tabs T H) (r : Reps K F H args vs) (hl : args.length ≤ N.length) : Rs K T F (start N vs) (startP N.length args) H := by
 have m : ∀ b, Oof F (start N vs) (startP N.length args) b → F b := fun b z => z.elim id fun z => absurd z startP_noown
 refine ⟨?_, fun i x e => ?_, fun i o e => ?_, fun i j o o' a e => ?_, tr, tb⟩
 ·unfold L2.start startP
  simp [r.len]
 ·rcases startP_va e with ⟨y, q, hy⟩ | q
  ·cases q
   obtain ⟨v, h1, h2⟩ := r.get hy
   exact ⟨v, start_of h1, h2.mono m⟩
  ·cases q
 ·rcases startP_va e with ⟨y, q, _⟩ | q <;> cases q
 ·rcases startP_va e with ⟨y, q, _⟩ | q <;> cases q
def startR (n : Nat) (o : Ow) (args : List PV) : EP' := .ow o :: startP (n - 1) args
theorem rs_startR {x : Str} {N : List Str} {a : Addr} {o : Ow} {args : List PV} {ws : List V} (nf : ¬ F a) (tr : Trk F H) (tb : LamX.Tabs T H) (ho : OwAt K (With F a) H a o) (r : Reps K (With F a) H args ws) (hl : args.length ≤ N.length) :
  Rs K T F (start (x :: N) (.ref a :: ws)) (startR (N.length + 1) o args) H ∧ ∀ b, IsOwn (start (x :: N) (.ref a :: ws)) (startR (N.length + 1) o args) b → b = a := by
 have e0 : start (x :: N) (.ref a :: ws) = some (.ref a) :: start N ws := by
  unfold L2.start
  simp
 have e1 : startR (N.length + 1) o args = .ow o :: startP N.length args := by
  unfold startR
  simp
 rw [e0, e1]
 have own : ∀ b, IsOwn (some (V.ref a) :: start N ws) (Sl.ow o :: startP N.length args) b → b = a := by
  rintro b ⟨i, p, h1, h2⟩
  cases i with
  | zero => simp at h1; exact h1.symm
  | succ i =>
   simp at h2
   rcases startP_va h2 with ⟨y, q, _⟩ | q <;> cases q
 have m : ∀ b, Oof F (some (V.ref a) :: start N ws) (Sl.ow o :: startP N.length args) b → With F a b := fun b z => z.elim .inl fun z => .inr (own b z)
 refine ⟨⟨?_, fun i y e => ?_, fun i p e => ?_, fun i j p p' b e1 e2 e3 e4 => ?_, tr, tb⟩, own⟩
 ·unfold L2.start startP
  simp [r.len]
 ·cases i with
  | zero => simp at e
  | succ i =>
   simp at e
   rcases startP_va e with ⟨z, q, hy⟩ | q
   ·cases q
    obtain ⟨v, h1, h2⟩ := r.get hy
    exact ⟨v, by simpa using start_of h1, h2.mono m⟩
   ·cases q
 ·cases i with
  | zero =>
   simp at e
   subst e
   exact ⟨a, rfl, ho.mono m, nf⟩
  | succ i =>
   simp at e
   rcases startP_va e with ⟨z, q, hy⟩ | q <;> cases q
 ·have z : ∀ {i p}, (Sl.ow o :: startP N.length args)[i]? = some (Sl.ow p) → i = 0 := fun {i p} e => by
   cases i with
   | zero => rfl
   | succ i =>
    simp at e
    rcases startP_va e with ⟨z, q, hy⟩ | q <;> cases q
  rw [z e1, z e2]
theorem body_sp {N : List Str} {sp : SpP} {ts : TSp} {vs : List V} {Q : VK} {E : XK} (h : upSp K T sp vs H Q E) (hl : ∀ args P, sp args P → args.length ≤ N.length) (rd : ∀ args P, sp args P → ts { nx := fun _ => P .non, rt := fun x _ => P x } (startP N.length args)) :
  upS K T ts { nx := fun _ H' => Q .non H', rt := Q } (start N vs) H := by
 obtain ⟨F, args, P, tr, tb, r, hs, k⟩ := h
 have R := rs_start (N := N) tr tb r (hl _ _ hs)
 have gr : ∀ {σ' η' H'}, Ext (start N vs) (startP N.length args) σ' η' H H' → Gr H H' := fun e => ⟨fun b o h t => e.keep b o h startP_noown t, e.live⟩
 refine ⟨F, _, _, R, rd args P hs, fun η' σ' H' q e R' => ?_, fun _ _ _ q => q.elim, fun _ _ _ q => q.elim, fun x η' σ' v H' q e R' r' => ?_⟩
 ·exact k _ _ _ q (gr e) R'.tb rep_non
 ·exact k _ _ _ q (gr e) R'.tb (r'.mono fun b z => .inl z)
theorem body_spR {nm : Str} {N : List Str} {sp : SpR} {ts : TSp} {vs : List V} {Q : VK} {E : XK} (h : upSpR K T sp vs H Q E) (hl : ∀ o args P, sp o args P → args.length ≤ N.length)
  (rd : ∀ o args P, sp o args P → ts { nx := fun η' => ∃ o', η'[0]? = some (Sl.ow o') ∧ P .non o', rt := fun x η' => ∃ o', η'[0]? = some (Sl.ow o') ∧ P x o' } (startR (N.length + 1) o args)) :
  upS K T ts { nx := fun _ H' => Q .non H', rt := Q } (start (nm :: N) vs) H := by
 obtain ⟨F, a, ws, o, args, P, rfl, nf, tr, tb, ho, r, hs, k⟩ := h
 obtain ⟨R, own⟩ := rs_startR (x := nm) (N := N) nf tr tb ho r (hl _ _ _ hs)
 have fin : ∀ {η' σ' H' x v}, (∃ o', η'[0]? = some (Sl.ow o') ∧ P x o') → Ext (start (nm :: N) (.ref a :: ws)) (startR (N.length + 1) o args) σ' η' H H' → Rs K T F σ' η' H' → Rep K (Oof F σ' η') H' x v → Q v H' := by
  intro η' σ' H' x v q e R' r'
  obtain ⟨o', e0, p⟩ := q
  obtain ⟨p1, q1, q2⟩ := e.fst o' e0
  obtain ⟨b, s1, s2, s3⟩ := R'.ow 0 o' e0
  have hb : b = a := by
   rw [q2] at s1
   have : (start (nm :: N) (V.ref a :: ws))[0]? = some (some (V.ref a)) := by unfold L2.start; simp
   rw [this] at s1; cases s1; rfl
  subst hb
  have m : ∀ c, With F b c → Oof F σ' η' c := fun c z => z.elim .inl fun z => .inr (by rw [z]; exact ⟨0, o', s1, e0⟩)
  exact k x o' v H' p ⟨fun c u n h t => e.keep c u h (fun z => n (own c z)) t, e.live⟩ R'.tb (s2.mono m) (r'.mono m)
 exact ⟨F, _, _, R, rd o args P hs, fun η' σ' H' q e R' => fin q e R' rep_non, fun _ _ _ q => q.elim, fun _ _ _ q => q.elim, fun x η' σ' v H' q e R' r' => fin q e R' r'⟩
end
section
variable {P : Program} {w : World} {K : PySem.W.Frag} {mg : Str → Option Value} {base : Heap} {T : List (Addr × Str)}
theorem len_sp {ps : List Str} {sp : SpP} (hl : ∀ args P, sp args P → args.length = ps.length) : ∀ vs H Q E, upSp K T sp vs H Q E → vs.length = ps.length := fun vs H Q E h => by
 obtain ⟨F, args, P, _, _, r, hs, _⟩ := h
 rw [r.len, hl _ _ hs]
theorem len_spR {p : Str} {ps : List Str} {sp : SpR} (hl : ∀ o args P, sp o args P → args.length = ps.length) : ∀ vs H Q E, upSpR K T sp vs H Q E → vs.length = (p :: ps).length := fun vs H Q E h => by
 obtain ⟨F, a, ws, o, args, P, rfl, _, _, _, _, r, hs, _⟩ := h
 rw [List.length_cons, List.length_cons, r.len, hl _ _ _ hs]
theorem okP {x qual : Str} {st : Stmt} {f : Addr} {fd : FuncData} {N ps : List Str} {k : Nat} {sp : SpP} (Fn : Fun K x qual st f fd) (S : FnScope N ps (defScope st)) (hl : ∀ args P, sp args P → args.length = ps.length) (hn : ps.length ≤ N.length)
  (hbody : ∀ (cdv : Value) (A : Around) (outer : List Env) (s : Shared) (H : Hp) (E : XK), Room k (A.deeper (envOfC qual (defScope st) s.heap.objs.size f cdv)) →
   ∃ ts, PSs (cxOf CX0 P w K mg base N qual (defScope st) f cdv A outer s H E).nox (defBody st) (upS K T ts) ∧ ∀ args P, sp args P → ts { nx := fun _ => P .non, rt := fun x _ => P x } (startP N.length args)) :
  FnOk P w K mg base CX0 (k + 1) f fd ps (upSp K T sp) := by
 refine Fn.ok S (len_sp hl) fun cdv A outer s H vs Q E hr h => ?_
 obtain ⟨ts, d, rd⟩ := hbody cdv A outer s H E hr
 exact ⟨_, d, body_sp h (fun args P hs => by rw [hl _ _ hs]; exact hn) rd⟩
theorem okR {x qual : Str} {st : Stmt} {f : Addr} {fd : FuncData} {nm : Str} {N ps : List Str} {k : Nat} {sp : SpR} (Fn : Fun K x qual st f fd) (S : FnScope (nm :: N) (nm :: ps) (defScope st)) (hl : ∀ o args P, sp o args P → args.length = ps.length) (hn : ps.length ≤ N.length)
  (hbody : ∀ (cdv : Value) (A : Around) (outer : List Env) (s : Shared) (H : Hp) (E : XK), Room k (A.deeper (envOfC qual (defScope st) s.heap.objs.size f cdv)) →
   ∃ ts, PSs (cxOf CX0 P w K mg base (nm :: N) qual (defScope st) f cdv A outer s H E).nox (defBody st) (upS K T ts) ∧
    ∀ o args P, sp o args P → ts { nx := fun η' => ∃ o', η'[0]? = some (Sl.ow o') ∧ P .non o', rt := fun x η' => ∃ o', η'[0]? = some (Sl.ow o') ∧ P x o' } (startR (N.length + 1) o args)) :
  FnOk P w K mg base CX0 (k + 1) f fd (nm :: ps) (upSpR K T sp) := by
 refine Fn.ok S (len_spR hl) fun cdv A outer s H vs Q E hr h => ?_
 obtain ⟨ts, d, rd⟩ := hbody cdv A outer s H E hr
 exact ⟨_, d, body_spR h (fun o args P hs => by rw [hl _ _ _ hs]; exact hn) rd⟩
structure FnG (P : Program) (w : World) (K : PySem.W.Frag) (mg : Str → Option Value) (base : Heap) (k : Nat) (f : Addr) (fd : FuncData) (ps : List Str) (sp : Sp) : Prop where
 len : ∀ vs H Q E, sp vs H Q E → vs.length = ps.length
 run : ∀ (A : Around) (outer : List Env) (s : Shared) (H : Hp) (args : Args) (us : List Value) (vs : List V) (Q : VK) (E : XK), A.guards = some [] → Room k A → Env0 P w K mg base A outer s H → BindsTo s fd args (ps.zip us) → Vals vs us → sp vs H Q E →
  codeAny (model P w) A (.call (.ref f) args) (CR CX0 outer P w H s Q E) s
theorem okG0 {x qual : Str} {st : Stmt} {f : Addr} {fd : FuncData} {N ps : List Str} {k : Nat} {sp : Sp} (Fn : Fun K x qual st f fd) (S : FnScope N ps (defScope st)) (len : ∀ vs H Q E, sp vs H Q E → vs.length = ps.length)
  (hbody : ∀ (cdv : Value) (A : Around) (outer : List Env) (s : Shared) (H : Hp) (vs : List V) (Q : VK) (E : XK), A.guards = some [] → Room k (A.deeper (envOfC qual (defScope st) s.heap.objs.size f cdv)) → sp vs H Q E →
   ∃ t, PSs (cxOf CX0 P w K mg base N qual (defScope st) f cdv A outer s H E).nox (defBody st) t ∧ t { nx := fun _ H' => Q .non H', rt := Q } (L2.start N vs) H) : FnG P w K mg base (k + 1) f fd ps sp := by
 obtain ⟨oc, od, kV, doc, pm, an, cdv, ct, osl, rfl, lk, hcd⟩ := Fn.ex
 refine ⟨len, fun A outer s H args us vs Q E hg hr e0 hb rv hs => ?_⟩
 refine LamX.run_ofS lk hcd S hr e0 hb rv (len _ _ _ _ hs) fun hr' => ?_
 obtain ⟨t, d, q⟩ := hbody cdv A outer s H vs Q E hg hr' hs
 exact ⟨t, d.nox, q⟩
theorem okGP {x qual : Str} {st : Stmt} {f : Addr} {fd : FuncData} {N ps : List Str} {k : Nat} {sp : SpP} (Fn : Fun K x qual st f fd) (S : FnScope N ps (defScope st)) (hl : ∀ args P, sp args P → args.length = ps.length) (hn : ps.length ≤ N.length)
  (hbody : ∀ (cdv : Value) (A : Around) (outer : List Env) (s : Shared) (H : Hp) (E : XK), A.guards = some [] → Room k (A.deeper (envOfC qual (defScope st) s.heap.objs.size f cdv)) →
   ∃ ts, PSs (cxOf CX0 P w K mg base N qual (defScope st) f cdv A outer s H E).nox (defBody st) (upS K T ts) ∧ ∀ args P, sp args P → ts { nx := fun _ => P .non, rt := fun x _ => P x } (startP N.length args)) :
  FnG P w K mg base (k + 1) f fd ps (upSp K T sp) := by
 refine okG0 Fn S (len_sp hl) fun cdv A outer s H vs Q E hg hr h => ?_
 obtain ⟨ts, d, rd⟩ := hbody cdv A outer s H E hg hr
 exact ⟨_, d, body_sp h (fun args P hs => by rw [hl _ _ hs]; exact hn) rd⟩
theorem FnOk.g {k : Nat} {f : Addr} {fd : FuncData} {ps : List Str} {sp : Sp} (F : FnOk P w K mg base CX0 k f fd ps sp) : FnG P w K mg base k f fd ps sp := ⟨F.len, fun A outer s H args us vs Q E _ => F.run A outer s H args us vs Q E⟩
theorem FnG.mono {j k : Nat} {f : Addr} {fd : FuncData} {ps : List Str} {sp : Sp} (F : FnG P w K mg base j f fd ps sp) (h : j ≤ k) : FnG P w K mg base k f fd ps sp := ⟨F.len, fun A outer s H args us vs Q E hg hr => F.run A outer s H args us vs Q E hg (hr.mono h)⟩
end
section
variable {X : Cx} {T : List (Addr × Str)} {a b e o : Expr} {es : List Expr} {te ta tb : TEp} {t : TAp} {tf : TFp} {pos p apos : Pos} {k : Nat} {f C : Addr} {fd : FuncData} {ps : List Str} {sp : SpP} {sr : SpR} {x m : Str}
def tCallP (sp : SpP) (dps : List PV) (t : TAp) : TEp := fun η P => t η fun args η1 => sp (args ++ dps) fun z => P z η1
theorem call_up {K : PySem.W.Frag} {σ : St} {H : Hp} {Q : VK} {E : XK} {dps : List PV} {dvs : List V} (hd : ∀ O H, Reps K O H dps dvs) (q : up K T (tCallP sp dps t) σ H Q) : tCall (upSp K T sp) dvs E (upA K T t) σ H Q := by
 obtain ⟨F, η, P, R, h, k⟩ := q
 refine ⟨F, η, _, R, h, fun args η1 vs H1 h1 e1 R1 r1 => ?_⟩
 exact ⟨Oof F σ η1, _, _, R1.trO, R1.tb, r1.app (hd _ _), h1, fun z v H2 pz g tb rz => k z η1 v H2 pz (e1.trans g.ext) (R1.gr g tb) rz⟩
theorem z_call (Fn : FnOk X.prog X.w X.K X.mg X.base CX0 k f fd ps (upSp X.K T sp)) (hr : Room k X.A) (hg : Gl X x) (hm : X.mg x = some (.ref f)) (hk : PySem.W.keepIn X.K (.ref f) = true) {dvs : List V} {ds : List Value} {dps : List PV} (hb : Binds X.K fd ps ds) (hd : Vals dvs ds) (hp : ∀ O H, Reps X.K O H dps dvs)
  (ha : PA X (e :: es) (upA X.K T t)) (hdb : (x == ("__debug__" : Str)) = false := by decide) (he : starEach (e :: es) X.env = (false, eval e X.env) :: starEach es X.env := by rfl) (hpl : (backTo pos (starEach es X.env)).any (·.1) = false := by rfl) :
  PE X (.Call (.Name x p) (e :: es) [] pos) (up X.K T (tCallP sp dps t)) :=
 PE.weak (pe_call Fn hr hg hm hk hb hd pass0 ha hdb he hpl) fun σ H Q q => call_up hp q
theorem run_g {pins : List (Addr × Obj)} {σ : St} {H : Hp} {s : Shared} {Q : VK} {us : List Value} {vs dvs : List V} {ds : List Value} {S : Sp} (Fn : FnG X.prog X.w X.K X.mg X.base k f fd ps S) (hG : X.A.guards = some []) (hr : Room k X.A) (hb : Binds X.K fd ps ds) (hd : Vals dvs ds)
  (I : L2.Inv X pins σ H s) (r : Vals vs us) (h : S (vs ++ dvs) H Q E0) : wpAny (model X.prog X.w) X.A (call (.ref f) us) (EP X pins σ Q) X.xe s := by
 have rr := r.append hd
 refine wpAny_call (codeAny_mono (Fn.run X.A X.stack s H ⟨us, []⟩ (us ++ ds) (vs ++ dvs) Q E0 hG hr I.env0 (hb s us I.kIn (by rw [← rr.length]; exact Fn.len _ _ _ _ h)) rr h) fun res s' hq => ?_)
 cases res with
 | error er => exact False.elim hq
 | ok fl => cases fl with
  | ret u => exact I.after hq
  | _ => exact False.elim hq
theorem pe_callG {S : Sp} {tv : TA} {dvs : List V} {ds : List Value} (Fn : FnG X.prog X.w X.K X.mg X.base k f fd ps S) (hG : X.A.guards = some []) (hr : Room k X.A) (hg : Gl X x) (hm : X.mg x = some (.ref f)) (hk : PySem.W.keepIn X.K (.ref f) = true) (hb : Binds X.K fd ps ds) (hd : Vals dvs ds)
  (ha : PA X (e :: es) tv) (hdb : (x == ("__debug__" : Str)) = false := by decide) (he : starEach (e :: es) X.env = (false, eval e X.env) :: starEach es X.env := by rfl) (hpl : (backTo pos (starEach es X.env)).any (·.1) = false := by rfl) :
  PE X (.Call (.Name x p) (e :: es) [] pos) (tCall S dvs E0 tv) := by
 constructor
 intro pins s σ H Q I q
 apply wpAny_Call_Name_kw
 apply ld_glob I hg hm _ hdb
 apply PySem.W.callWith_K (h₀ := X.base) I.ok.mod.kin hk _ he hpl
 apply thn (ha.run pos pins s σ H _ I q)
 rintro us s1 ⟨vs, H1, I1, r, q1⟩
 exact ⟨I1.kIn, run_g Fn hG hr hb hd I1 r q1⟩
theorem z_callG (Fn : FnG X.prog X.w X.K X.mg X.base k f fd ps (upSp X.K T sp)) (hG : X.A.guards = some []) (hr : Room k X.A) (hg : Gl X x) (hm : X.mg x = some (.ref f)) (hk : PySem.W.keepIn X.K (.ref f) = true) {dvs : List V} {ds : List Value} {dps : List PV} (hb : Binds X.K fd ps ds) (hd : Vals dvs ds) (hp : ∀ O H, Reps X.K O H dps dvs)
  (ha : PA X (e :: es) (upA X.K T t)) (hdb : (x == ("__debug__" : Str)) = false := by decide) (he : starEach (e :: es) X.env = (false, eval e X.env) :: starEach es X.env := by rfl) (hpl : (backTo pos (starEach es X.env)).any (·.1) = false := by rfl) :
  PE X (.Call (.Name x p) (e :: es) [] pos) (up X.K T (tCallP sp dps t)) :=
 PE.weak (pe_callG Fn hG hr hg hm hk hb hd ha hdb he hpl) fun σ H Q q => call_up hp q
def tCallRP (i : Nat) (sr : SpR) (t : TAp) : TEp := fun η P => (∃ o, η[i]? = some (Sl.ow o)) ∧ t η fun args η1 => match η1[i]? with
 | some (.ow o) => sr o args fun z o' => P z (η1.set i (.ow o'))
 | _ => False
theorem callR_up {K : PySem.W.Frag} {σ : St} {H : Hp} {Q : VK} {E : XK} {i : Nat} (q : up K T (tCallRP i sr t) σ H Q) : tCall (upSpR K T sr) [] E (tCons (tVar i) (upA K T t)) σ H Q := by
 obtain ⟨F, η, P, R, ⟨⟨oo, ho⟩, h⟩, k⟩ := q
 obtain ⟨b, hw, _, _⟩ := R.ow i _ ho
 refine ⟨_, hw, F, η, _, R, h, fun args η1 vs H1 h1 e1 R1 r1 => ?_⟩
 split at h1
 ·rename_i o e
  obtain ⟨a, s, q0, nf⟩ := R1.ow i o e
  rw [hw] at s; cases s
  -- the other own ones and the foreign ones
  let F' : Addr → Prop := fun c => Oof F σ η1 c ∧ c ≠ b
  have m1 : ∀ c, With F' b c → Oof F σ η1 c := fun c z => z.elim (fun z => z.1) fun z => by rw [z]; exact .inr ⟨i, o, hw, e⟩
  have m2 : ∀ c, Oof F σ η1 c → With F' b c := fun c z => by
   by_cases q : c = b
   ·exact .inr q
   ·exact .inl ⟨z, q⟩
  refine ⟨F', b, vs, o, args, _, by simp, fun z => z.2 rfl, fun c z => R1.trO c z.1, R1.tb, q0.mono m1, r1.mono m1, h1, fun z o' v H2 pz g tb ho' rz => ?_⟩
  have c1 : Car (Oof F σ η1) (Oof F σ η1) H1 H2 := fun c u n hc t => ⟨g.keep c u (fun z => n (by rw [z]; exact .inr ⟨i, o, hw, e⟩)) hc t, n⟩
  have oth : ∀ c, c ≠ b → IsOwn σ η1 c → H2 c = H1 c := fun c n z => by
   obtain ⟨j, p, z1, z2⟩ := z
   obtain ⟨c', q1, q2, q3⟩ := R1.ow j p z2
   rw [z1] at q1; cases q1
   cases p with
   | l xs => obtain ⟨us, y, _⟩ := q2; rw [y]; exact g.keep _ _ n y nofun
   | o C fs => obtain ⟨dx, us, y, _⟩ := q2; rw [y]; exact g.keep _ _ n y nofun
   | d kvs => obtain ⟨us, y, _⟩ := q2; rw [y]; exact g.keep _ _ n y nofun
  have R2 := R1.put (o' := o') e hw c1 oth (fun c z => g.live c (R1.tr c z)) tb (ho'.mono m2)
  have E2 : Ext σ η1 σ (η1.set i (.ow o')) H1 H2 := by
   refine ⟨fun c u hc n t => g.keep c u (fun z => n (by rw [z]; exact ⟨i, o, hw, e⟩)) hc t, g.live, fun c z => .inl ((own_put e).mp z), fun p q => ?_⟩
   by_cases z : (0 : Nat) = i
   ·subst z; exact ⟨o, e, rfl⟩
   ·rw [ne_set z] at q; exact ⟨p, q, rfl⟩
  exact k _ _ _ _ pz (e1.trans E2) R2 (rz.mono fun c z => m2 c (Oof_mono (fun b' z => (own_put e).mp z) c z))
 ·cases h1
theorem z_callR {i : Nat} {e0 : Expr} (Fn : FnOk X.prog X.w X.K X.mg X.base CX0 k f fd ps (upSpR X.K T sr)) (hr : Room k X.A) (hg : Gl X x) (hm : X.mg x = some (.ref f)) (hk : PySem.W.keepIn X.K (.ref f) = true) (hb : Binds X.K fd ps [])
  (ha : PA X (e0 :: es) (tCons (tVar i) (upA X.K T t))) (hdb : (x == ("__debug__" : Str)) = false := by decide) (he : starEach (e0 :: es) X.env = (false, eval e0 X.env) :: starEach es X.env := by rfl) (hpl : (backTo pos (starEach es X.env)).any (·.1) = false := by rfl) :
  PE X (.Call (.Name x p) (e0 :: es) [] pos) (up X.K T (tCallRP i sr t)) :=
 PE.weak (pe_call Fn hr hg hm hk hb .nil pass0 ha hdb he hpl) fun σ H Q q => callR_up q
end
section
variable {X : Cx} {T : List (Addr × Str)} {a b e o : Expr} {es : List Expr} {te ta tb : TEp} {t : TAp} {tf : TFp} {pos p apos : Pos} {k : Nat} {f C : Addr} {fd : FuncData} {ps : List Str} {sp : SpP} {sr : SpR} {x m : Str} {st : Stmt} {rest : List Stmt} {t1 : TSp}
abbrev SpF := List PV → (List PV → Prop) → Prop
def upSpF (K : PySem.W.Frag) (T : List (Addr × Str)) (sp : SpF) : Sp := fun vs H Q _ => ∃ F args P, Trk F H ∧ LamX.Tabs T H ∧ Reps K F H args vs ∧ sp args P ∧ ∀ xs a us H', P xs → Gr H H' → LamX.Tabs T H' → Nw H a → H' a = some (.lst us) → Reps K (With F a) H' xs us → Q (.ref a) H'
def upSF (K : PySem.W.Frag) (T : List (Addr × Str)) (tf : TFp) : TS := fun D σ H => ∃ F η P, Rs K T F σ η H ∧ tf η P ∧ ∀ xs η' a us σ' H', P xs η' → Ext σ η σ' η' H H' → Rs K T (With F a) σ' η' H' → Nw H a → H' a = some (.lst us) → Reps K (Oof (With F a) σ' η') H' xs us → D.rt (.ref a) H'
def tSeqFP (t : TSp) (u : TFp) : TFp := fun η P => t { nx := fun η' => u η' P, rt := fun _ _ => False } η
theorem zsf_ret (he : PE X e (upF X.K T tf)) : PSs X [.Return (some e) pos] (upSF X.K T tf) := by
 refine pss_one (PS.weak (ps_ret he) fun D σ H q => ?_)
 obtain ⟨F, η, P, R, h, k⟩ := q
 exact ⟨F, η, P, R, h, fun xs η' a us H' q e R' hn nf hv r => k xs η' a us σ H' q e R' hn hv r⟩
theorem zsf_cons (h1 : PS X st (upS X.K T t1)) (h2 : PSs X rest (upSF X.K T tf)) : PSs X (st :: rest) (upSF X.K T (tSeqFP t1 tf)) := by
 refine PSs.weak (pss_cons h1 h2) fun D σ H q => ?_
 obtain ⟨F, η, P, R, h, k⟩ := q
 refine ⟨F, η, _, R, h, fun η1 σ1 H1 q e1 R1 => ?_, fun _ _ _ q => q.elim, fun _ _ _ q => q.elim, fun _ _ _ _ _ q => q.elim⟩
 refine ⟨F, η1, P, R1, q, fun xs η' a us σ' H' q e R' hn hv r => k xs η' a us σ' H' q (e1.trans e) R' (e1.nw hn) hv r⟩
theorem okF {P : Program} {w : World} {K : PySem.W.Frag} {mg : Str → Option Value} {base : Heap} {x qual : Str} {st : Stmt} {f : Addr} {fd : FuncData} {N ps : List Str} {k : Nat} {sp : SpF} (Fn : Fun K x qual st f fd) (S : FnScope N ps (defScope st)) (hl : ∀ args P, sp args P → args.length = ps.length) (hn : ps.length ≤ N.length)
  (hbody : ∀ (cdv : Value) (A : Around) (outer : List Env) (s : Shared) (H : Hp) (E : XK), Room k (A.deeper (envOfC qual (defScope st) s.heap.objs.size f cdv)) →
   ∃ tf, PSs (cxOf CX0 P w K mg base N qual (defScope st) f cdv A outer s H E).nox (defBody st) (upSF K T tf) ∧ ∀ args P, sp args P → tf (startP N.length args) fun xs _ => P xs) :
  FnOk P w K mg base CX0 (k + 1) f fd ps (upSpF K T sp) := by
 refine Fn.ok S (fun vs H Q E h => ?_) fun cdv A outer s H vs Q E hr h => ?_
 ·obtain ⟨F, args, P, _, _, r, hs, _⟩ := h
  rw [r.len, hl _ _ hs]
 ·obtain ⟨tf, d, rd⟩ := hbody cdv A outer s H E hr
  obtain ⟨F, args, P, tr, tb, r, hs, k⟩ := h
  have R := rs_start (N := N) tr tb r (by rw [hl _ _ hs]; exact hn)
  refine ⟨_, d, F, _, _, R, rd args P hs, fun xs η' a us σ' H' q e R' hn hv r => ?_⟩
  exact k xs a us H' q ⟨fun b o h t => e.keep b o h startP_noown t, e.live⟩ R'.tb hn hv (r.mono fun b z => .inl z)
def tCallFP (sp : SpF) (t : TAp) : TFp := fun η P => t η fun args η1 => sp args fun xs => P xs η1
theorem z_callF {sp : SpF} (Fn : FnOk X.prog X.w X.K X.mg X.base CX0 k f fd ps (upSpF X.K T sp)) (hr : Room k X.A) (hg : Gl X x) (hm : X.mg x = some (.ref f)) (hk : PySem.W.keepIn X.K (.ref f) = true) (hb : Binds X.K fd ps [])
  (ha : PA X (e :: es) (upA X.K T t)) (hdb : (x == ("__debug__" : Str)) = false := by decide) (he : starEach (e :: es) X.env = (false, eval e X.env) :: starEach es X.env := by rfl) (hpl : (backTo pos (starEach es X.env)).any (·.1) = false := by rfl) :
  PE X (.Call (.Name x p) (e :: es) [] pos) (upF X.K T (tCallFP sp t)) := by
 refine PE.weak (pe_call Fn hr hg hm hk hb .nil pass0 ha hdb he hpl) fun σ H Q q => ?_
 obtain ⟨F, η, P, R, h, k⟩ := q
 refine ⟨F, η, _, R, h, fun args η1 vs H1 h1 e1 R1 r1 => ?_⟩
 refine ⟨Oof F σ η1, _, _, R1.trO, R1.tb, by rw [List.append_nil]; exact r1, h1, fun xs a us H2 pz g tb hn hv rz => ?_⟩
 have hn0 : Nw H a := e1.nw hn
 have nF : ¬ F a := fun z => R.tr a z hn0
 have nO : ¬ Oof F σ η1 a := fun z => R1.trO a z hn
 have m : ∀ b, Oof (With F a) σ η1 b → With (Oof F σ η1) a b := fun b z => by
  rcases z with (z | z) | z
  ·exact .inl (.inl z)
  ·exact .inr z
  ·exact .inl (.inr z)
 -- the frame over the grown heap, a among the foreign ones
 have R2 : Rs X.K T F σ η1 H2 := R1.gr g tb
 have c : Car (Oof F σ η1) (Oof (With F a) σ η1) H1 H2 := fun b u n hb t => ⟨g.keep b u hb t, fun z => by
  rcases z with (z | z) | z
  ·exact n (.inl z)
  ·exact hn.no (by rw [← z]; exact hb) t
  ·exact n (.inr z)⟩
 have R3 : Rs X.K T (With F a) σ η1 H2 := by
  refine ⟨R2.len, fun i y e => ?_, fun i o e => ?_, R2.nd, fun b z => ?_, tb⟩
  ·obtain ⟨v, q1, q2⟩ := R1.va i y e
   exact ⟨v, q1, q2.car c⟩
  ·obtain ⟨b, q1, q2, q3⟩ := R1.ow i o e
   refine ⟨b, q1, q2.car c ?_, fun z => z.elim q3 fun z => nO (by rw [← z]; exact .inr ⟨i, o, q1, e⟩)⟩
   cases o with
   | l xs => obtain ⟨vs, q, _⟩ := q2; rw [q]; exact g.keep _ _ q nofun
   | o C fs => obtain ⟨dx, ws, q, _⟩ := q2; rw [q]; exact g.keep _ _ q nofun
   | d kvs => obtain ⟨ws, q, _⟩ := q2; rw [q]; exact g.keep _ _ q nofun
  ·rcases z with z | z
   ·exact R2.tr b z
   ·rw [z]; exact fun q => q.no hv nofun
 exact k xs η1 a us H2 pz (e1.trans g.ext) R3 hn0 nF hv (rz.mono m)
def tCallRFP (tf : TFp) (sr : SpR) (t : TAp) : TEp := fun η P => tf η fun xs η1 => t η1 fun args η2 => sr (.l xs) args fun z _ => P z η2
theorem callRF_up {K : PySem.W.Frag} {σ : St} {H : Hp} {Q : VK} {E : XK} (q : up K T (tCallRFP tf sr t) σ H Q) : tCall (upSpR K T sr) [] E (tCons (upF K T tf) (upA K T t)) σ H Q := by
 obtain ⟨F, η, P, R, h, k⟩ := q
 refine ⟨F, η, _, R, h, fun xs η1 a us H1 h1 e1 R1 hn nf hv r => ⟨With F a, η1, _, R1, h1, fun args η2 vs H2 h2 e2 R2 r2 => ?_⟩⟩
 have na : ¬ IsOwn σ η1 a := fun z => by
  obtain ⟨j, p, z1, z2⟩ := z
  obtain ⟨b, q1, q2, q3⟩ := R1.ow j p z2
  rw [z1] at q1; cases q1
  exact q3 (.inr rfl)
 have na2 : ¬ IsOwn σ η2 a := fun z => by
  obtain ⟨j, p, z1, z2⟩ := z
  obtain ⟨b, q1, q2, q3⟩ := R2.ow j p z2
  rw [z1] at q1; cases q1
  exact q3 (.inr rfl)
 have hv2 : H2 a = some (.lst us) := e2.keep a _ hv na nofun
 have c12 := e2.car (F := With F a)
 let F' : Addr → Prop := Oof F σ η2
 have m1 : ∀ c, With F' a c → Oof (With F a) σ η2 c := fun c z => by
  rcases z with (z | z) | z
  ·exact .inl (.inl z)
  ·exact .inr z
  ·exact .inl (.inr z)
 have m2 : ∀ c, Oof (With F a) σ η2 c → With F' a c := fun c z => by
  rcases z with (z | z) | z
  ·exact .inl (.inl z)
  ·exact .inr z
  ·exact .inl (.inr z)
 refine ⟨F', a, vs, .l xs, args, _, by simp, fun z => z.elim nf na2, fun c z => R2.trO c (m1 c (.inl z)), R2.tb, ⟨us, hv2, (r.car c12).mono m1⟩, r2.mono m1, h2, fun z o' v H3 pz g tb ho' rz => ?_⟩
 have c3 : Car (Oof (With F a) σ η2) (Oof F σ η2) H2 H3 := fun c u n hc t => ⟨g.keep c u (fun q => n (by rw [q]; exact .inl (.inr rfl))) hc t, fun z => n (z.elim (fun z => .inl (.inl z)) .inr)⟩
 have R3 : Rs K T F σ η2 H3 := by
  refine ⟨R2.len, fun i y e => ?_, fun i o e => ?_, R2.nd, fun b z => g.live b (R2.tr b (.inl z)), tb⟩
  ·obtain ⟨v, q1, q2⟩ := R2.va i y e
   exact ⟨v, q1, q2.car c3⟩
  ·obtain ⟨b, q1, q2, q3⟩ := R2.ow i o e
   have nb : b ≠ a := fun z => q3 (.inr z)
   refine ⟨b, q1, q2.car c3 ?_, fun z => q3 (.inl z)⟩
   cases o with
   | l xs => obtain ⟨vs, q, _⟩ := q2; rw [q]; exact g.keep _ _ nb q nofun
   | o C fs => obtain ⟨dx, ws, q, _⟩ := q2; rw [q]; exact g.keep _ _ nb q nofun
   | d kvs => obtain ⟨ws, q, _⟩ := q2; rw [q]; exact g.keep _ _ nb q nofun
 have E2 := e1.trans e2
 refine k _ _ _ _ pz ⟨fun b u hb n t => g.keep b u (fun z => hn.no (by rw [← z]; exact hb) t) (E2.keep b u hb n t) t, fun b hb => g.live b (E2.live b hb), E2.new, E2.fst⟩ R3 (rz.mono fun c z => .inl z)
theorem z_callRFG {e0 : Expr} (Fn : FnG X.prog X.w X.K X.mg X.base k f fd ps (upSpR X.K T sr)) (hG : X.A.guards = some []) (hr : Room k X.A) (hg : Gl X x) (hm : X.mg x = some (.ref f)) (hk : PySem.W.keepIn X.K (.ref f) = true) (hb : Binds X.K fd ps [])
  (ha : PA X (e0 :: es) (tCons (upF X.K T tf) (upA X.K T t))) (hdb : (x == ("__debug__" : Str)) = false := by decide) (he : starEach (e0 :: es) X.env = (false, eval e0 X.env) :: starEach es X.env := by rfl) (hpl : (backTo pos (starEach es X.env)).any (·.1) = false := by rfl) :
  PE X (.Call (.Name x p) (e0 :: es) [] pos) (up X.K T (tCallRFP tf sr t)) :=
 PE.weak (pe_callG Fn hG hr hg hm hk hb .nil ha hdb he hpl) fun σ H Q q => callRF_up q
def putFP (f : Str) (x : PV) : List (Str × PV) → List (Str × PV)
 | [] => [(f, x)]
 | (n, y) :: r => if n = f then (n, x) :: r else (n, y) :: putFP f x r
theorem putF_rep {K : PySem.W.Frag} {O H} {f : Str} {x : PV} {v : V} (h : Rep K O H x v) : ∀ {fs : List (Str × PV)} {ws : List (Str × V)}, RepF K O H fs ws → RepF K O H (putFP f x fs) (putF f v ws)
 | [], _, r => by
  unfold RepF at r; subst r
  unfold putFP putF RepF
  exact ⟨v, [], rfl, h, by unfold RepF; rfl⟩
 | (n, y) :: fs, _, r => by
  unfold RepF at r
  obtain ⟨w, us, rfl, r1, r2⟩ := r
  unfold putFP putF
  by_cases e : n = f
  ·subst e
   rw [if_pos rfl, if_pos rfl]
   unfold RepF
   exact ⟨v, us, rfl, h, r2⟩
  ·rw [if_neg e, if_neg (by exact fun z => e (by first | exact z.symm | exact z))]
   unfold RepF
   exact ⟨w, _, rfl, r1, putF_rep h r2⟩
def tFldSP (C : Addr) (i : Nat) (f : Str) (te : TEp) : TSp := fun D η => te η fun x η1 => match η1[i]? with
 | some (.ow (.o C' fs)) => C' = C ∧ fs.length < 1000 ∧ D.nx (η1.set i (.ow (.o C (putFP f x fs))))
 | _ => False
theorem z_fldS {i : Nat} {f : Str} {value : Expr} {pos' : Pos} (c : Cls X.K C) (n : NoAttr X.K C f) (ho : PE X o (tVar i)) (hv : PE X value (up X.K T te)) (hs : swapsWith value (some (.Attribute o f pos')) pos.line X.env = pure false := by rfl) :
  PS X (.Assign [.Attribute o f pos'] value pos) (upS X.K T (tFldSP C i f te)) := by
 refine PS.weak (ps_fld ho hv hs) fun D σ H q => ?_
 obtain ⟨F, η, D', R, h, k1, k2, k3, k4⟩ := q
 refine ⟨F, η, _, R, h, fun x η1 v H1 h1 e1 R1 r1 => ?_⟩
 split at h1
 ·rename_i C' fs e
  obtain ⟨rfl, hl, h1⟩ := h1
  obtain ⟨a, s, ⟨dx, ws, q1, q2⟩, nf⟩ := R1.ow i _ e
  refine ⟨_, s, a, C', dx, ws, rfl, q1, c, n, by rw [q2.len]; exact hl, ?_⟩
  obtain ⟨W, E⟩ := R1.write (o' := .o C' (putFP f x fs)) (u := .ins C' dx (putF f v ws)) e s q1 nofun nofun nofun fun c => ⟨dx, _, upd_same, putF_rep (r1.car c) (q2.car c)⟩
  exact k1 _ _ _ h1 (e1.trans E) W
 ·cases h1
def tFldP (C : Addr) (f : Str) (te : TEp) : TEp := fun η P => te η fun x η1 => match x with
 | .ins C' fs => C' = C ∧ ∃ y, fs.lookup f = some y ∧ P y η1
 | _ => False
theorem z_fld {f : Str} (c : Cls X.K C) (n : NoAttr X.K C f) (he : PE X e (up X.K T te)) (hb : attributeBase e f X.env (eval e X.env) = eval e X.env := by rfl) : PE X (.Attribute e f pos) (up X.K T (tFldP C f te)) := by
 refine PE.weak (pe_fld he hb) fun σ H Q q => ?_
 obtain ⟨F, η, P, R, h, k⟩ := q
 refine ⟨F, η, _, R, h, fun x η1 v H1 h1 e1 R1 r1 => ?_⟩
 split at h1
 ·obtain ⟨rfl, y, hy, h1⟩ := h1
  obtain ⟨a, dx, ws, rfl, na, q, rr⟩ := r1.ins_
  obtain ⟨w, hw, rw'⟩ := (rr.look f).1 y hy
  exact ⟨a, _, dx, ws, w, rfl, q, c, n, hw, k _ _ _ _ h1 e1 R1 rw'⟩
 ·cases h1
def tPropP (C : Addr) (sp : SpP) (ta : TEp) : TEp := fun η P => ta η fun x η1 => (∃ fs, x = .ins C fs) ∧ sp [x] fun z => P z η1
theorem z_prop {q : Addr} {f' : Str} (he : PE X e (up X.K T ta)) (c : Cls X.K C) (hp : PropOf X.K C f' q f) (Fn : FnOk X.prog X.w X.K X.mg X.base CX0 k f fd ps (upSp X.K T sp)) (hr : Room (k + 1) X.A) (hb : Binds X.K fd ps [])
  (hab : attributeBase e f' X.env (eval e X.env) = eval e X.env := by rfl) : PE X (.Attribute e f' pos) (up X.K T (tPropP C sp ta)) := by
 refine PE.weak (pe_prop he c hp Fn hr hb .nil pass0 hab) fun σ H Q q => ?_
 obtain ⟨F, η, P, R, h, k⟩ := q
 refine ⟨F, η, _, R, h, fun x η1 v H1 h1 e1 R1 r1 => ?_⟩
 obtain ⟨⟨fs, rfl⟩, h1⟩ := h1
 have r1' := r1
 obtain ⟨a, dx, ws, rfl, na, q, rr⟩ := r1.ins_
 exact ⟨a, dx, ws, rfl, q, Oof F σ η1, _, _, R1.trO, R1.tb, .cons r1' .nil, h1, fun z v H3 pz g tb rz => k z η1 v H3 pz (e1.trans g.ext) (R1.gr g tb) rz⟩
end
set_option maxHeartbeats 1000000 in
theorem meets_enum1 {v : Value} {o : Obj} {H : Heap → Prop} (B : Begins v o H) : Meets (Builtin.«enumerate.__new__» ⟨[.type "enumerate", v], []⟩) (fun _ R s => H s.heap ∧
  R (.ok (.ret (.ref (s.heap.push o).objs.size))) { s with heap := (s.heap.push o).push { cls := .type "enumerate", data := .fields #[.none, .bool false, .ref s.heap.objs.size, rawInt 0, .none, .none] } }) := by
 refine .of_wp fun prog w A R s q => ?_
 obtain ⟨hp, g, d, tk, os⟩ := s
 obtain ⟨h1, q⟩ := q
 have hs := sub_enumerate
 have it : ∀ {A' : Around} {E : Value → Shared → Prop} {Q : Value → Shared → Prop}, Q (.ref hp.objs.size) ⟨hp.push o, g, d, tk, os⟩ → wpAny (model prog w) A' (pyIter v) Q E ⟨hp, g, d, tk, os⟩ := fun z => B.iter prog w _ _ ⟨hp, g, d, tk, os⟩ _ h1 z
 wp_walk using it
 refine wpAny_stack_any fun st => wpAny_pure ?_
 split
 ·rename_i c _ _ _ _ _
  cases (c == Value.type "enumerate") <;> (wp_walk using it; exact ⟨_, rfl, q⟩)
 ·wp_walk using it
  exact ⟨_, rfl, q⟩
theorem call_enum1 {prog : Program} {w : World} {A : Around} {E : Value → Shared → Prop} {s : Shared} {v : Value} {o : Obj} {H : Heap → Prop} {Q : Value → Shared → Prop} (B : Begins v o H) (h1 : H s.heap)
  (q : ∀ h', IsEnum h' (s.heap.objs.size + 1) s.heap.objs.size 0 .none → h'.get? s.heap.objs.size = some o → (∀ b u, s.heap.get? b = some u → h'.get? b = some u) → Q (.ref (s.heap.objs.size + 1)) { s with heap := h' }) :
  wpAny (model prog w) A (call (.type "enumerate") [v]) Q E s := by
 refine callType_new F.called_enumerate (by decide) (F.typeCall_enumerate_1 _) (F.newCall_enumerate_1 _) (fun obj => F.args_object_init_2 obj _) F.entry_enumerate_new (meets_enum1 B) ⟨h1, ?_⟩
 have z : (s.heap.push o).objs.size = s.heap.objs.size + 1 := Heap.size_push ..
 show _ ∧ _
 rw [z]
 have he : ((s.heap.push o).push { cls := .type "enumerate", data := .fields #[.none, .bool false, .ref s.heap.objs.size, rawInt 0, .none, .none] }).get? (s.heap.objs.size + 1) = some { cls := .type "enumerate", data := .fields #[.none, .bool false, .ref s.heap.objs.size, rawInt 0, .none, .none] } := by
  rw [← z]; exact Heap.get?_push_size _ rfl
 exact ⟨⟨_, he, rfl⟩, q _ he (Heap.get?_push_of_some _ (Heap.get?_push_size _ B.free)) fun b u e => Heap.get?_push_of_some _ (Heap.get?_push_of_some _ e)⟩
def Itte (K : PySem.W.Frag) (a : Addr) : It where
 go := fun i H => ∃ (xs : List V) (x : V), SqT K H a xs ∧ xs[i]? = some x
 yld := fun i H v H' => ∃ p x, v = .ref p ∧ H p = none ∧ H' = upd H p (.tup [.int (i : Nat), x]) ∧ ∀ xs, SqT K H a xs → xs[i]? = some x
 stop := fun i H => ∃ xs : List V, SqT K H a xs ∧ xs.length = i
def TnE (a e it : Addr) (i : Nat) (h : Heap) : Prop := (∃ old, IsEnum h e it (0 + ((i : Nat) : Int)) old) ∧ h.IsTupleIter it a i ∧ e ≠ it
theorem tne_apart {a e it : Addr} {i : Nat} {h : Heap} {items : Array Value} (t : TnE a e it i h) (p : IsTup h a items) : a ≠ it ∧ e ∉ [it, a] := by
 obtain ⟨⟨old, he⟩, ⟨oi, hi, ci, _⟩, ne⟩ := t
 obtain ⟨o, ho, hc, _⟩ := p
 refine ⟨fun z => ?_, fun z => ?_⟩
 ·rw [z, hi] at ho; cases ho; rw [ci] at hc; simp at hc
 ·rcases List.mem_cons.mp z with z | z
  ·exact ne z
  ·have z : e = a := by simpa using z
   have he' : h.get? e = some _ := he
   rw [z, ho] at he'; cases he'; simp at hc
theorem turn_enumT {P : Program} {w : World} {K : PySem.W.Frag} {elts : List Expr} {kk : Nat} {tpos : Pos} (a e it : Addr) : Turn P w K (.Tuple elts kk tpos) (Itte K a) [e, it] e (TnE a e it) where
 mem := by simp
 obj := fun i h st b hb => by
  obtain ⟨⟨old, he⟩, ⟨oi, hi, ci, di⟩, _⟩ := st
  rcases List.mem_cons.mp hb with z | z
  ·rw [z]; exact ⟨_, he, fun v q => nomatch q⟩
  ·have z : b = it := by simpa using z
   rw [z]; exact ⟨oi, hi, fun v q => by rw [di] at q; cases q⟩
 keep := fun i h h' st k => by
  obtain ⟨⟨old, he⟩, hi, ne⟩ := st
  exact ⟨⟨old, k e (by simp) _ he⟩, hi.at fun o q => k it (by simp) o q, ne⟩
 item := by
  intro X hP hw hK hc i pins s σ H E I hf st hg
  subst hP hw hK
  obtain ⟨xs, x, hq, hx⟩ := hg
  obtain ⟨its, rv, p, hz⟩ := I.tuple hq
  obtain ⟨u, hu, ru⟩ := rv.get hx
  obtain ⟨n1, n2⟩ := tne_apart st p
  have W := WalksT.enumFrom 0 (Draws.tuple (prog := X.prog) (w := X.w) (A := X.A.in1) (I.ok.hd hc) it a n1 its.toArray) e st.2.2 n2 (by simp)
  have hi : i < its.toArray.size := by
   have := (List.getElem?_eq_some_iff.mp hu).1
   simpa using this
  refine W.item i s _ _ hi ⟨st.1, st.2.1, p⟩ fun q vals h' tk ⟨t, y, hy, ev⟩ hq' hT hm hk => ?_
  have ey : y = u := by
   rw [Array.getElem?_eq_getElem hi] at hy
   rw [List.getElem?_eq_getElem (by simpa using hi)] at hu
   simp at hy hu
   rw [← hy, ← hu]
  subst ey
  refine ⟨_, rfl, W.go elts kk tpos i q { s with heap := h', toks := tk } _ _ hm fun h'' st' hk' => ?_⟩
  have nq := W.apart i q h' hm
  have hT2 : IsTup h'' q vals := by
   obtain ⟨o, z1, z2⟩ := hT
   exact ⟨o, hk' q o nq z1, z2⟩
  have kp : ∀ b o, b ∉ [e, it] → s.heap.get? b = some o → h''.get? b = some o := fun b o hb z => hk' b o hb (hk b o hb z)
  have new : ObjOk X.prog X.w (upd H q (.tup [.int (i : Nat), x])) h'' q (.tup [.int (i : Nat), x]) := by
   refine ⟨by show 2 ≤ sizeLine; decide, [.int (0 + (i : Int)) t, y], .cons ⟨t, by rw [Int.zero_add]⟩ (.cons ru .nil), ?_⟩
   rw [ev] at hT2; exact hT2
  have hn : H q = none := I.hok.fresh hq'
  refine ⟨.ref q, _, I.turnedNew (t' := tk) (ch := [e, it]) kp hf hq' new, rfl, ⟨q, x, rfl, hn, rfl, fun ys hy => by rw [I.tuple_inj hy hq]; exact hx⟩, ⟨st'.1, st'.2.1, st.2.2⟩, fun b hb => ?_⟩
  have hb' : b ≠ q := fun z => nq (by rw [← z]; exact hb)
  rw [upd_ne hb']
  exact (hf b hb).1
 done := by
  intro X hP hw hK hc i pins s σ H E I hf st hg
  subst hP hw hK
  obtain ⟨xs, hq, hx⟩ := hg
  obtain ⟨its, rv, p, hz⟩ := I.tuple hq
  obtain ⟨n1, n2⟩ := tne_apart st p
  have W := WalksT.enumFrom 0 (Draws.tuple (prog := X.prog) (w := X.w) (A := X.A.in1) (I.ok.hd hc) it a n1 its.toArray) e st.2.2 n2 (by simp)
  have hl : its.toArray.size = i := by rw [← hx, rv.length]; simp
  refine W.done s _ _ (by rw [hl]; exact ⟨st.1, st.2.1, p⟩) fun h' tk kp => ⟨rfl, ?_⟩
  have nit : ∀ b u, H b = some u → b ∉ [e, it] := fun b u z hb => by
   have := (hf b hb).1
   rw [this] at z; cases z
  exact I.step (g' := s.gens) (d' := s.drawn) (t' := tk) (ch := [e, it]) (fun b hb => ⟨(hf b hb).2.2.2.1, (hf b hb).2.1, (hf b hb).2.2.2.2.1, (hf b hb).2.2.2.2.2⟩) (fun b o _ _ hb z _ => kp b o hb z) (fun b o _ _ hb z _ => ⟨o.slots, kp b o hb z⟩) (fun _ _ _ _ n => n)
   (fun b o hb z => ⟨o, kp b o hb z⟩) (fun _ _ z => z) (fun _ _ _ z => z) (fun b ps z => ⟨#[], by rw [z]; simp⟩) (fun m hm => by
    obtain ⟨o, es, ep, ho, r⟩ := hm
    exact ⟨o, es, ep, kp _ o (fun z => (hf _ z).2.1 rfl) ho, r⟩) (fun b u z => (I.hok b u z).stay (fun c v hc q => kp c v (fun y => by
     rcases hc with hc | hc
     ·exact nit b u z (by rw [← hc]; exact y)
     ·exact nit c _ hc y) q) (fun _ q => q) fun _ _ q => q) I.bare
 self := fun A i s Q E st q => by
  obtain ⟨⟨old, he⟩, _⟩ := st
  exact wpAny_pyIter_enum he q
def iEnumT (K : PySem.W.Frag) (te : TE) : TI := fun σ H R => te σ H fun v H1 => ∃ a xs, [v] = [V.ref a] ∧ SqT K H1 a xs ∧ R (Itte K a) H1
theorem pi_enumT {X : Cx} {e : Expr} {te : TE} {p pos tpos : Pos} {elts : List Expr} {kk : Nat} (hg : Gl X "enumerate") (hm : X.mg "enumerate" = none) (he : PE X e te) (hs : starEach [e] X.env = [(false, eval e X.env)] := by rfl) :
  PI X (.Tuple elts kk tpos) (.Call (.Name "enumerate" p) [e] [] pos) (iEnumT X.K te) := by
 constructor
 intro pins s σ H R I h
 refine Call_ (ld_blt I hg hm boot_enumerate (PyProof.Rows.callWith_type1 (thn ((pa_cons he pa_nil hs).run pos pins s σ H (fun vs H1 => ∃ a xs, vs = [V.ref a] ∧ SqT X.K H1 a xs ∧ R (Itte X.K a) H1) I h) fun us s1 ⟨vs, H1, I1, r1, q1⟩ => ?_) hs rfl))
 obtain ⟨a, xs, rfl, hq, q⟩ := q1
 obtain ⟨u, rfl, ru⟩ := vals1 r1
 cases ru
 obtain ⟨its, rv, p', hz⟩ := I1.tuple hq
 refine call_enum1 (begins_tuple a its.toArray) p' fun h' he hit hk => wpAny_pyIter_enum he ?_
 have I2 : L2.Inv X pins σ H1 { s1 with heap := h' } := I1.kept (t' := s1.toks) hk
 refine ⟨s1.heap.objs.size + 1, [s1.heap.objs.size + 1, s1.heap.objs.size], _, _, H1, rfl, I2, turn_enumT a (s1.heap.objs.size + 1) s1.heap.objs.size, ⟨⟨.none, he⟩, ⟨_, hit, rfl, rfl⟩, Nat.succ_ne_self _⟩, fun b hb => ?_, q⟩
 have hle : s1.heap.objs.size ≤ b := by
  rcases List.mem_cons.mp hb with z | z
  ·rw [z]; exact Nat.le_succ _
  ·have z : b = s1.heap.objs.size := by simpa using z
   rw [z]; exact Nat.le_refl _
 exact I1.fpOk hle (I1.hok.fresh hle)
def enumP (xs : List PV) : List PV := xs.zipIdx.map fun p => .tup [.int (p.2 : Nat), p.1]
section
variable {X : Cx} {T : List (Addr × Str)} {e : Expr} {te : TEp}
def iEnumP (te : TEp) : TIp := fun η P => te η fun x η1 => match x with
 | .tup xs => P (enumP xs) η1
 | _ => False
theorem enumP_get {xs : List PV} {i : Nat} {x : PV} (h : (enumP xs)[i]? = some x) : ∃ y, xs[i]? = some y ∧ x = .tup [.int (i : Nat), y] := by
 unfold enumP at h
 rw [List.getElem?_map, List.getElem?_zipIdx] at h
 cases q : xs[i]? with
 | none => rw [q] at h; cases h
 | some y => rw [q] at h; simp at h; exact ⟨y, rfl, h.symm⟩
theorem it_enumT {K : PySem.W.Frag} {O H} {a : Addr} {xs : List PV} {vs : List V} (t : TupAt K O H a vs) (r : Reps K O H xs vs) : Itr8 K O (Itte K a) (enumP xs) H := fun O' H' tr c _ i => by
 have h' := t.inj_car c
 have r' := r.car c
 refine ⟨fun x e => ?_, fun e => ⟨vs, h', by rw [r'.len]; simpa [enumP] using e⟩⟩
 obtain ⟨y, hy, rfl⟩ := enumP_get e
 obtain ⟨v, e1, r1⟩ := r'.get hy
 refine ⟨⟨vs, v, h', e1⟩, fun w H'' q => ?_⟩
 obtain ⟨p, x', rfl, hp, rfl, hx⟩ := q
 have := hx vs h'
 rw [e1] at this; cases this
 exact ⟨Same.new hp, rep_newT tr hp (.cons rep_int (.cons r1 .nil))⟩
theorem zi_enumT {p pos tpos : Pos} {elts : List Expr} {kk : Nat} (hg : Gl X "enumerate") (hm : X.mg "enumerate" = none) (he : PE X e (up X.K T te)) (hs : starEach [e] X.env = [(false, eval e X.env)] := by rfl) :
  PI X (.Tuple elts kk tpos) (.Call (.Name "enumerate" p) [e] [] pos) (upI X.K T (iEnumP te)) := by
 refine PI.weak (pi_enumT hg hm he hs) fun σ H Q q => ?_
 obtain ⟨F, η, P, R, h, k⟩ := q
 refine ⟨F, η, _, R, h, fun x η1 v H1 h1 e1 R1 r1 => ?_⟩
 split at h1
 ·obtain ⟨a, vs, rfl, t, rr⟩ := r1.tup_
  exact ⟨a, vs, rfl, t.sq, k _ _ _ _ h1 e1 R1 (it_enumT t rr)⟩
 ·cases h1
end
section
variable {prog : Program} {w : World} {A : Around} {E : Value → Shared → Prop} {s : Shared}
def copied (g : Heap) (vs : List Value) : Heap := (g.push (seqObj "list" #[] 0)).update g.objs.size (Obj.mapSeq (· ++ vs.toArray))
theorem collect_tup {l : Addr} {vs : List Value} {Q : List Value → Shared → Prop} (p : IsTup s.heap l vs.toArray) (hz : vs.length ≤ sizeLine) (q : Q vs { s with heap := copied s.heap vs }) :
  wpAny (model prog w) A (collect (.ref l)) Q E s := by
 obtain ⟨ob, hb, cb, k, db⟩ := p
 have old : (s.heap.push (seqObj "list" #[] 0)).get? l = some ob := Heap.get?_push_of_some _ hb
 have new : (s.heap.push (seqObj "list" #[] 0)).get? s.heap.objs.size = some (seqObj "list" #[] 0) := Heap.get?_push_size _ rfl
 have tt : (Value.type "tuple" == Value.type "tuple") = true := by rfl
 have sz : ((#[] : Array Value) ++ vs.toArray).size ≤ sizeLine + 1 := by
  rw [Array.size_append, List.size_toArray]
  simp
  omega
 unfold collect
 refine wpAny_bind
  (wpAny_runValue (codeAny_builtin entry_proto_collect' ?_))
 show wpAny _ _ (do
  again (.builtin "list.__iadd__" ⟨[← newList [], .ref l], []⟩)) _ _ s
 refine wpAny_bind (wpAny_newList
  (wpAny_pure ⟨Code.quiet_builtin _ (by decide +kernel), codeAny_builtin entry_list_iadd' ?_⟩))
 show wpAny _ _
  (Builtin.List.listExtendWith (.ref s.heap.objs.size) (.ref l) (.ref s.heap.objs.size)) _ _
  { s with heap := s.heap.push (seqObj "list" #[] 0) }
 unfold Builtin.List.listExtendWith
 refine wpAny_bind (wpAny_typeOf (T := "tuple") ⟨ob, old, cb⟩ ?_)
 rw [if_pos (by rw [tt, Bool.or_true])]
 refine wpAny_bind (listItems_at old db ?_)
 refine wpAny_bind (listItems_at new rfl ?_)
 rw [if_neg (by simp)]
 refine wpAny_bind (listUpdate_at new rfl ?_ (Nat.zero_le _) sz)
 refine wpAny_pure ?_
 show wpAny (model prog w) A (do
  let ob ← load s.heap.objs.size
  match ob.data with
  | .seq xs _ => pure xs.toList
  | _ => unsupported "internal:collect") Q E { s with heap := copied s.heap vs }
 refine wpAny_bind (wpAny_load (get?_update_seq new _) ?_)
 show wpAny _ _ (pure ((#[] : Array Value) ++ vs.toArray).toList) Q E _
 have e : ((#[] : Array Value) ++ vs.toArray).toList = vs := by simp
 rw [e]
 exact wpAny_pure q
theorem sort_of_tup {l : Addr} {vs : List Value} {kw : List (Str × Value)} {Q : Value → Shared → Prop} (p : IsTup s.heap l vs.toArray) (hz : vs.length ≤ sizeLine) (a1 : argsOk "sorted" ⟨[.ref l], kw⟩) (a2 : ∀ x, argsOk "list.sort" ⟨[.ref x], kw⟩)
  (body : ∀ E' : Value → Shared → Prop, wpAny (model prog w) A.in1.in1 (Builtin.«list.sort» ⟨[.ref (s.heap.objs.size + 1)], kw⟩)
   (fun f s' => f = .done (.ret .none) ∧ Q (.ref (s.heap.objs.size + 1)) s') E' { s with heap := PySem.W.copyHeap s.heap vs }) :
  wpAny (model prog w) A (call (.builtin "sorted") [.ref l] kw) Q E s := by
 have sz : (copied s.heap vs).objs.size = s.heap.objs.size + 1 := by
  unfold copied
  rw [Heap.size_update, size_push']
 refine call_function_entry_kw kind_sorted plain_sorted entry_sorted a1 ?_
 unfold Builtin.«sorted»
 refine wpAny_bind
  (m := checkCount "sorted" 1 1 _) (wpAny_pure ?_)
 refine wpAny_bind (collect_tup p hz ?_)
 refine wpAny_bind (wpAny_newList ?_ hz)
 show wpAny _ _ _ _ _
  { s with heap := PySem.W.copyHeap s.heap vs }
 rw [sz]
 refine wpAny_bind (wpAny_holding
  (wpAny_call_entry_kw slot_list_sort ⟨_, PySem.W.copyHeap_at s.heap vs, rfl⟩ entry_list_sort ?_ (a2 _)))
 show wpAny (model prog w) A.in1.in1
  (Builtin.«list.sort» ⟨[.ref (s.heap.objs.size + 1)], kw⟩) _ _ _
 refine wpAny_mono (body _) (fun f s' z => ?_) fun _ _ e => e
 obtain ⟨e, z⟩ := z
 subst e
 exact ⟨_, rfl, wpAny_pure ⟨_, rfl, z⟩⟩
theorem sorted_key_tup {β : Type} {R : Value → β → Prop} {bs : List β} {l : Addr} {vs : List Value} {f : Value} {kw : List (Str × Value)} {Q : Value → Shared → Prop} (k : β → PyData) (p : IsTup s.heap l vs.toArray) (e : PySem.W.EachIs R vs bs) (hal : PySem.W.AllAlike (bs.map k)) (hk : PySem.W.Sortable (bs.map k)) (hL : bs.length ≤ sizeLine)
  (hu : ∀ x, x ∈ bs → A.units + 2 + (k x).depth < cLine) (a1 : argsOk "sorted" ⟨[.ref l], kw⟩) (a2 : ∀ x, argsOk "list.sort" ⟨[.ref x], kw⟩) (ht : ∀ x, Builtin.«list.sort» ⟨[.ref x], kw⟩ = ksk_tree x f false)
  (turn : ∀ (v : Value) (x : β), R v x → x ∈ bs → ∀ (h : Heap) (tk : Nat), (∀ b o, s.heap.get? b = some o → h.get? b = some o) →
   wpAny (model prog w) A.in1.in1 (call f [v]) (PySem.W.KeyPure (k x) { s with heap := h, toks := tk }) (fun _ _ => False) { s with heap := h, toks := tk })
  (q : ∀ out c h' tk, (∀ b o, s.heap.get? b = some o → h'.get? b = some o) → h'.get? (s.heap.objs.size + 1) = some (seqObj "list" (List.toArray out) c) → out.length = bs.length → PySem.W.EachIs R out (bs.mergeSort (PySem.W.dataLe false k)) →
   Q (.ref (s.heap.objs.size + 1)) { s with heap := h', toks := tk }) :
  wpAny (model prog w) A (call (.builtin "sorted") [.ref l] kw) Q E s := by
 have grown : ∀ {g : Heap}, PySem.W.KeepsBut (s.heap.objs.size + 1) (PySem.W.copyHeap s.heap vs) g → ∀ b o, s.heap.get? b = some o → g.get? b = some o := fun kp b o z =>
  kp b o (Nat.ne_of_lt (Nat.lt_succ_of_lt (Heap.lt_size z))) (PySem.W.copyHeap_old z)
 have hlen : (bs.map k).length = vs.length := by rw [List.length_map]; exact e.length.symm
 refine sort_of_tup p (by rw [e.length]; exact hL) a1 a2 fun E' => ?_
 rw [ht]
 refine PySem.W.keyH_tree (kz := bs.map k) (s := { s with heap := PySem.W.copyHeap s.heap vs })
  (PySem.W.copyHeap_at s.heap vs) hlen (by rw [e.length]; exact hL) hal hk (fun d hd => ?_)
  (PySem.W.keyH_turns (s := { s with heap := PySem.W.copyHeap s.heap vs }) e fun v x hR hx h tk kp => turn v x hR hx h tk (grown kp))
  fun h' tk out c kp hD ko => ⟨rfl, ?_⟩
 ·obtain ⟨x, hx, rfl⟩ := List.mem_map.mp hd
  have := hu x hx
  show A.units + 1 + 1 + _ < _
  omega
 ·exact q out c h' tk (grown kp) hD ((ko.length hlen).trans e.length) (PySem.W.keyedOut_each k ko e)
end
structure Lam1 (nm : Str) (scope : Scope) : Prop where
 kind : scope.kind = .function
 co : scope.isCoroutine = false
 gen : scope.isGenerator = false
 loc : scope.names.lookup nm = some .local
 own : ∀ y ∈ scope.names, y.2 ≠ .cell
section
variable {prog : Program} {w : World} {A : Around} {E : Value → Shared → Prop} {s : Shared}
theorem lam_pair {f r : Addr} {c' : Addr} {name qual nm : Str} {params : Arguments} {scope : Scope} {pm ctv : Value} {items : Array Value} {i j : Int} {ki kj : Nat} {u v : Value} {k1 k2 p1 p2 p3 p4 p5 p6 kt pt} {Q : Value → Shared → Prop}
  (L : Lam1 nm scope) (hroom : A.depth < recursionLimit)
  (ho : s.heap.get? f = some (PySem.W.kla_obj name qual params (.Tuple [.Subscript (.Name nm p1) (.Constant (.int i) k1 p2) p3, .Subscript (.Name nm p4) (.Constant (.int j) k2 p5) p6] kt pt) scope [] pm c' ctv))
  (hcd : s.heap.CodeRec (.ref c') qual) (hlim : s.heap.NoLimit)
  (hb : bindArgs (PySem.W.kla_fn name qual params (.Tuple [.Subscript (.Name nm p1) (.Constant (.int i) k1 p2) p3, .Subscript (.Name nm p4) (.Constant (.int j) k2 p5) p6] kt pt) scope [] pm (.ref c') ctv) ⟨[.ref r], []⟩ = pure [(nm, .ref r)])
  (ht : IsTup s.heap r items) (bi : -(2 ^ 63) ≤ i ∧ i < 2 ^ 63 ∧ seqIndex? i items.size = some ki ∧ items[ki]? = some u) (bj : -(2 ^ 63) ≤ j ∧ j < 2 ^ 63 ∧ seqIndex? j items.size = some kj ∧ items[kj]? = some v)
  (hd : (nm == ("__debug__" : Str)) = false)
  (q : ∀ h' tk a, (∀ b o, s.heap.get? b = some o → h'.get? b = some o) → IsTup h' a #[u, v] → Q (.ref a) { s with heap := h', toks := tk }) :
  wpAny (model prog w) A (call (.ref f) [.ref r]) Q E s := by
 refine wpAny_call (PySem.W.kla_callFunE hroom ho rfl L.co L.gen rfl hcd ?_)
 rw [hb]
 refine wpAny_pure (wpAny_newFunctionEnv L.own (fun y hy => ?_) (fun h1 hns hsb => ⟨hlim.fresh _ hsb, ?_⟩) L.kind)
 ·have e : y = (nm, .ref r) := by simpa using hy
  rw [e]; exact L.loc
 refine PySem.W.kla_codeExpr ?_
 have kp : ∀ b o, s.heap.get? b = some o → h1.get? b = some o := fun b o e => hsb.extBut b o (Nat.ne_of_lt (Heap.lt_size e)) (Heap.get?_push_of_some _ e)
 have ht1 : IsTup h1 r items := ht.keeps kp
 have nml : (fun y => ([(nm, Value.ref r)] : List (Str × Value)).reverse.lookup y) nm = some (.ref r) := by
  show ([(nm, Value.ref r)] : List (Str × Value)).lookup nm = _
  simp
 refine wpAny_Tuple_spliced ?_
 show wpAny _ _ (spliced [(false, _), (false, _)]) _ _ _
 refine Calls.spliced_cons (Subscript_ (wpAny_Name (wpAny_loadName_local L.kind L.loc hns nml ?_) hd))
 refine wpAny_Constant_int (item_tuple (ht1) bi.1 bi.2.1 bi.2.2.1 bi.2.2.2 ?_)
 refine Calls.spliced_cons (Subscript_ (wpAny_Name (wpAny_loadName_local L.kind L.loc hns nml ?_) hd))
 refine wpAny_Constant_int (item_tuple (ht1) bj.1 bj.2.1 bj.2.2.1 bj.2.2.2 ?_)
 refine Calls.spliced_nil ⟨by show 2 ≤ sizeLine; decide, ?_⟩
 exact q _ _ _ (fun b o e => Heap.get?_push_of_some _ (kp b o e)) (IsTup.new _ _)
end
section
variable {X : Cx} {T : List (Addr × Str)} {e : Expr} {te : TEp}
def keyP (i j : Int) : PV → PyData
 | .tup xs => match atI xs i, atI xs j with
  | some a, some b => .tuple [encD a, encD b]
  | _, _ => .none
 | _ => .none
def flatD : PV → Bool
 | .int _ => true
 | .str _ => true
 | _ => false
def tSortLP (i j : Int) (te : TEp) : TEp := fun η P => te η fun x η1 => match x with
 | .tup xs => (∀ y ∈ xs, ∃ ys a b, y = .tup ys ∧ atI ys i = some a ∧ atI ys j = some b ∧ flatD a = true ∧ flatD b = true) ∧ PySem.W.AllAlike (xs.map (keyP i j)) ∧ xs.length ≤ sizeLine ∧ P (.lst (xs.mergeSort (PySem.W.dataLe false (keyP i j)))) η1
 | _ => False
theorem flat_reads {K : PySem.W.Frag} {O H} {h : Heap} {x : PV} {v : V} {u : Value} (f : flatD x = true) (r : Rep K O H x v) (ru : L2.RelV v u) : Reads h u (encD x) [] := by
 cases x with
 | int i =>
  cases r.int_
  obtain ⟨t, rfl⟩ := ru
  exact .int _ _
 | str i =>
  cases r.str_
  obtain ⟨t, rfl⟩ := ru
  exact .str _ _
 | _ => cases f
theorem z_sortL {i j : Int} {nm : Str} {x : Str} {p lpos pos kpos : Pos} {params : Arguments} {scope : Scope} {c P : Addr} {k1 k2 p1 p2 p3 p4 p5 p6 kt pt} {k : Nat}
  (hg : Gl X "sorted") (hm : X.mg "sorted" = none) (he : PE X e (up X.K T te)) (hr : Room k X.A) (L : Lam1 nm scope) (hdef : defaultsOf params X.env = ([], [])) (TB : LamX.TabB X.base X.mg c P) (hcode : X.env.code = .ref c) (hmT : (P, X.env.qual ++ "<lambda>") ∈ T) (huT : ∀ p ∈ T, p.1 = P → p.2 = X.env.qual ++ "<lambda>")
  (hfree : ∀ y ∈ scope.names, y.2 ≠ .free)
  (hcl : cloFrom X.env.cells scope.names [] = [])
  (hb : ∀ (r : Addr) (q : Str) (pm cv ctv : Value), bindArgs (PySem.W.kla_fn "<lambda>" q params (.Tuple [.Subscript (.Name nm p1) (.Constant (.int i) k1 p2) p3, .Subscript (.Name nm p4) (.Constant (.int j) k2 p5) p6] kt pt) scope [] pm cv ctv) ⟨[.ref r], []⟩ = pure [(nm, .ref r)])
  (bi : -(2 ^ 63) ≤ i ∧ i < 2 ^ 63) (bj : -(2 ^ 63) ≤ j ∧ j < 2 ^ 63) (hd : (nm == ("__debug__" : Str)) = false)
  (hs : starEach [e] X.env = [(false, eval e X.env)] := by rfl) (h5 : backTo pos (starEach [e] X.env) = (false, eval e X.env) :: backTo pos (starEach [] X.env) := by rfl) (h6 : (backTo pos (starEach [e] X.env)).any (·.1) = false := by rfl) :
  PE X (.Call (.Name "sorted" p) [e] [⟨some "key", .Lambda params (.Tuple [.Subscript (.Name nm p1) (.Constant (.int i) k1 p2) p3, .Subscript (.Name nm p4) (.Constant (.int j) k2 p5) p6] kt pt) scope lpos, kpos⟩] pos) (up X.K T (tSortLP i j te)) := by
 constructor
 intro pins s σ H Q I h
 obtain ⟨F, η, PP, R, h, kk⟩ := h
 apply wpAny_Call_Name_kw
 refine ld_blt (u := .builtin "sorted") I hg hm (by decide +kernel) ?_
 refine PyProof.Rows.callWith_kw (thn ((pa_cons he pa_nil hs).run pos pins s σ H (fun vs H1 => ∃ xs η1 a us, vs = [V.ref a] ∧ TupAt X.K (Oof F σ η1) H1 a us ∧ Reps X.K (Oof F σ η1) H1 xs us ∧ Rs X.K T F σ η1 H1 ∧ Ext σ η σ η1 H H1 ∧
  (∀ y ∈ xs, ∃ ys a b, y = .tup ys ∧ atI ys i = some a ∧ atI ys j = some b ∧ flatD a = true ∧ flatD b = true) ∧ PySem.W.AllAlike (xs.map (keyP i j)) ∧ xs.length ≤ sizeLine ∧ PP (.lst (xs.mergeSort (PySem.W.dataLe false (keyP i j)))) η1) I ?_) fun us s1 hA => ?_) ?_ ?_ ?_ ?_
 ·refine ⟨F, η, _, R, h, fun x η1 v H1 h1 e1 R1 r1 => ?_⟩
  split at h1
  ·obtain ⟨a, us, rfl, t, rr⟩ := r1.tup_
   exact ⟨_, η1, a, us, rfl, t, rr, R1, e1, h1⟩
  ·cases h1
 ·obtain ⟨vs, H1, I1, r1, xs, η1, a, us', rfl, tA, rr, R1, e1, hx, hal, hz, hP⟩ := hA
  obtain ⟨u0, rfl, ru⟩ := vals1 r1
  cases ru
  show wpAny _ _ (evalAll [do let v ← eval (.Lambda params (.Tuple [.Subscript (.Name nm p1) (.Constant (.int i) k1 p2) p3, .Subscript (.Name nm p4) (.Constant (.int j) k2 p5) p6] kt pt) scope lpos) X.env; standAt pos; pure v]) _ _ s1
  refine wpAny_evalAll_cons (wpAny_bind (LamX.lam_make2 I1 TB hcode hmT huT R1.tb hdef (fun y hy e => absurd e (hfree y hy)) fun f c' pm ctv H2 s2 I2 eN T2 hf hfn hfr hco => wpAny_bind (wpAny_standAt (wpAny_pure (wpAny_evalAll_nil ?_)))))
  have g : Gr H1 H2 := ⟨eN, fun b n q => n fun o ho => Classical.byContradiction fun nt => q.no (eN b o ho fun ps z => nt ⟨ps, z⟩) fun ps z => nt ⟨ps, z⟩⟩
  have R2 := R1.gr g T2
  have c12 : Car (Oof F σ η1) (Oof F σ η1) H1 H2 := g.car
  have tA2 := tA.car c12
  have rr2 := rr.car c12
  obtain ⟨its, rits, p, hz2⟩ := I2.tuple tA2.sq
  rw [hcl] at hf
  obtain ⟨⟨oc, vs, tq, hoc, hdc, hvc⟩, _, _⟩ := I2.hok c' _ hco
  have hu := hr.un
  have hdp := hr.dp
  have hmem : ∀ y ∈ xs, (keyP i j y).depth ≤ 1 ∧ ∃ ys a b, y = .tup ys ∧ atI ys i = some a ∧ atI ys j = some b ∧ flatD a = true ∧ flatD b = true := fun y hy => by
   obtain ⟨ys, a, b, rfl, ha, hb', fa, fb⟩ := hx y hy
   refine ⟨?_, ys, a, b, rfl, ha, hb', fa, fb⟩
   unfold keyP
   simp only [ha, hb']
   cases a <;> first | cases fa | skip
   all_goals (cases b <;> first | cases fb | skip)
   all_goals (simp [encD, toD, PyData.depth, PyData.depthAll])
  refine sorted_key_tup (R := ValR X.K (Oof F σ η1) H2) (bs := xs) (f := .ref f) (keyP i j) p (each_val rr2 rits) hal ?_ hz (fun y hy => by have := (hmem y hy).1; omega) (ksk_s1 _ _) (fun x => ?_) (fun x => ksk_t1 f x) ?_ ?_
  ·refine .inl fun d hd => ?_
   obtain ⟨y, hy, rfl⟩ := List.mem_map.mp hd
   obtain ⟨_, ys, a, b, rfl, ha, hb', _, _⟩ := hmem y hy
   exact ⟨encD a, [encD b], by unfold keyP; simp only [ha, hb']⟩
  ·exact ksk_l1 _ _
  ·rintro v y ⟨w, rw', rep⟩ hy h tk kp
   obtain ⟨_, ys, a, b, rfl, ha, hb', fa, fb⟩ := hmem y hy
   obtain ⟨r, ws, rfl, t, rw2⟩ := rep.tup_
   cases rw'
   obtain ⟨its2, r3, p3, _⟩ := I2.tuple t.sq
   have lens : its2.length = ys.length := by rw [← r3.length]; exact rw2.len
   have item : ∀ {k : Int} {z : PV}, atI ys k = some z → flatD z = true → ∃ kk uu, seqIndex? k its2.toArray.size = some kk ∧ its2.toArray[kk]? = some uu ∧ ∀ h', Reads h' uu (encD z) [] := fun {k z} hk fz => by
    obtain ⟨kk, q1, q2, _⟩ := atI_get hk
    obtain ⟨v', q3, q4⟩ := rw2.get q2
    obtain ⟨uu, q5, q6⟩ := r3.get q3
    refine ⟨kk, uu, by rw [List.size_toArray, lens]; exact q1, by simpa using q5, fun h' => flat_reads fz q4 q6⟩
   obtain ⟨ki, ui, i1, i2, i3⟩ := item ha fa
   obtain ⟨kj, uj, j1, j2, j3⟩ := item hb' fb
   refine lam_pair (c' := c') (items := its2.toArray) L ?_ (kp _ _ hf) ⟨c', oc, vs, tq, rfl, kp _ _ hoc, hdc, hvc⟩ (I2.nolimit.keeps kp) (hb _ _ _ _ _) (p3.keeps kp) ⟨bi.1, bi.2, i1, i2⟩ ⟨bj.1, bj.2, j1, j2⟩ hd fun h' tk' a' kp' ht' => ?_
   ·show X.A.depth < recursionLimit
    omega
   ·refine ⟨h', tk', rfl, kp', ?_⟩
    obtain ⟨o, ho, hc, n, hd'⟩ := ht'
    have e : keyP i j (.tup ys) = .tuple [encD a, encD b] := by unfold keyP; simp only [ha, hb']
    rw [e]
    exact Reads.tuple ho hc hd' (ReadsAll.cons (i3 h') (ReadsAll.cons (j3 h') ReadsAll.nil))
  ·intro out cc h' tk kp hD ho eo
   obtain ⟨ys, r3, r4⟩ := val_each eo
   have fr : H2 (s2.heap.objs.size + 1) = none := I2.hok.fresh (Nat.le_succ _)
   refine ⟨.ref (s2.heap.objs.size + 1), upd H2 (s2.heap.objs.size + 1) (.lst ys), I2.laid (t' := tk) kp (Nat.le_succ _) ⟨?_, out, cc, r4, hD⟩, rfl, ?_⟩
   ·rw [r3.len, List.length_mergeSort]; exact hz
   ·exact kk _ η1 _ _ hP ((e1.trans g.ext).trans (.same (Same.new fr))) (R2.same (Same.new fr)) (rep_newL R2.trO fr r3)
 ·exact h5
 ·exact h6
 all_goals rfl
end
inductive Ar where
 | v (x : PV) | fo (o : Ow)
abbrev Ar.f (xs : List PV) : Ar := .fo (.l xs)
abbrev TArp := EP' → (List Ar → EP' → Prop) → Prop
def ArOk (K : PySem.W.Frag) (O : Addr → Prop) (H : Hp) : List Ar → List V → Prop
 | [], vs => vs = []
 | .v x :: ars, vs => ∃ v us, vs = v :: us ∧ Rep K O H x v ∧ ArOk K O H ars us
 | .fo o :: ars, vs => ∃ a us, vs = .ref a :: us ∧ OwAt K O H a o ∧ ArOk K O H ars us
def ArNew (F : Addr → Prop) (H : Hp) : List Ar → List V → Prop
 | .v _ :: ars, _ :: us => ArNew F H ars us
 | .fo _ :: ars, .ref a :: us => Nw H a ∧ ¬ F a ∧ ArNew (With F a) H ars us
 | [], [] => True
 | _, _ => False
def FA (F : Addr → Prop) : List Ar → List V → Addr → Prop
 | .v _ :: ars, _ :: us => FA F ars us
 | .fo _ :: ars, .ref a :: us => FA (With F a) ars us
 | _, _ => F
def upAr (K : PySem.W.Frag) (T : List (Addr × Str)) (tp : TArp) : TA := fun σ H Q => ∃ F η P, Rs K T F σ η H ∧ tp η P ∧ ∀ ars η' vs H', P ars η' → Ext σ η σ η' H H' → Rs K T (FA F ars vs) σ η' H' → ArNew F H ars vs → ArOk K (Oof (FA F ars vs) σ η') H' ars vs → Q vs H'
section
variable {K : PySem.W.Frag} {T : List (Addr × Str)} {F : Addr → Prop} {σ : St} {η : EP'} {H H' : Hp}
theorem ArOk.mono {O O' : Addr → Prop} (h : ∀ a, O' a → O a) : ∀ {ars : List Ar} {vs : List V}, ArOk K O H ars vs → ArOk K O' H ars vs
 | [], _, r => r
 | .v x :: ars, _, r => by
  obtain ⟨v, us, rfl, r1, r2⟩ := r
  exact ⟨v, us, rfl, r1.mono h, r2.mono h⟩
 | .fo o :: ars, _, r => by
  obtain ⟨a, us, rfl, r1, r2⟩ := r
  exact ⟨a, us, rfl, r1.mono h, r2.mono h⟩
theorem FA_with {a b : Addr} : ∀ {ars : List Ar} {vs : List V} {F : Addr → Prop}, FA (With F a) ars vs b ↔ FA F ars vs b ∨ b = a
 | [], [], F => Iff.rfl
 | [], _ :: _, F => Iff.rfl
 | .v _ :: ars, _ :: us, F => FA_with (ars := ars) (vs := us)
 | .v _ :: _, [], F => Iff.rfl
 | .fo _ :: ars, .ref c :: us, F => by
  show FA (With (With F a) c) ars us b ↔ FA (With F c) ars us b ∨ b = a
  rw [FA_with, FA_with, FA_with]
  constructor
  ·rintro ((h | h) | h)
   ·exact .inl (.inl h)
   ·exact .inr h
   ·exact .inl (.inr h)
  ·rintro ((h | h) | h)
   ·exact .inl (.inl h)
   ·exact .inr h
   ·exact .inl (.inr h)
 | .fo _ :: _, [], F => Iff.rfl
 | .fo _ :: _, .non :: _, F => Iff.rfl
 | .fo _ :: _, .bl _ :: _, F => Iff.rfl
 | .fo _ :: _, .int _ :: _, F => Iff.rfl
 | .fo _ :: _, .str _ :: _, F => Iff.rfl
 | .fo _ :: _, .byt _ :: _, F => Iff.rfl
 | .fo _ :: _, .flt _ :: _, F => Iff.rfl
 | .fo _ :: _, .ty _ :: _, F => Iff.rfl
theorem ArNew.mono : ∀ {ars : List Ar} {vs : List V} {F F' : Addr → Prop}, (∀ a, F' a → F a) → ArNew F H ars vs → ArNew F' H ars vs
 | [], [], _, _, _, _ => trivial
 | [], _ :: _, _, _, _, h => h.elim
 | .v _ :: ars, _ :: us, _, _, m, h => ArNew.mono (ars := ars) (vs := us) m h
 | .v _ :: _, [], _, _, _, h => h.elim
 | .fo _ :: ars, .ref c :: us, _, _, m, h => ⟨h.1, fun z => h.2.1 (m c z), ArNew.mono (ars := ars) (vs := us) (fun a z => z.elim (fun z => .inl (m a z)) .inr) h.2.2⟩
 | .fo _ :: _, [], _, _, _, h => h.elim
 | .fo _ :: _, .non :: _, _, _, _, h => h.elim
 | .fo _ :: _, .bl _ :: _, _, _, _, h => h.elim
 | .fo _ :: _, .int _ :: _, _, _, _, h => h.elim
 | .fo _ :: _, .str _ :: _, _, _, _, h => h.elim
 | .fo _ :: _, .byt _ :: _, _, _, _, h => h.elim
 | .fo _ :: _, .flt _ :: _, _, _, _, h => h.elim
 | .fo _ :: _, .ty _ :: _, _, _, _, h => h.elim
theorem FA_not {a : Addr} : ∀ {ars : List Ar} {vs : List V} {F : Addr → Prop}, ArNew (With F a) H ars vs → ¬ F a → ¬ FA F ars vs a
 | [], [], _, _, n, h => n h
 | [], _ :: _, _, h, _, _ => h.elim
 | .v _ :: ars, _ :: us, _, h, n, z => FA_not (ars := ars) (vs := us) h n z
 | .v _ :: _, [], _, h, _, _ => h.elim
 | .fo _ :: ars, .ref c :: us, F, h, n, z => by
  have z' : FA (With F c) ars us a := z
  have hc : ¬ With F a c := h.2.1
  rcases FA_with.mp z' with z' | z'
  ·exact FA_not (ars := ars) (vs := us) (F := F) (h.2.2.mono fun b q => .inl q) n z'
  ·exact hc (.inr z'.symm)
 | .fo _ :: _, [], _, h, _, _ => h.elim
 | .fo _ :: _, .non :: _, _, h, _, _ => h.elim
 | .fo _ :: _, .bl _ :: _, _, h, _, _ => h.elim
 | .fo _ :: _, .int _ :: _, _, h, _, _ => h.elim
 | .fo _ :: _, .str _ :: _, _, h, _, _ => h.elim
 | .fo _ :: _, .byt _ :: _, _, h, _, _ => h.elim
 | .fo _ :: _, .flt _ :: _, _, h, _, _ => h.elim
 | .fo _ :: _, .ty _ :: _, _, h, _, _ => h.elim
def storesV : List Nat → List V → St → St
 | i :: is, v :: vs, σ => storesV is vs (σ.set i (some v))
 | _, _, σ => σ
def storesP : List Nat → List Ar → EP' → EP'
 | i :: is, .v x :: ars, η => storesP is ars (η.set i (.va x))
 | i :: is, .fo o :: ars, η => storesP is ars (η.set i (.ow o))
 | _, _, η => η
def okIx (n : Nat) : List Nat → List Ar → Prop
 | i :: is, .v _ :: ars => okIx n is ars
 | i :: is, .fo _ :: ars => 0 ≠ i ∧ i < n ∧ okIx n is ars
 | [], [] => True
 | _, _ => False
theorem stores_ok {σ0 : St} {η0 : EP'} {H0 : Hp} : ∀ {is : List Nat} {ars : List Ar} {vs : List V} {F : Addr → Prop} {σ : St} {η : EP'}, okIx η.length is ars → Rs K T (FA F ars vs) σ η H → Ext σ0 η0 σ η H0 H → ArNew F H0 ars vs → ArOk K (Oof (FA F ars vs) σ η) H ars vs →
  Rs K T F (storesV is vs σ) (storesP is ars η) H ∧ Ext σ0 η0 (storesV is vs σ) (storesP is ars η) H0 H
 | [], [], vs, F, σ, η, _, R, E, N, A => by
  have A' : vs = [] := A
  subst A'
  exact ⟨R, E⟩
 | i :: is, .v x :: ars, vs, F, σ, η, hi, R, E, N, A => by
  obtain ⟨v, us, rfl, r, A⟩ := A
  have R' : Rs K T (FA F ars us) σ η H := R
  have m : ∀ a, Oof (FA F ars us) (σ.set i (some v)) (η.set i (.va x)) a → Oof (FA F ars us) σ η a := Oof_mono fun b z => own_set z
  exact stores_ok (is := is) (ars := ars) (vs := us) (F := F) (by rw [List.length_set]; exact hi) (R'.setv r) (E.trans .setv) N (A.mono m)
 | i :: is, .fo o :: ars, vs, F, σ, η, hi, R, E, N, A => by
  obtain ⟨a, us, rfl, r, A⟩ := A
  obtain ⟨h0, hl, hi⟩ := hi
  obtain ⟨n1, n2, N⟩ := N
  have R0 : Rs K T (FA (With F a) ars us) σ η H := R
  have nf : ¬ FA F ars us a := FA_not N n2
  have R1 : Rs K T (With (FA F ars us) a) σ η H := R0.shrink fun b z => FA_with.mpr z
  have m0 : ∀ b, Oof (With (FA F ars us) a) σ η b → Oof (FA (With F a) ars us) σ η b := fun b z => z.elim (fun z => .inl (FA_with.mpr z)) .inr
  have R2 := R1.seto (i := i) (o := o) nf (r.mono m0) hl
  have m1 : ∀ b, Oof (FA F ars us) (σ.set i (some (.ref a))) (η.set i (.ow o)) b → Oof (FA (With F a) ars us) σ η b := by
   rintro b (z | ⟨j, p, z1, z2⟩)
   ·exact .inl (FA_with.mpr (.inl z))
   ·by_cases hj : j = i
    ·subst hj
     cases at_set z1
     exact .inl (FA_with.mpr (.inr rfl))
    ·rw [ne_set hj] at z1 z2
     exact .inr ⟨j, p, z1, z2⟩
  exact stores_ok (is := is) (ars := ars) (vs := us) (F := F) (by rw [List.length_set]; exact hi) R2 (E.seto n1 h0) (N.mono fun b z => .inl z) (A.mono m1)
 | [], .v _ :: _, _, _, _, _, h, _, _, _, _ => h.elim
 | [], .fo _ :: _, _, _, _, _, h, _, _, _, _ => h.elim
 | _ :: _, [], _, _, _, _, h, _, _, _, _ => h.elim
end
section
variable {X : Cx} {T : List (Addr × Str)} {e a b c : Expr} {es : List Expr} {te : TEp} {tf : TFp} {tr : TArp} {pos : Pos}
def tNilAr : TArp := fun η P => P [] η
def tConsV (te : TEp) (t : TArp) : TArp := fun η P => te η fun x η1 => t η1 fun ars η2 => P (.v x :: ars) η2
def tConsF (tf : TFp) (t : TArp) : TArp := fun η P => tf η fun xs η1 => t η1 fun ars η2 => P (.f xs :: ars) η2
theorem zr_nil : PA X [] (upAr X.K T tNilAr) := by
 refine PA.weak pa_nil fun σ H Q q => ?_
 obtain ⟨F, η, P, R, h, k⟩ := q
 exact k [] η [] H h .refl R trivial rfl
theorem new_back {F : Addr → Prop} {σ : St} {η η1 : EP'} {H H1 : Hp} (e : Ext σ η σ η1 H H1) : ∀ {ars : List Ar} {vs : List V} {F : Addr → Prop}, ArNew F H1 ars vs → ArNew F H ars vs
 | [], [], _, _ => trivial
 | [], _ :: _, _, h => h.elim
 | .v _ :: ars, _ :: us, _, h => new_back e (F := F) (ars := ars) (vs := us) h
 | .v _ :: _, [], _, h => h.elim
 | .fo _ :: ars, .ref c :: us, _, h => ⟨e.nw h.1, h.2.1, new_back e (F := F) (ars := ars) (vs := us) h.2.2⟩
 | .fo _ :: _, [], _, h => h.elim
 | .fo _ :: _, .non :: _, _, h => h.elim
 | .fo _ :: _, .bl _ :: _, _, h => h.elim
 | .fo _ :: _, .int _ :: _, _, h => h.elim
 | .fo _ :: _, .str _ :: _, _, h => h.elim
 | .fo _ :: _, .byt _ :: _, _, h => h.elim
 | .fo _ :: _, .flt _ :: _, _, h => h.elim
 | .fo _ :: _, .ty _ :: _, _, h => h.elim
theorem car_FA {F G : Addr → Prop} {σ : St} {η η1 : EP'} {H H1 : Hp} (e : Ext σ η σ η1 H H1) (hn : ∀ b, G b → F b ∨ Nw H b) : Car (Oof F σ η) (Oof G σ η1) H H1 := fun a o n h t => by
 obtain ⟨k, n'⟩ := e.car (F := F) a o n h t
 refine ⟨k, fun z => ?_⟩
 rcases z with z | z
 ·rcases hn a z with z | z
  ·exact n (.inl z)
  ·exact z.no h t
 ·exact n' (.inr z)
theorem FA_new {H : Hp} : ∀ {ars : List Ar} {vs : List V} {F : Addr → Prop} {b : Addr}, ArNew F H ars vs → FA F ars vs b → F b ∨ Nw H b
 | [], [], _, _, _, h => .inl h
 | [], _ :: _, _, _, h, _ => h.elim
 | .v _ :: ars, _ :: us, _, _, h, z => FA_new (ars := ars) (vs := us) h z
 | .v _ :: _, [], _, _, h, _ => h.elim
 | .fo _ :: ars, .ref c :: us, F, b, h, z => by
  rcases FA_new (ars := ars) (vs := us) (F := With F c) h.2.2 z with (q | q) | q
  ·exact .inl q
  ·rw [q]; exact .inr h.1
  ·exact .inr q
 | .fo _ :: _, [], _, _, h, _ => h.elim
 | .fo _ :: _, .non :: _, _, _, h, _ => h.elim
 | .fo _ :: _, .bl _ :: _, _, _, h, _ => h.elim
 | .fo _ :: _, .int _ :: _, _, _, h, _ => h.elim
 | .fo _ :: _, .str _ :: _, _, _, h, _ => h.elim
 | .fo _ :: _, .byt _ :: _, _, _, h, _ => h.elim
 | .fo _ :: _, .flt _ :: _, _, _, h, _ => h.elim
 | .fo _ :: _, .ty _ :: _, _, _, h, _ => h.elim
theorem zr_v (he : PE X e (up X.K T te)) (hr : PA X es (upAr X.K T tr)) (hs : starEach (e :: es) X.env = (false, eval e X.env) :: starEach es X.env := by rfl) : PA X (e :: es) (upAr X.K T (tConsV te tr)) := by
 refine PA.weak (pa_cons he hr hs) fun σ H Q q => ?_
 obtain ⟨F, η, P, R, h, k⟩ := q
 refine ⟨F, η, _, R, h, fun x η1 v H1 h1 e1 R1 r1 => ⟨F, η1, _, R1, h1, fun ars η2 vs H2 h2 e2 R2 N2 A2 => ?_⟩⟩
 exact k (.v x :: ars) η2 (v :: vs) H2 h2 (e1.trans e2) R2 (show ArNew F H ars vs from new_back (F := F) e1 N2) ⟨v, vs, rfl, r1.car (car_FA e2 fun b z => FA_new N2 z), A2⟩
theorem zr_f (he : PE X e (upF X.K T tf)) (hr : PA X es (upAr X.K T tr)) (hs : starEach (e :: es) X.env = (false, eval e X.env) :: starEach es X.env := by rfl) : PA X (e :: es) (upAr X.K T (tConsF tf tr)) := by
 refine PA.weak (pa_cons he hr hs) fun σ H Q q => ?_
 obtain ⟨F, η, P, R, h, k⟩ := q
 refine ⟨F, η, _, R, h, fun xs η1 a ws H1 h1 e1 R1 hn nf hv r1 => ⟨With F a, η1, _, R1, h1, fun ars η2 vs H2 h2 e2 R2 N2 A2 => ?_⟩⟩
 have na : ¬ IsOwn σ η1 a := fun z => by
  obtain ⟨j, p, z1, z2⟩ := z
  obtain ⟨b, q1, q2, q3⟩ := R1.ow j p z2
  rw [z1] at q1; cases q1
  exact q3 (.inr rfl)
 exact k (.f xs :: ars) η2 (.ref a :: vs) H2 h2 (e1.trans e2) R2 ⟨hn, nf, new_back (F := F) e1 N2⟩ ⟨a, vs, rfl, ⟨ws, e2.keep a _ hv na nofun, r1.car (car_FA e2 fun b z => FA_new N2 z)⟩, A2⟩
def tParP (is : List Nat) (tr : TArp) : TSp := fun D η => tr η fun ars η1 => ars.length = is.length ∧ okIx η1.length is ars ∧ D.nx (storesP is ars η1)
theorem ArOk.len {K : PySem.W.Frag} {O H} : ∀ {ars : List Ar} {vs : List V}, ArOk K O H ars vs → vs.length = ars.length
 | [], _, r => by
  have r' : _ = [] := r
  rw [r']; rfl
 | .v x :: ars, _, r => by
  obtain ⟨v, us, rfl, r1, r2⟩ := r
  simp [r2.len]
 | .fo o :: ars, _, r => by
  obtain ⟨a, us, rfl, r1, r2⟩ := r
  simp [r2.len]
theorem par_up {K : PySem.W.Frag} {is : List Nat} {D : Ends} {σ : St} {H : Hp} (q : upS K T (tParP is tr) D σ H) : upAr K T tr σ H (fun vs H1 => vs.length = is.length ∧ D.nx (storesV is vs σ) H1) := by
 obtain ⟨F, η, D', R, h, k1, k2, k3, k4⟩ := q
 refine ⟨F, η, _, R, h, fun ars η1 vs H1 h1 e1 R1 N A => ⟨by rw [A.len]; exact h1.1, ?_⟩⟩
 obtain ⟨R2, E2⟩ := stores_ok (is := is) h1.2.1 R1 e1 N A
 exact k1 _ _ _ h1.2.2 E2 R2
theorem z_par2 {i j : Nat} {st : Stmt} {K0 : PySem.W.Frag} (hK : X.K = K0) (pf : PS X st (tPar i j (upAr K0 T tr))) : PS X st (upS K0 T (tParP [i, j] tr)) := by
 refine PS.weak pf fun D σ H q => ?_
 obtain ⟨F, η, P, R, h, k⟩ := par_up q
 refine ⟨F, η, P, R, h, fun ars η' vs H' h1 e1 R1 N A => ?_⟩
 obtain ⟨hl, hd⟩ := k ars η' vs H' h1 e1 R1 N A
 match vs, hl, hd with
 | [v, w], _, hd => exact ⟨v, w, rfl, hd⟩
theorem z_par3 {i j l : Nat} {st : Stmt} {K0 : PySem.W.Frag} (hK : X.K = K0) (pf : PS X st (tPar3 i j l (upAr K0 T tr))) : PS X st (upS K0 T (tParP [i, j, l] tr)) := by
 refine PS.weak pf fun D σ H q => ?_
 obtain ⟨F, η, P, R, h, k⟩ := par_up q
 refine ⟨F, η, P, R, h, fun ars η' vs H' h1 e1 R1 N A => ?_⟩
 obtain ⟨hl, hd⟩ := k ars η' vs H' h1 e1 R1 N A
 match vs, hl, hd with
 | [u, v, w], _, hd => exact ⟨u, v, w, rfl, hd⟩
end
section
variable {X : Cx} {T : List (Addr × Str)} {a b e o : Expr} {es : List Expr} {te ta tb : TEp} {t : TAp} {tf : TFp} {pos p apos : Pos} {x : Str}
theorem z_gi {i : Int} (hg : Gl X x) (h : ∃ u, X.mg x = some u ∧ RelV (.int i) u) (hd : (x == ("__debug__" : Str)) = false := by decide) : PE X (.Name x pos) (up X.K T (tConP (.int i))) := by
 obtain ⟨u, hm, r⟩ := h
 exact z_con (pe_glob hg hm r hd) fun _ _ => by unfold Rep; rfl
theorem z_gs {i : Str} (hg : Gl X x) (h : ∃ u, X.mg x = some u ∧ RelV (.str i) u) (hd : (x == ("__debug__" : Str)) = false := by decide) : PE X (.Name x pos) (up X.K T (tConP (.str i))) := by
 obtain ⟨u, hm, r⟩ := h
 exact z_con (pe_glob hg hm r hd) fun _ _ => by unfold Rep; rfl
theorem z_gc {C : Addr} (hg : Gl X x) (hm : X.mg x = some (.ref C)) (hd : (x == ("__debug__" : Str)) = false := by decide) : PE X (.Name x pos) (up X.K T (tConP (.raw (.ref C)))) := z_con (pe_glob (v := .ref C) hg hm rfl hd) fun _ _ => by unfold Rep; rfl
theorem z_ty {id : String} (hg : Gl X x) (hm : X.mg x = none) (hv : bootBuiltins x = some (.type id)) (hn : x ≠ "__name__" := by decide) (hd : (x == ("__debug__" : Str)) = false := by decide) : PE X (.Name x pos) (up X.K T (tConP (.raw (.ty id)))) := z_con (pe_bltn (v := .ty id) hg hm hv rfl hn hd) fun _ _ => by unfold Rep; rfl
def tNegP (te : TEp) : TEp := fun η P => te η fun x η1 => match x with | .int i => P (.int (-i)) η1 | _ => False
theorem zgs_cons1 {t : TGp} {u : TGsp} (h1 : PG X e (upG X.K T t)) (h2 : PGs X es (upGs X.K T u)) (hs : (assignEach (e :: es) X.env).map (·.2) = assign e X.env :: (assignEach es X.env).map (·.2) := by rfl) : PGs X (e :: es) (upGs X.K T (gConsP t u)) := zgs_cons h1 h2 (pgs_cons h1 h2 hs)
theorem z_chain1 {c : Expr} {tc : TEp} {op op' : CmpOp} {r r' : R2p} (ho : OpR X (compareOp op) (r2 X.K r)) (ho' : OpR X (compareOp op') (r2 X.K r')) (ha : PE X a (up X.K T ta)) (hb : PE X b (up X.K T tb)) (hc : PE X c (up X.K T tc))
  (hm : lastMarks [op, op'] [b, c] = false := by with_unfolding_all rfl) : PE X (.Compare a [op, op'] [b, c] pos) (up X.K T (tChainP r r' ta tb tc)) := z_chain ho ho' ha hb hc (pe_chain ho ho' ha hb hc hm)
theorem zt_chain {c : Expr} {tc : TEp} {op op' : CmpOp} {r r' : R2p} (ho : OpR X (compareOp op) (r2 X.K r)) (ho' : OpR X (compareOp op') (r2 X.K r')) (ha : PE X a (up X.K T ta)) (hb : PE X b (up X.K T tb)) (hc : PE X c (up X.K T tc))
  (hm : lastMarks [op, op'] [b, c] = false := by with_unfolding_all rfl) : PT X (.Compare a [op, op'] [b, c] pos) (upB X.K T (tBlP (tChainP r r' ta tb tc))) := by
 refine PT.weak (pt_chain ho ho' ha hb hc hm) fun σ H Q q => ?_
 obtain ⟨F, η, P, R, h, k⟩ := q
 refine ⟨F, η, _, R, h, fun x η1 v H1 h1 e1 R1 r1' => ⟨F, η1, _, R1, h1, fun y η2 w H2 h2 e2 R2' rw' => ?_⟩⟩
 refine ⟨Oof F σ η2, x, y, _, R2'.trO, r1'.car e2.car, rw', h2, fun z u H3 pz s rz => ?_⟩
 obtain ⟨kk, rfl, pz⟩ := pz
 unfold Rep at rz
 refine ⟨kk, rz, ?_⟩
 cases kk with
 | false => exact ⟨_, rfl, k _ η2 H3 pz ((e1.trans e2).trans (.same s)) (R2'.same s)⟩
 | true =>
  simp only [if_true] at pz ⊢
  refine ⟨F, η2, _, R2'.same s, pz, fun z' η3 u' H4 h4 e4 R4 r4 => ?_⟩
  refine ⟨Oof F σ η3, y, z', _, R4.trO, (rw'.car (Car.same s)).car e4.car, r4, h4, fun z2 u2 H5 p5 s5 r5 => ?_⟩
  split at p5
  ·unfold Rep at r5
   exact ⟨_, r5, k _ η3 H5 p5 ((((e1.trans e2).trans (.same s)).trans e4).trans (.same s5)) (R4.same s5)⟩
  ·cases p5
theorem zi_enum1 {p pos tpos : Pos} {elts : List Expr} {kk : Nat} (hg : Gl X "enumerate") (hm : X.mg "enumerate" = none) (he : PE X e (up X.K T te)) (hs : starEach [e] X.env = [(false, eval e X.env)] := by rfl) :
  PI X (.Tuple elts kk tpos) (.Call (.Name "enumerate" p) [e] [] pos) (upI X.K T (iEnumP te)) := zi_enumT hg hm he hs
def rMulA : R2p := fun x y P => rMul x y P ∨ rMulS x y P
theorem zo_mulA : OpR X (binaryOp .Mult) (r2 X.K rMulA) := by
 intro pins s σ H x y v u Q I rx ry q
 obtain ⟨O, px, py, P, tr, h1, h2, h, k⟩ := q
 rcases h with h | h
 ·exact zo_mul pins s σ H x y v u Q I rx ry ⟨O, px, py, P, tr, h1, h2, h, k⟩
 ·exact zo_mulS pins s σ H x y v u Q I rx ry ⟨O, px, py, P, tr, h1, h2, h, k⟩
end
structure FunX (K : PySem.W.Frag) (x qual : Str) (st : Stmt) (dvs : List V) (c f : Addr) (fd : FuncData) : Prop where
 ex : ∃ (oc : Value) (od : Option Addr) (dV kV doc pm : Value) (an : Option Addr) (ct : Value) (osl : Array (Option Value)),
  fd = PySem.W.fnOf x qual (defArgs st) (defBody st) (defScope st) dV kV doc pm an (.ref c) ct ∧ K.lookup f = some ⟨oc, od, .func fd, osl⟩ ∧ PySem.W.codeIn K (.ref c) qual = true ∧ DflV K dV dvs
 kp : PySem.W.keepIn K (.ref f) = true
section
variable {P : Program} {w : World} {K : PySem.W.Frag} {mg : Str → Option Value} {base : Heap} {T : List (Addr × Str)} {x qual : Str} {st : Stmt} {f c : Addr} {fd : FuncData} {dvs : List V} {ps : List Str}
theorem FunX.d (F : FunX K x qual st dvs c f fd) : FunD K x qual (defArgs st) (defBody st) (defScope st) dvs [] f fd := by
 obtain ⟨oc, od, dV, kV, doc, pm, an, ct, osl, h1, h2, h3, h4⟩ := F.ex
 exact ⟨⟨oc, od, dV, kV, doc, pm, an, .ref c, ct, osl, h1, h2, h3, h4, .inl rfl⟩, F.kp⟩
theorem FunX.b0 (F : FunX K x qual st dvs c f fd) (hd : dvs ≠ [])
  (h : ∀ (T : Addr) (kV doc pm : Value) (an : Option Addr) (cdv ct : Value) (us its : List Value), us.length = ps.length → its.length = dvs.length →
   ∃ k, bindArgs (PySem.W.fnOf x qual (defArgs st) (defBody st) (defScope st) (.ref T) kV doc pm an cdv ct) ⟨us, []⟩ = seqItems? (.ref T) >>= k ∧ k (some its.toArray) = pure (ps.zip (us ++ its.drop dvs.length))) : Binds K fd ps [] := by
 obtain ⟨ds, h1, h2⟩ := F.d.binds1 (ps := ps) ps.length dvs.length hd (by omega) h
 rw [List.drop_length] at h1
 cases ds with
 | nil => exact h2
 | cons => exact (nomatch h1)
end
end Z
namespace Z
open PySem PySem.Spec L2 ClX
open PyProof.Rows hiding St
structure SMet (K : PySem.W.Frag) (C : Addr) (mc : Value) (m : Str) (p g : Addr) : Prop where
 at_ : PySem.W.findCls K (.ref C) mc m = some (.get (.builtin "staticmethod.__get__") (.ref p) .none (.ref C))
 rc : ∃ rest, PySem.W.recIn K p "staticmethod" = some (.ref g :: rest)
 kp : PySem.W.keepIn K (.ref g) = true
structure SInst (K : PySem.W.Frag) (C : Addr) (m : Str) (p g : Addr) : Prop where
 pg : PySem.W.plainGet K C Str.empty = true
 ic : PySem.W.isClsIn K C = true
 at_ : PySem.W.findIn K (.ref C) m = some (some (.ref p))
 ty : PySem.W.typeIn K (.ref p) = some (.type "staticmethod")
 get : PySem.W.specialIn K (.ref p) "__get__" = some (some (.builtin "staticmethod.__get__"))
 tk : PySem.W.takesIn K (.ref p) = some false
 cp : PySem.W.copiedNames.contains m = false
 rc : ∃ rest, PySem.W.recIn K p "staticmethod" = some (.ref g :: rest)
 kp : PySem.W.keepIn K (.ref g) = true
section
variable {X : Cx} {T : List (Addr × Str)} {k : Nat} {C p g : Addr} {mc : Value} {sp : SpP} {o e : Expr} {es : List Expr} {m : Str} {pos apos kpos : Pos} {te ta : TEp} {t : TAp} {fd : FuncData} {ps ks : List Str} {kws : List Keyword} {nm : Option Str}
theorem PK.weak {kws : List Keyword} {t t' : TA} (h : PK X kws t) (w : ∀ σ H Q, t' σ H Q → t σ H Q) : PK X kws t' := ⟨fun pos pins s σ H Q I q => h.run pos pins s σ H Q I (w _ _ _ q)⟩
theorem zk_nil : PK X [] (upA X.K T tNilP) := by
 refine PK.weak pk_nil fun σ H Q q => ?_
 obtain ⟨F, η, P, R, h, k⟩ := q
 exact k [] η [] H h .refl R .nil
theorem zk_cons (ha : PE X e (up X.K T te)) (hr : PK X kws (upA X.K T t)) : PK X (⟨nm, e, kpos⟩ :: kws) (upA X.K T (tConsP te t)) := by
 refine PK.weak (pk_cons ha hr) fun σ H Q q => ?_
 obtain ⟨F, η, P, R, h, k⟩ := q
 refine ⟨F, η, _, R, h, fun x η1 v H1 h1 e1 R1 r1' => ⟨F, η1, _, R1, h1, fun y η2 w H2 h2 e2 R2' rw' => ?_⟩⟩
 exact k (x :: y) η2 (v :: w) H2 h2 (e1.trans e2) R2' (.cons (r1'.car e2.car) rw')
end
end Z
namespace Z
open PySem PySem.Spec L2 ClX
open PyProof.Rows hiding St
section
variable {X : Cx} {T : List (Addr × Str)} {C : Addr} {mc : Value} {e : Expr} {f : Str} {pos : Pos} {ta : TEp} {x : PV} {v : V} {u : Value}
def tDic0P : TEp := fun η P => P .dic0 η
theorem z_dic0 : PE X (.Dict [] [] pos) (up X.K T tDic0P) := by
 refine PE.weak pe_dnewK fun σ H Q q => ?_
 obtain ⟨F, η, P, R, h, kk⟩ := q
 intro p hp
 refine kk _ _ _ _ h (.same (Same.new hp)) (R.same (Same.new hp)) ?_
 unfold Rep
 exact ⟨p, [], rfl, R.trO.fresh hp, upd_same, RepD.nil⟩
end
def trk0 (ts : List Addr) (a : Addr) (o : Obj) (u : HO) : Hp := fun b => if b = a then some (.frz o u) else if b ∈ ts then some (.tbl #[]) else none
section
variable {ts : List Addr} {a b : Addr} {o : Obj} {u : HO}
theorem trk0_a : trk0 ts a o u a = some (.frz o u) := if_pos rfl
theorem trk0_t (n : b ≠ a) (h : b ∈ ts) : trk0 ts a o u b = some (.tbl #[]) := (if_neg n).trans (if_pos h)
theorem trk0_n (n : b ≠ a) (h : b ∉ ts) : trk0 ts a o u b = none := (if_neg n).trans (if_neg h)
end
def NoList (K : PySem.W.Frag) : Bool := K.all fun p => match p.2.cls with
 | .type n => !(n == "list")
 | _ => true
theorem noList_at {K : PySem.W.Frag} (h : NoList K = true) {b : Addr} {o : Obj} (e : K.lookup b = some o) : o.cls ≠ .type "list" := by
 intro z
 have hm : ∃ p ∈ K, p.2 = o := by
  clear h
  induction K with
  | nil => cases e
  | cons p r ih =>
   rw [List.lookup_cons] at e
   cases q : (b == p.1) with
   | true =>
    rw [q] at e
    exact ⟨p, List.mem_cons_self, Option.some.inj e⟩
   | false =>
    rw [q] at e
    obtain ⟨p', h1, h2⟩ := ih e
    exact ⟨p', List.mem_cons_of_mem _ h1, h2⟩
 obtain ⟨p, h1, h2⟩ := hm
 have h3 := List.all_eq_true.mp h p h1
 rw [h2, z] at h3
 exact absurd h3 (by decide)
structure AtEnd (K : PySem.W.Frag) (mg mb : Str → Option Value) (cs : List (Addr × Addr)) (h : Heap) : Prop where
 X : K.In h
 g : h.Ns mainGlobals mg
 b : h.Ns builtinsNs mb
 bb : ∀ x : Str, x ≠ "__name__" → mb x = bootBuiltins x
 nolim : h.NoLimit
 code : ∀ p ∈ cs, PySem.W.CodeHd h p.1 p.2
 tab : ∀ p ∈ cs, h.get? p.2 = some (PySem.W.tabObj #[])
 bm : ∃ bm ob, mg "__builtins__" = some (.ref bm) ∧ bm ≠ builtinsNs ∧ h.get? bm = some ob ∧ ob.cls = .type "module" ∧ ob.dict = some builtinsNs ∧ ob.data = .plain
theorem law_endG {P : Program} {w : World} {K : PySem.W.Frag} {mg mb : Str → Option Value} {k : Nat} {fa a : Addr} {cs : List (Addr × Addr)} {T : List (Addr × Str)} {fd : FuncData} {x : Str} {sp : SpP} {s1 : Shared} {vs : List Value} {ns : List Int}
  (t : AtEnd K mg mb cs s1.heap) (nl : NoList K = true) (nK : ∀ p ∈ cs, K.lookup p.2 = none) (hTT : ∀ p ∈ T, p.1 ∈ cs.map (·.2)) (gn : s1.gens = #[])
  (ha : s1.heap.get? a = some { cls := .type "list", data := .seq vs.toArray }) (hi : IntsAre vs ns) (hl : ns.length ≤ sizeLine) (hr : Room k callerA)
  (F : ∀ base : Heap, K.In base → base.Ns mainGlobals mg → (∀ p ∈ cs, LamX.TabB base mg p.1 p.2) → FnG P w K mg base k fa fd [x] (upSp K T sp)) (hb : ∀ (s : Shared) (u : Value), BindsTo s fd ⟨[u], []⟩ [(x, u)])
  (hsp : sp [.scr ns] fun z => z = .bl true) :
  codeAny (model P w) callerA (.call (.ref fa) ⟨[.ref a], []⟩) (fun r s' => r = .ok (.ret (.bool true)) ∧ OldK s1.heap s'.heap ∧ s'.os = s1.os ∧ AllBare s'.gens) s1 := by
 let ts := cs.map (·.2)
 let ob : Obj := { cls := .type "list", data := .seq vs.toArray }
 let H : Hp := trk0 ts a ob (.lst (ns.map V.int))
 have isT : ∀ b ∈ ts, s1.heap.get? b = some (PySem.W.tabObj #[]) := fun b hb => by
  obtain ⟨p, hp, e⟩ := List.mem_map.mp hb
  rw [← e]; exact t.tab p hp
 have aT : a ∉ ts := fun z => by
  have q := (isT a z).symm.trans ha
  cases q
 have tA : ∀ b ∈ ts, b ≠ a := fun b hb z => aT (z ▸ hb)
 have kA : K.lookup a = none := by
  cases q : K.lookup a with
  | none => rfl
  | some o =>
   have e := (t.X a o q).symm.trans ha
   cases e
   exact absurd rfl (noList_at nl q)
 have kT : ∀ b ∈ ts, K.lookup b = none := fun b hb => by
  obtain ⟨p, hp, e⟩ := List.mem_map.mp hb
  rw [← e]; exact nK p hp
 -- an object that is neither the script nor a table
 have out : ∀ {b : Addr} {o : Obj}, s1.heap.get? b = some o → (∀ vs n, o.data ≠ .seq vs n) → o.data ≠ .fields #[] → H b = none := fun {b o} e h1 h2 => by
  refine trk0_n (fun z => ?_) fun z => ?_
  ·rw [z, ha] at e; cases e; exact h1 _ _ rfl
  ·rw [isT b z] at e; cases e; exact h2 rfl
 have toBase : ∀ {b : Addr} {o : Obj}, s1.heap.get? b = some o → (∀ vs n, o.data ≠ .seq vs n) → o.data ≠ .fields #[] → (hidT s1.heap H).get? b = some o := fun e h1 h2 => hidT_get e (out e h1 h2)
 have nsB : ∀ {b : Addr} {m : Str → Option Value}, s1.heap.Ns b m → (hidT s1.heap H).Ns b m := fun {b m} ⟨o, es, ep, e, d, r⟩ => ⟨o, es, ep, toBase e (fun vs n z => by rw [d] at z; cases z) (fun z => by rw [d] at z; cases z), d, r⟩
 have KB : K.In (hidT s1.heap H) := fun b o e => hidT_get (t.X b o e) (by
  refine trk0_n (fun z => ?_) fun z => ?_
  ·rw [z, kA] at e; cases e
  ·rw [kT b z] at e; cases e)
 have M : L2.Mod K mg (hidT s1.heap H) := ⟨KB, nsB t.g, ⟨mb, nsB t.b, t.bb⟩, let ⟨mc, h1, h2⟩ := t.nolim; ⟨mc, nsB h1, h2⟩⟩
 have TB : ∀ p ∈ cs, LamX.TabB (hidT s1.heap H) mg p.1 p.2 := fun p hp => by
  have e2 := t.tab p hp
  refine ⟨?_, ?_, fun z => ?_⟩
  ·obtain ⟨o, us, file, tf, flags, tg, inF, text, tt, e1, r1, r2, r3, r⟩ := t.code p hp
   exact ⟨o, us, file, tf, flags, tg, inF, text, tt, toBase e1 (fun vs n z => by rw [r2] at z; cases z) (fun z => by rw [r2] at z; cases z; simp at r3), r1, r2, r3, r⟩
  ·obtain ⟨m, om, b1, b2, b3, b4, b5, b6⟩ := t.bm
   refine ⟨m, om, b1, b2, fun q => ?_, fun q => ?_, toBase b3 (fun vs n z => by rw [b6] at z; cases z) (fun z => by rw [b6] at z; cases z), b4, b5, b6⟩
   ·obtain ⟨o, es, ep, e, hd, _⟩ := t.g
    rw [q, e] at b3; cases b3; rw [hd] at b6; cases b6
   ·rw [q, e2] at b3; cases b3; cases b6
  ·obtain ⟨o, es, ep, e, hd, _⟩ := t.g
   rw [z, e2] at e; cases e; cases hd
 have rv := vals_ints hi
 have hok : HOk P w H s1.heap := fun b u e => by
  by_cases hba : b = a
  ·rw [hba] at e ⊢
   obtain rfl : _ = u := Option.some.inj (trk0_a.symm.trans e)
   exact ⟨ha, by rw [List.length_map]; exact hl, vs, _, rv, ha⟩
  ·by_cases hbt : b ∈ ts
   ·obtain rfl : _ = u := Option.some.inj ((trk0_t hba hbt).symm.trans e)
    exact isT b hbt
   ·have z := (trk0_n (o := ob) (u := .lst (ns.map V.int)) hba hbt).symm.trans e
    cases z
 have e0 : Env0 P w K mg (hidT s1.heap H) callerA [] s1 H := ⟨rfl, M, fun b o e => of_hidT e, Nat.le_of_eq (hidT_size _ _), trivial, (fun b z => absurd (show b ∈ ([] : List Addr) from z) (by simp)), hok, .of_eq gn⟩
 have hT0 : LamX.Tabs T H := fun p hp => ⟨#[], trk0_t (tA _ (hTT p hp)) (hTT p hp), trivial, fun pos cv z => by cases z⟩
 have promise : upSp K T sp [.ref a] H (fun v _ => v = .bl true) fun _ _ _ => False := by
  refine ⟨fun _ => False, [.scr ns], fun z => z = .bl true, fun b z => z.elim, hT0, ?_, hsp, fun z v H' e _ _ r => ?_⟩
  ·unfold Reps
   refine ⟨.ref a, [], rfl, ?_, ?_⟩
   ·unfold Rep
    exact ⟨a, ob, rfl, id, trk0_a⟩
   ·unfold Reps
    rfl
  ·subst e
   exact r.bl_
 refine codeAny_mono ((F _ KB (nsB t.g) TB).run callerA [] s1 H ⟨[.ref a], []⟩ [.ref a] [.ref a] _ _ rfl hr e0 (hb s1 (.ref a)) (.cons rfl .nil) promise) fun r s' h => ?_
 match r, h with
 | .error e, h => exact h.elim
 | .ok (.ret u), ⟨v, H', os, bare, un, hok', r', q⟩ =>
  have q' : v = .bl true := q
  subst q'
  obtain rfl : u = Value.bool true := r'
  have same : ∀ b o, b ∉ ts → s1.heap.get? b = some o → s'.heap.get? b = some o := fun b o nb e => by
   by_cases hba : b = a
   ·have z2 := un.frzs b ob (.lst (ns.map V.int)) (by rw [hba]; exact trk0_a)
    rw [hba] at e z2 ⊢
    rw [ha] at e; cases e
    exact (hok' a _ z2).1
   ·exact un.keep b o e (trk0_n hba nb) (by intro z; exact absurd (show b ∈ ([] : List Addr) from z) (by simp)) (by simp)
  have more : ∀ b ∈ ts, ∃ m : Array Value, s'.heap.get? b = some (PySem.W.tabObj m) := fun b hb => by
   obtain ⟨m, z⟩ := un.tbls b #[] (trk0_t (tA b hb) hb)
   exact ⟨_, hok' b _ z⟩
  refine ⟨rfl, ⟨fun b o e => ?_, fun b o e => ?_⟩, os, bare⟩
  ·by_cases hb : b ∈ ts
   ·obtain ⟨m, hm⟩ := more b hb
    rw [isT b hb] at e; cases e
    obtain ⟨p, hp, ep⟩ := List.mem_map.mp hb
    refine .inr (.inl ⟨?_, rfl, #[], m, rfl, by rw [Array.empty_append]; exact hm⟩)
    rw [← ep]
    exact ((t.code p hp).tab (t.tab p hp)).isCodeTable
   ·exact .inl (same b o hb e)
  ·by_cases hb : b ∈ ts
   ·obtain ⟨m, hm⟩ := more b hb
    exact ⟨_, hm⟩
   ·exact ⟨o, same b o hb e⟩
def LawG (l : PySem.W.OpenLaw) (w : World) (K : PySem.W.Frag) (k n : Nat) (x : Str) (mg : Str → Option Value) (fa : Addr) (h : Heap) : Prop :=
 ∃ (fd : FuncData) (cs : List (Addr × Addr)) (T : List (Addr × Str)) (sp : SpP), (∀ p ∈ cs, PySem.W.CodeHd h p.1 p.2) ∧ (∀ p ∈ cs, h.get? p.2 = some (PySem.W.tabObj #[])) ∧ (∀ p ∈ cs, K.lookup p.2 = none) ∧ NoList K = true ∧ (∀ p ∈ T, p.1 ∈ cs.map (·.2)) ∧
  (∀ (s : Shared) (u : Value), BindsTo s fd ⟨[u], []⟩ [(x, u)]) ∧ (∀ ns : List Int, ns.length ≤ n → (∀ z ∈ ns, Builtin.Int.intBits z ≤ 1048576) → sp [.scr ns] fun z => z = .bl true) ∧
  ∀ base : Heap, K.In base → base.Ns mainGlobals mg → (∀ p ∈ cs, LamX.TabB base mg p.1 p.2) → FnG l.prog w K mg base k fa fd [x] (upSp K T sp)
theorem walkG {l : PySem.W.OpenLaw} {n k : Nat} {q : Program} {loose : List Str} {XP : (Str → Option Value) → Heap → Prop} {YP : World → Heap → Prop} {d : DefRec} {K : Params → PySem.W.Frag} {x : Str}
  (hn : l.most = some n) (hn2 : n ≤ sizeLine) (hdf : d.params.defaults = []) (hr : Room k callerA) (hY : ∀ (w : World) (h : Heap), YP w h → (K w.params).In h)
  (F : ∀ (w : World) (mg : Str → Option Value) (fa : Addr) (h : Heap), YP w h → (K w.params).In h → h.Ns mainGlobals mg → mg d.name = some (.ref fa) → LawG l w (K w.params) k n x mg fa h) :
  PySem.W.WalkO q loose XP YP l.row.toRowW d [] (fun f vs => PySem.call f vs) := by
 refine Att.attach_callB hn hdf fun w s0 s1 mg mb fa o pm cd doc a vs ns G Y ho hd hcd hmg hobj hints hlen hbits hg => ?_
 obtain ⟨fd, cs, T, sp, hC, hT, nT, nl, hTT, hb, hsp, hF⟩ := F w mg fa _ Y (hY w _ Y) G.T.g hmg
 exact law_endG ⟨hY w _ Y, G.T.g, G.T.b, G.T.builtins, G.T.nolimit, hC, hT, G.T.bmain⟩ nl nT hTT hg hobj hints (Nat.le_trans hlen hn2) hr hF hb (hsp ns hlen hbits)
end Z
namespace Z
open PySem PySem.Spec L2 PySem.Calls
open PyProof.Rows hiding St
structure OwnC (K : PySem.W.Frag) (C fE fL fS : Addr) : Prop where
 t : ClsT K C
 eq : PySem.W.findIn K (.ref C) "__eq__" = some (some (.ref fE))
 eqf : PySem.W.isFn K (.ref fE) = true
 ne : PySem.W.findIn K (.ref C) "__ne__" = some (some (.builtin "object.__ne__"))
 len : PySem.W.findIn K (.ref C) "__len__" = some (some (.ref fL))
 lenf : PySem.W.isFn K (.ref fL) = true
 bool : PySem.W.findIn K (.ref C) "__bool__" = some none
 str : PySem.W.findIn K (.ref C) "__str__" = some (some (.ref fS))
 strf : PySem.W.isFn K (.ref fS) = true
 nf : ∀ n : String, n ∈ ["NoneType", "int", "bool", "str", "tuple", "list", "dict"] → PySem.W.notFirst K C (.type n) = true
theorem OwnC.nfC {K : PySem.W.Frag} {C fE fL fS : Addr} (o : OwnC K C fE fL fS) : PySem.W.notFirst K C (.ref C) = true := by unfold PySem.W.notFirst; simp
section
variable {prog : Program} {w : World} {A : Around} {E : Value → Shared → Prop} {s : Shared} {K : PySem.W.Frag} {x C f : Addr} {ox : Obj} {od : Option Obj}
theorem ifBoundB {id : String} {name : Str} {args : List Value} {Q : Option Value → Shared → Prop} (X : K.In s.heap) (I : PySem.W.InstAt s.heap x ox C od) (hs : PySem.W.findIn K (.ref C) name = some (some (.builtin id)))
  (hb : ∀ self, bindSpecial (.builtin id) self = pure (.builtin id, [self])) (h : wpAny (model prog w) A (call (.builtin id) (.ref x :: args)) (fun v => Q (some v)) E s) : wpAny (model prog w) A (callSpecialIfBound? (.ref x) name args) Q E s := by
 have fin : wpAny (model prog w) A (call (.builtin id) ([.ref x] ++ args) >>= fun v => pure (some v)) Q E s := wpAny_bind (wpAny_mono h (fun v s' z => wpAny_pure z) fun _ _ z => z)
 simp only [callSpecialIfBound?, bindSpecialIfBound?]
 refine wpAny_holding (wpAny_bind (wpAny_bind (wpAny_bind (I.type.here ((PySem.W.looks_findIn X hs).here (wpAny_bind (wpAny_askSetting (wpAny_ite ?_))))))))
 split
 ·exact wpAny_bind (((PySem.W.Looks.of_pure (hb (.ref x))).here) (wpAny_pure (by exact fin)))
 ·exact wpAny_tryCatch (wpAny_bind (((PySem.W.Looks.of_pure (hb (.ref x))).here) (wpAny_pure (by exact fin))))
theorem objNe {b : Value} {Q : Value → Shared → Prop} (hu : A.in1.units < cLine) (X : K.In s.heap) (I : PySem.W.InstAt s.heap x ox C od) (hm : PySem.W.mroIn K C (.type "object") = some true)
  (he : PySem.W.findIn K (.ref C) "__eq__" = some (some (.ref f))) (hf : PySem.W.isFn K (.ref f) = true)
  (h : wpAny (model prog w) A.in1 (call (.ref f) [.ref x, b]) (fun v s' => ∃ r, v = .bool r ∧ Q (.bool (!r)) s') E s) : wpAny (model prog w) A (call (.builtin "object.__ne__") [.ref x, b]) Q E s := by
 refine wpAny_call (codeAny_call_builtin PySem.F.slot_object_ne.plain PySem.F.cmpEntry_ne (PySem.W.check_slot (i := "object.__ne__") (owner := "object") (n := "__ne__") (by decide +kernel) (by decide +kernel) (I.type.andThen (PySem.W.looks_mroIn X hm)) (PySem.F.cmpArgs_ne _ _) ?_))
 unfold Builtin.«object.__ne__»
 refine wpAny_bind (m := slotArgs "__ne__" 1 _) (wpAny_pure (wpAny_bind (m := cRoomFor _ _) (wpAny_cRoomFor hu ?_)))
 refine wpAny_bind (m := callSpecialIfBound? (.ref x) (Str.ofString "__eq__") _) (PySem.W.ifBound_K X I he hf (wpAny_mono h (fun v s' ⟨r, e, q⟩ => ?_) fun _ _ z => z))
 subst e
 exact wpAny_bind (wpAny_truthy_bool (wpAny_pure q))
theorem ne_own {b tb : Value} {Q : Value → Shared → Prop} (hu : A.units + 1 < cLine) (X : K.In s.heap) (I : PySem.W.InstAt s.heap x ox C od) (hb : PySem.W.Looks (model prog w) s.heap (typeOf b) tb) (hn : PySem.W.notFirst K C tb = true)
  (hne : PySem.W.findIn K (.ref C) "__ne__" = some (some (.builtin "object.__ne__"))) (hm : PySem.W.mroIn K C (.type "object") = some true) (he : PySem.W.findIn K (.ref C) "__eq__" = some (some (.ref f))) (hf : PySem.W.isFn K (.ref f) = true)
  (h : wpAny (model prog w) A.in1 (call (.ref f) [.ref x, b]) (fun v s' => ∃ r, v = .bool r ∧ Q (.bool (!r)) s') E s) : wpAny (model prog w) A (richCompare .NotEq (.ref x) b) Q E s := by
 have one : wpAny (model prog w) A (tryCompare (.ref x) (cmpInfo .NotEq).2.1 b) (fun r s' => ∃ v, r = some (.bool v) ∧ Q (.bool v) s') E s := by
  unfold tryCompare
  have z := objNe (Q := fun v s' => ∃ r, v = .bool r ∧ Q (.bool r) s') hu X I hm he hf (wpAny_mono h (fun v s' ⟨r, e, q⟩ => ⟨r, e, _, rfl, q⟩) fun _ _ z => z)
  refine wpAny_bind (ifBoundB X I hne PySem.F.slot_object_ne.bind (wpAny_mono z (fun v s' ⟨r, e, q⟩ => ?_) fun _ _ z => z))
  subst e
  exact wpAny_pure ⟨r, rfl, q⟩
 unfold richCompare
 simp only [oneThing_ref]
 refine wpAny_holding (wpAny_bind (wpAny_cRoomFor (by omega) (wpAny_bind (I.type.here (wpAny_bind (hb.here ?_))))))
 have back : ∀ {r : Option Value} {s' : Shared}, (∃ v, r = some (.bool v) ∧ Q (.bool v) s') → True := fun _ => True.intro
 split
 ·rename_i q
  have e : PySem.W.subIn K tb (.ref C) = some false := by
   rcases Bool.or_eq_true_iff.mp hn with e | e
   ·rw [beq_iff_eq.mp e] at q; simp at q
   ·exact beq_iff_eq.mp e
  refine wpAny_bind ((PySem.W.looks_subIn X e).here ?_)
  simp only [Bool.false_eq_true, if_false]
  refine wpAny_bind (wpAny_mono one (fun r s' ⟨v, e1, q1⟩ => ?_) fun _ _ z => z)
  subst e1; exact wpAny_pure q1
 ·refine wpAny_bind (wpAny_pure ?_)
  simp only [Bool.false_eq_true, if_false]
  refine wpAny_bind (wpAny_mono one (fun r s' ⟨v, e1, q1⟩ => ?_) fun _ _ z => z)
  subst e1; exact wpAny_pure q1
end
end Z
namespace Z
open PySem PySem.Spec L2 PySem.Calls
open PyProof.Rows hiding St
section
variable {X : Cx} {k : Nat} {C fE fL fS f : Addr} {fd : FuncData} {ps : List Str} {sp : Sp}
theorem run_at {pins : List (Addr × Obj)} {σ : St} {H : Hp} {s : Shared} {Q : VK} {us : List Value} {vs : List V} {A : Around} (F : FnOk X.prog X.w X.K X.mg X.base CX0 k f fd ps sp) (fr : A.frames = X.A.frames) (hr : Room k A) (hb : Binds X.K fd ps [])
  (I : Inv X pins σ H s) (r : Vals vs us) (h : sp vs H Q E0) : wpAny (model X.prog X.w) A (call (.ref f) us) (EP X pins σ Q) X.xe s := by
 have e := I.env0
 have e0 : Env0 X.prog X.w X.K X.mg X.base A X.stack s H := ⟨by rw [fr]; exact e.frames, e.mod, e.bs, e.bsz, e.funs, e.frf, e.hok, e.bare⟩
 have hl := F.len _ _ _ _ h
 refine wpAny_call (codeAny_mono (F.run A X.stack s H ⟨us, []⟩ us vs Q E0 hr e0 (by
  have z := hb s us I.kIn (by rw [List.append_nil, ← r.length]; exact hl)
  rwa [List.append_nil] at z) r h) fun r' s' hq => ?_)
 match r', hq with
 | .error e, hq => exact pass0 pins σ H s e s' I hq
 | .ok (.ret u), hq => exact I.after hq
def rEqO (K : PySem.W.Frag) (C : Addr) (sp : Sp) (neg : Bool) : R2 := fun x y H Q => ∃ a dx fs t, x = .ref a ∧ H a = some (.ins C dx fs) ∧ TyX K H y t ∧ PySem.W.notFirst K C t = true ∧ sp [x, y] H (fun z H' => ∃ b, z = .bl b ∧ Q (.bl (b != neg)) H') E0
theorem op_neO (F : FnOk X.prog X.w X.K X.mg X.base CX0 k fE fd ps sp) (hr : Room (k + 1) X.A) (o : OwnC X.K C fE fL fS) (hb : Binds X.K fd ps []) : OpR X (compareOp .NotEq) (rEqO X.K C sp true) := by
 intro pins s σ H x y v u Q I rx ry h
 obtain ⟨a, dx, fs, t, rfl, ha, ty, nf, hsp⟩ := h
 cases rx
 obtain ⟨mA, J, _⟩ := ins_get I.hok ha
 obtain ⟨od, J, _⟩ := J.look
 obtain ⟨P, kx, hp, _⟩ := kit_of I ry ty
 have hu := hr.un
 refine PySem.W.cmp_ofNotEq (ne_own (tb := t) (by omega) I.kIn J (kx.ty _ _ I.kIn hp) nf o.ne o.t.hm o.eq o.eqf ?_)
 refine wpAny_mono (run_at F rfl hr.in1 hb I (.cons (show RelV (V.ref a) (Value.ref a) from rfl) (.cons ry .nil)) hsp) (fun v s' ⟨z, H', I', rz, b, ez, q⟩ => ?_) fun _ _ e => e
 subst ez
 obtain rfl : v = Value.bool b := rz
 exact ⟨b, rfl, .bl (!b), H', I', rfl, by simpa using q⟩
def rLenO (C : Addr) (sp : Sp) : List V → Hp → VK → Prop := fun xs H Q => ∃ a dx fs, xs = [.ref a] ∧ H a = some (.ins C dx fs) ∧ sp [.ref a] H (fun z H' => ∃ n : Int, z = .int n ∧ (0 ≤ n ∧ n < 2 ^ 63) ∧ Q (.int n) H') E0
theorem call_lenO (F : FnOk X.prog X.w X.K X.mg X.base CX0 k fL fd ps sp) (hr : Room (k + 1) X.A) (o : OwnC X.K C fE fL fS) (hb : Binds X.K fd ps []) : CallR X (.builtin "len") (rLenO C sp) := by
 intro pins s σ H xs us Q I r h
 obtain ⟨a, dx, fs, rfl, ha, hsp⟩ := h
 obtain rfl := Vals.ref1 r
 obtain ⟨mA, J, _⟩ := ins_get I.hok ha
 obtain ⟨od, J, _⟩ := J.look
 obtain ⟨m, hF⟩ := I.fr
 refine PySem.W.len_K hF I.ok.mod.kin J o.len o.lenf ?_
 refine wpAny_mono (run_at F rfl hr.in1 hb I r hsp) (fun v s' ⟨z, H', I', rz, n, ez, hn, q⟩ => ?_) fun _ _ e => e
 subst ez
 obtain ⟨t, rfl⟩ : ∃ t, v = Value.int n t := rz
 exact ⟨hn, .int n, H', I'.tok _, ⟨_, rfl⟩, q⟩
def rStrO (C : Addr) (sp : Sp) : List V → Hp → VK → Prop := fun xs H Q => ∃ a dx fs, xs = [.ref a] ∧ H a = some (.ins C dx fs) ∧ sp [.ref a] H (fun z H' => ∃ y, z = .str y ∧ Q z H') E0
theorem call_strO (F : FnOk X.prog X.w X.K X.mg X.base CX0 k fS fd ps sp) (hr : Room (k + 2) X.A) (o : OwnC X.K C fE fL fS) (hb : Binds X.K fd ps []) : CallR X (.type "str") (rStrO C sp) := by
 intro pins s σ H xs us Q I r h
 obtain ⟨a, dx, fs, rfl, ha, hsp⟩ := h
 obtain rfl := Vals.ref1 r
 obtain ⟨mA, J, _⟩ := ins_get I.hok ha
 obtain ⟨od, J, _⟩ := J.look
 refine PySem.W.kso_call (Room.in1 (Room.in1 hr)).units0 I.kIn J o.str o.strf ?_
 refine wpAny_mono (run_at F rfl (Room.in1 (Room.in1 hr)) hb I r hsp) (fun v s' ⟨z, H', I', rz, y, ez, q⟩ => ?_) fun _ _ e => e
 subst ez
 obtain ⟨t, rfl⟩ : ∃ t, v = Value.str y t := rz
 exact ⟨.str y, H', I', ⟨t, rfl⟩, q⟩
end
section
variable {X : Cx} {T : List (Addr × Str)} {k : Nat} {C fE fL fS f : Addr} {fd : FuncData} {ps ks : List Str} {sp : SpP} {sr : SpR} {a b e : Expr} {es : List Expr} {ta tb : TEp} {t tk : TAp} {pos p : Pos} {x : Str} {kws : List Keyword}
def EqTy (K : PySem.W.Frag) (C : Addr) (y : PV) : Prop := (tyN y).isSome = true ∨ ∃ fs, y = .ins C fs
theorem eqTy_rep {K : PySem.W.Frag} {O : Addr → Prop} {H : Hp} {y : PV} {v : V} (o : OwnC K C fE fL fS) (h : Rep K O H y v) (t : EqTy K C y) : ∃ u, TyX K H v u ∧ PySem.W.notFirst K C u = true := by
 rcases t with t | ⟨fs, rfl⟩
 ·obtain ⟨n, e⟩ := Option.isSome_iff_exists.mp t
  refine ⟨_, tyN_rep h e, o.nf n ?_⟩
  cases y <;> unfold tyN at e <;> cases e <;> decide
 ·obtain ⟨a, dx, ws, rfl, na, q, rr⟩ := h.ins_
  exact ⟨_, .base (.ins q o.t.cl o.t.ha o.t.hn o.t.htk o.t.hm), o.nfC⟩
def tEqOP (K : PySem.W.Frag) (C : Addr) (sp : SpP) (neg : Bool) (ta tb : TEp) : TEp := fun η P => ta η fun x η1 => tb η1 fun y η2 => (∃ fs, x = .ins C fs) ∧ EqTy K C y ∧ sp [x, y] fun z => ∃ b, z = .bl b ∧ P (.bl (b != neg)) η2
theorem zt_cmpO {op : CmpOp} {neg : Bool} (o : OwnC X.K C fE fL fS) (ho : OpR X (compareOp op) (rEqO X.K C (upSp X.K T sp) neg)) (ha : PE X a (up X.K T ta)) (hb : PE X b (up X.K T tb)) (hm : behindInMarks op b = false := by first | exact nomark _ | rfl) :
  PT X (.Compare a [op] [b] pos) (upB X.K T (tBlP (tEqOP X.K C sp neg ta tb))) := by
 refine PT.weak (pt_cmpR ho ha hb hm) fun σ H Q q => ?_
 obtain ⟨F, η, P, R, h, kk⟩ := q
 refine ⟨F, η, _, R, h, fun x η1 v H1 h1 e1 R1 r1 => ⟨F, η1, _, R1, h1, fun y η2 w H2 h2 e2 R2 rw => ?_⟩⟩
 obtain ⟨⟨fs, rfl⟩, ty, h2⟩ := h2
 have rx := r1.car e2.car
 obtain ⟨u, t1, t2⟩ := eqTy_rep o rw ty
 obtain ⟨a', dx, ws, rfl, na, q', rr⟩ := id rx.ins_
 exact ⟨a', dx, ws, u, rfl, q', t1, t2, Oof F σ η2, _, _, R2.trO, R2.tb, .cons rx (.cons rw .nil), h2, fun z v H3 ⟨b, ez, pz⟩ g tb rz => ⟨b, by rw [ez] at rz; exact rz.bl_, _, rfl, kk _ η2 H3 pz ((e1.trans e2).trans g.ext) (R2.gr g tb)⟩⟩
def tLenOP (C : Addr) (sp : SpP) (t : TAp) : TEp := fun η P => t η fun xs η1 => ∃ fs, xs = [.ins C fs] ∧ sp [.ins C fs] fun z => ∃ n : Int, z = .int n ∧ (0 ≤ n ∧ n < 2 ^ 63) ∧ P (.int n) η1
theorem z_lenO (o : OwnC X.K C fE fL fS) (hc : CallR X (.builtin "len") (rLenO C (upSp X.K T sp))) (hg : Gl X x) (hm : X.mg x = none) (hv : bootBuiltins x = some (.builtin "len")) (ha : PA X (e :: es) (upA X.K T t)) (hn : x ≠ "__name__" := by decide) (hdb : (x == ("__debug__" : Str)) = false := by decide)
  (he : starEach (e :: es) X.env = (false, eval e X.env) :: starEach es X.env := by rfl) (hpl : (backTo pos (starEach es X.env)).any (·.1) = false := by rfl) : PE X (.Call (.Name x p) (e :: es) [] pos) (up X.K T (tLenOP C sp t)) := by
 refine PE.weak (pe_callB hc hg hm hv ha hn hdb he hpl) fun σ H Q q => ?_
 obtain ⟨F, η, P, R, h, kk⟩ := q
 refine ⟨F, η, _, R, h, fun xs η1 v H1 h1 e1 R1 r1 => ?_⟩
 obtain ⟨fs, rfl, h1⟩ := h1
 obtain ⟨v1, rfl, r2⟩ := r1.one
 obtain ⟨a', dx, ws, rfl, na, q', rr⟩ := id r2.ins_
 exact ⟨a', dx, ws, rfl, q', Oof F σ η1, _, _, R1.trO, R1.tb, .cons r2 .nil, h1, fun z v H3 ⟨n, ez, hn, pz⟩ g tb rz => ⟨n, by rw [ez] at rz; exact rz.int_, hn, kk _ η1 _ H3 pz (e1.trans g.ext) (R1.gr g tb) (by unfold Rep; rfl)⟩⟩
def tStrOP (C : Addr) (sp : SpP) (t : TAp) : TEp := fun η P => t η fun xs η1 => ∃ fs, xs = [.ins C fs] ∧ sp [.ins C fs] fun z => (∃ y, z = .str y) ∧ P z η1
theorem z_strO (o : OwnC X.K C fE fL fS) (hc : CallR X (.type "str") (rStrO C (upSp X.K T sp))) (hg : Gl X x) (hm : X.mg x = none) (hv : bootBuiltins x = some (.type "str")) (ha : PA X (e :: es) (upA X.K T t)) (hn : x ≠ "__name__" := by decide) (hdb : (x == ("__debug__" : Str)) = false := by decide)
  (he : starEach (e :: es) X.env = (false, eval e X.env) :: starEach es X.env := by rfl) (hpl : (backTo pos (starEach es X.env)).any (·.1) = false := by rfl) : PE X (.Call (.Name x p) (e :: es) [] pos) (up X.K T (tStrOP C sp t)) := by
 refine PE.weak (pe_callTy hc hg hm hv ha hn hdb he hpl) fun σ H Q q => ?_
 obtain ⟨F, η, P, R, h, kk⟩ := q
 refine ⟨F, η, _, R, h, fun xs η1 v H1 h1 e1 R1 r1 => ?_⟩
 obtain ⟨fs, rfl, h1⟩ := h1
 obtain ⟨v1, rfl, r2⟩ := r1.one
 obtain ⟨a', dx, ws, rfl, na, q', rr⟩ := id r2.ins_
 exact ⟨a', dx, ws, rfl, q', Oof F σ η1, _, _, R1.trO, R1.tb, .cons r2 .nil, h1, fun z v H3 ⟨⟨y, ez⟩, pz⟩ g tb rz => ⟨y, by rw [ez] at rz; exact rz.str_, kk _ η1 _ H3 pz (e1.trans g.ext) (R1.gr g tb) rz⟩⟩
end
def LowS (x : Str) : Prop := ∀ c ∈ x.cps.toList, 97 ≤ c ∧ c ≤ 122
abbrev Row3 := Str × Int × Int
def rowE (r : Row3) : PyData := .tuple [.str r.1, .int r.2.1, .int r.2.2]
structure GoodR (r : Row3) : Prop where
 low : LowS r.1
 s0 : 0 ≤ r.2.1
 e0 : 0 ≤ r.2.2
def joinL : List (List Nat) → List Nat
 | [] => []
 | [x] => x
 | x :: y :: r => x ++ 44 :: 32 :: joinL (y :: r)
end Z
namespace Z
open PySem PySem.Spec L2 StX
open PyProof.Rows hiding St
section
variable {X : Cx} {T : List (Addr × Str)} {e : Expr} {es : List Expr} {te : TEp} {t : TAp} {pos p : Pos}
def tStarP (te : TEp) (t : TAp) : TAp := fun η P => te η fun x η1 => match x with
 | .lst xs => t η1 fun ys η2 => P (xs ++ ys) η2
 | .tup xs => t η1 fun ys η2 => P (xs ++ ys) η2
 | _ => False
theorem za_star (he : PE X e (up X.K T te)) (hr : PA X es (upA X.K T t)) (hs : starEach (.Starred e p :: es) X.env = (true, eval e X.env) :: starEach es X.env := by rfl) : PA X (.Starred e p :: es) (upA X.K T (tStarP te t)) := by
 refine PA.weak (pa_star he hr hs) fun σ H Q q => ?_
 obtain ⟨F, η, P, R, h, k⟩ := q
 refine ⟨F, η, _, R, h, fun x η1 v H1 h1 e1 R1 r1 => ?_⟩
 split at h1
 ·obtain ⟨a, vs, rfl, n, q, rr⟩ := r1.lst_
  exact ⟨a, vs, rfl, .inr (SqL.of q), F, η1, _, R1, h1, fun ys η2 ws H2 h2 e2 R2 r2 => k _ η2 _ H2 h2 (e1.trans e2) R2 ((rr.car e2.car).app r2)⟩
 ·obtain ⟨a, vs, rfl, q, rr⟩ := r1.tup_
  exact ⟨a, vs, rfl, .inl q.sq, F, η1, _, R1, h1, fun ys η2 ws H2 h2 e2 R2 r2 => k _ η2 _ H2 h2 (e1.trans e2) R2 ((rr.car e2.car).app r2)⟩
 ·cases h1
def tFmtP (te : TEp) : TEp := fun η P => te η fun x η1 => match x with
 | .str y => y.length ≤ sizeLine ∧ P (.str y) η1
 | .int i => i.natAbs.log2 < 1920 ∧ P (.str (toString i)) η1
 | _ => False
theorem z_fmt (he : PE X e (up X.K T te)) : PE X (.FormattedValue e (-1) none pos) (up X.K T (tFmtP te)) := by
 refine PE.weak (pe_fmt he) fun σ H Q q => ?_
 obtain ⟨F, η, P, R, h, k⟩ := q
 refine ⟨F, η, _, R, h, fun x η1 v H1 h1 e1 R1 r1 => ?_⟩
 split at h1
 ·exact .inl ⟨_, r1.str_, h1.1, k _ η1 _ H1 h1.2 e1 R1 (by unfold Rep; rfl)⟩
 ·exact .inr ⟨_, r1.int_, h1.1, k _ η1 _ H1 h1.2 e1 R1 (by unfold Rep; rfl)⟩
 ·cases h1
def tJsP : List TEp → Str → EP' → (Str → EP' → Prop) → Prop
 | [], acc, η, P => P acc η
 | t :: ts, acc, η, P => t η fun x η1 => ∃ y : Str, x = .str y ∧ (acc ++ y).length ≤ sizeLine ∧ tJsP ts (acc ++ y) η1 P
def tJoinedP (ts : List TEp) : TEp := fun η P => tJsP ts Str.empty η fun out η' => P (.str out) η'
theorem js_up {K : PySem.W.Frag} {F : Addr → Prop} {σ : St} : ∀ (ts : List TEp) (acc : Str) (η : EP') (H : Hp) (P : Str → EP' → Prop) (Q : Str → Hp → Prop), Rs K T F σ η H → tJsP ts acc η P →
  (∀ out η' H', P out η' → Ext σ η σ η' H H' → Rs K T F σ η' H' → Q out H') → tJs (ts.map (up K T)) acc σ H Q
 | [], acc, η, H, P, Q, R, h, k => k acc η H h .refl R
 | t :: ts, acc, η, H, P, Q, R, h, k => by
  refine ⟨F, η, _, R, h, fun x η1 v H1 h1 e1 R1 r1 => ?_⟩
  obtain ⟨y, rfl, hz, h1⟩ := h1
  exact ⟨y, r1.str_, hz, js_up ts _ η1 H1 P Q R1 h1 fun out η' H' p e2 R2 => k out η' H' p (e1.trans e2) R2⟩
theorem z_js {v1 v2 : Expr} {rest : List Expr} {ts : List TEp} (h : PJ X (v1 :: v2 :: rest) (ts.map (up X.K T))) : PE X (.JoinedStr (v1 :: v2 :: rest) pos) (up X.K T (tJoinedP ts)) := by
 refine PE.weak (pe_joined h) fun σ H Q q => ?_
 obtain ⟨F, η, P, R, h, k⟩ := q
 exact js_up ts Str.empty η H _ _ R h fun out η' H' p e1 R1 => k _ η' _ H' p e1 R1 (by unfold Rep; rfl)
end
theorem val_weak {K : PySem.W.Frag} {T : List (Addr × Str)} {tf : TFp} {σ : St} {H : Hp} {Q : VK} (q : up K T (tValP tf) σ H Q) : upF K T tf σ H Q := by
 obtain ⟨F, η, P, R, h, k⟩ := q
 refine ⟨F, η, _, R, h, fun xs η' a vs H' h1 e1 R1 hn nf hv r => ?_⟩
 refine k _ _ _ _ h1 e1 (R1.shrink fun b z => .inl z) ?_
 unfold Rep
 refine ⟨a, vs, rfl, fun z => ?_, hv, r.mono fun b z => z.elim (fun z => .inl (.inl z)) .inr⟩
 rcases z with z | ⟨j, p, h1, h2⟩
 ·exact nf z
 ·obtain ⟨b, q1, q2, q3⟩ := R1.ow j p h2
  rw [h1] at q1; cases q1
  exact q3 (.inr rfl)
theorem z_setLc {X : Cx} {T : List (Addr × Str)} {y : Str} {py : Pos} {elt tg iter : Expr} {ifs : List Expr} {scope : Scope} {own : List (Str × Nat)} {pos spos : Pos} {i : Nat} {ti : TIp} {g : TGp} {tt : TTp} {te : TEp}
  (pf : PS X (.Assign [.Name y py] (.ListComp elt [⟨tg, iter, ifs, 0⟩] scope pos) spos) (tAsg (tLc (upI X.K T ti) (upGw X.K T (own.map (·.2)) g) (upB X.K T tt) (up X.K T te) (own.map (·.2))) (gName i))) :
  PS X (.Assign [.Name y py] (.ListComp elt [⟨tg, iter, ifs, 0⟩] scope pos) spos) (upS X.K T (tSetP i (tValP (tLcP ti g tt te (own.map (·.2)))))) := by
 refine PS.weak pf fun D σ H q => lc_weak (val_weak ?_)
 obtain ⟨F, η, D', R, h, k1, k2, k3, k4⟩ := q
 exact ⟨F, η, _, R, h, fun x η1 v H1 h1 e1 R1 r => k1 _ _ _ h1 (e1.trans .setv) (R1.setv r)⟩
end Z
namespace Z
open PySem PySem.Spec L2 GenW
open PyProof.Rows hiding St
end Z
namespace Z
open PySem PySem.Spec L2 GenW
open PyProof.Rows hiding St
def intsOf : List PV → Option (List Int)
 | [] => some []
 | .int i :: r => (intsOf r).map (i :: ·)
 | _ => none
theorem intsOf_map : ∀ ns : List Int, intsOf (ns.map .int) = some ns
 | [] => rfl
 | n :: ns => by rw [List.map_cons, intsOf, intsOf_map ns]; rfl
theorem ints_holds {K : PySem.W.Frag} {O : Addr → Prop} {H : Hp} {h : Heap} : ∀ {xs : List PV} {vs : List V} {us : List Value} {ns : List Int}, Reps K O H xs vs → Vals vs us → intsOf xs = some ns → PySem.W.HoldAll h us ns
 | [], _, _, _, r, rv, e => by
  cases r.inv0; cases rv; cases e
  exact .nil
 | x :: xs, _, _, ns, r, rv, e => by
  obtain ⟨v, vs, rfl, r1, r2⟩ := r.inv
  cases rv with
  | cons a b =>
   cases x with
   | int i =>
    rw [intsOf] at e
    obtain ⟨ms, e1, rfl⟩ := Option.map_eq_some_iff.mp e
    rw [r1.int_] at a
    obtain ⟨t, rfl⟩ := a
    exact .cons (PySem.W.holds_int _ _) (ints_holds r2 b e1)
   | _ => cases e
def maxI (d : Int) : List Int → Int
 | [] => d
 | n :: ns => PySem.W.maxOf n ns
def rMaxD : List V → List V → Hp → VK → Prop := fun xs zs H Q => ∃ a vs ns d, xs = [.ref a] ∧ zs = [.int d] ∧ H a = some (.lst vs) ∧ (∀ h : Heap, ∀ us, Vals vs us → PySem.W.HoldAll h us ns) ∧ Q (.int (maxI d ns)) H
section
variable {X : Cx} {T : List (Addr × Str)} {e : Expr} {es : List Expr} {kws : List Keyword} {t tk : TAp} {x : Str} {p pos : Pos}
theorem call_maxD (hc : X.calm = true) (hu : X.A.units + 64 < cLine) : CallRK X (.builtin "max") [("default" : Str)] rMaxD := by
 intro pins s σ H xs zs us ws Q I r rz h
 obtain ⟨a, vs, ns, d, rfl, rfl, ha, hh, q⟩ := h
 obtain rfl := Vals.ref1 r
 cases rz with
 | cons r1 r2 =>
  cases r2
  obtain ⟨t, rfl⟩ := r1
  obtain ⟨_, its, n, rv, eh⟩ := I.hok a _ ha
  have hl : s.heap.IsList a its.toArray := ⟨_, eh, rfl, n, rfl⟩
  refine PySem.W.max_list_datum_default (xs := ns) (I.ok.hd hc) hl (by simpa using hh s.heap its rv) (by show X.A.units + 1 + 0 < cLine; omega) (fun e h' tk k => ?_) fun y ys i v h' tk e hi hv k => ?_
  ·subst e
   exact ⟨.int d, H, I.kept k, ⟨_, rfl⟩, q⟩
  ·subst e
   obtain ⟨as, rd⟩ := hv
   cases rd with
   | int j t => exact ⟨.int _, H, I.kept k, ⟨_, rfl⟩, q⟩
def tMaxDP (t tk : TAp) : TEp := fun η P => t η fun xs η1 => tk η1 fun zs η2 => ∃ ys ns d, xs = [.lst ys] ∧ zs = [.int d] ∧ intsOf ys = some ns ∧ P (.int (maxI d ns)) η2
theorem z_maxD (hcm : X.calm = true) (hu : X.A.units + 64 < cLine) (hg : Gl X x) (hm : X.mg x = none) (hv : bootBuiltins x = some (.builtin "max")) (ha : PA X (e :: es) (upA X.K T t)) (hk : PK X kws (upA X.K T tk)) (hn : x ≠ "__name__" := by decide) (hdb : (x == ("__debug__" : Str)) = false := by decide)
  (he : backTo pos (starEach (e :: es) X.env) = (false, eval e X.env) :: backTo pos (starEach es X.env) := by rfl) (hpl : (backTo pos (starEach (e :: es) X.env)).any (·.1) = false := by rfl)
  (hall : (backToKw pos (keywordEach kws X.env)).all (·.1.isSome) = true := by rfl) (hnone : (backToKw pos (keywordEach kws X.env)).any (·.1.isNone) = false := by rfl) (hks : (backToKw pos (keywordEach kws X.env)).filterMap (·.1) = [("default" : Str)] := by rfl) :
  PE X (.Call (.Name x p) (e :: es) kws pos) (up X.K T (tMaxDP t tk)) := by
 refine PE.weak (pe_callBK (call_maxD hcm hu) hg hm hv ha hk hn hdb he hpl hall hnone hks) fun σ H Q q => ?_
 obtain ⟨F, η, P, R, h, kk⟩ := q
 refine ⟨F, η, _, R, h, fun xs η1 vs H1 h1 e1 R1 r1 => ⟨F, η1, _, R1, h1, fun zs η2 ws H2 h2 e2 R2 r2 => ?_⟩⟩
 obtain ⟨ys, ns, d, rfl, rfl, hi, h2⟩ := h2
 obtain ⟨v, rfl, rl⟩ := (r1.car e2.car).one
 obtain ⟨v2, rfl, rd⟩ := r2.one
 obtain ⟨a, us, rfl, na, q', rr⟩ := rl.lst_
 rw [rd.int_]
 exact ⟨a, us, ns, d, rfl, rfl, q', fun h us' rv => ints_holds rr rv hi, kk _ η2 _ H2 h2 (e1.trans e2) R2 (by unfold Rep; rfl)⟩
end
end Z
namespace Z
open PySem PySem.Spec L2 StX
open PyProof.Rows hiding St
end Z
namespace Z
open PySem PySem.Spec L2 StX
open PyProof.Rows hiding St
section
variable {X : Cx} {T : List (Addr × Str)} {es : List Expr} {pos : Pos} {k : Nat}
def gLstP (n : Nat) (t : TGsp) : TGp := fun x η P => match x with
 | .lst xs => xs.length = n ∧ t xs η P
 | _ => False
theorem zg_lst {n : Nat} {t : TGsp} (pf : PG X (.Tuple es k pos) (gLst X.K n (upGs X.K T t))) : PG X (.Tuple es k pos) (upG X.K T (gLstP n t)) := by
 refine PG.weak pf fun v σ H Q q => ?_
 obtain ⟨F, η, x, P, R, r, h, k⟩ := q
 unfold gLstP at h
 split at h
 ·obtain ⟨a, us, rfl, na, q', rr⟩ := r.lst_
  exact ⟨a, us, rfl, SqL.of q', by rw [rr.len]; exact h.1, F, η, _, P, R, rr, h.2, k⟩
 ·cases h
end
end Z
namespace Z
open PySem PySem.Spec L2 StX
open PyProof.Rows hiding St
def pick {α : Type} (is : List Nat) (xs : List α) : List α := is.filterMap fun i => xs[i]?
structure KwB (K : PySem.W.Frag) (fd : FuncData) (ps : List Str) (n : Nat) (ks : List Str) (is : List Nat) : Prop where
 to : ∀ (s : Shared) (us ws : List Value), K.In s.heap → us.length = n → ws.length = ks.length → BindsTo s fd ⟨us, ks.zip ws⟩ (ps.zip (us ++ pick is ws))
 ln : n + is.length = ps.length ∧ ∀ i ∈ is, i < ks.length
end Z
namespace Z
open PySem
open Sem (wp)
def stung : GenState → GenState
 | .suspended _ l c p fs _ => .suspended (fun _ => .unsupported "") l c p fs false
 | x => x
def sleeps : GenState → Bool
 | .suspended .. => true
 | _ => false
def isGenF : Frame → Bool
 | .gen .. => true
 | _ => false
def NoG (fs : List Frame) : Prop := ∀ F ∈ fs, isGenF F = false
def NoGS : GenState → Prop
 | .suspended _ _ _ _ fs _ => NoG fs
 | _ => True
def pickG (y : Option GenState) (x : GenState) : GenState := match y with
 | some y => if sleeps y = true then y else x
 | none => x
def un (G : Array GenState) (s : Shared) : Shared := { s with gens := s.gens.mapIdx fun i x => pickG G[i]? x }
structure Good (G : Array GenState) (s : Shared) : Prop where
 sz : G.size ≤ s.gens.size
 sl : ∀ (i : Nat) (y : GenState), G[i]? = some y → sleeps y = true → s.gens[i]? = some (stung y)
 no : ∀ (i : Nat) (x : GenState), (∀ y, G[i]? = some y → sleeps y = false) → s.gens[i]? = some x → NoGS x
section
variable {G : Array GenState} {s : Shared}
theorem Good.of {s' : Shared} (g : Good G s) (e : s'.gens = s.gens) : Good G s' := ⟨by rw [e]; exact g.sz, by rw [e]; exact g.sl, by rw [e]; exact g.no⟩
end
end Z
namespace Z
open PySem L2
open Sem (wp)
open PyProof.Rows hiding St
section
variable {M : Model} {G : Array GenState}
def Still (G : Array GenState) (s : Shared) : Prop := ∀ (i : Nat) (y : GenState), G[i]? = some y → sleeps y = true → s.gens[i]? = some y
end
end Z
namespace Z
open PySem PySem.Spec L2 GenW
open PyProof.Rows hiding St
structure WRel (it L : Addr) (s0 s : Shared) : Prop where
 os : s.os = s0.os
 gens : s.gens = s0.gens
 keep : ∀ b o, b ≠ it → b ≠ L → s0.heap.get? b = some o → s.heap.get? b = some o
def TupQ (qs : List V) (q : Addr) (h : Heap) : Prop := ∃ its : List Value, Vals qs its ∧ h.IsTuple q its.toArray
structure WAt (it L q : Addr) (i : Nat) (h : Heap) : Prop where
 ns : ∃ m, h.Ns L m
 it : h.IsTupleIter it q i
def YW (it L q : Addr) (qs : List V) (N : Nat) : Protocol := fun n s0 v s1 kap =>
 ∃ i x, n + (i + 1) = N ∧ qs[i]? = some x ∧ RelV x v ∧ WRel it L s0 s1 ∧ WAt it L q (i + 1) s1.heap ∧ ∀ s'', WAt it L q (i + 1) s''.heap → TupQ qs q s''.heap → kap (.send .none) s'' ∧ kap (.send (.bool true)) s''
def FW (it L : Addr) (qs : List V) (N n : Nat) (s0 s1 : Shared) : Prop := N = n + qs.length ∧ WRel it L s0 s1
def RW (it L : Addr) (qs : List V) (N : Nat) : GenEnd := fun n s0 r s1 => ((r = .ok (.ret .none) ∨ r = .ok .next) ∧ FW it L qs N n s0 s1) ∨ ∃ e, r = .error e ∧ False
theorem WRel.refl {it L : Addr} {s : Shared} : WRel it L s s := ⟨rfl, rfl, fun _ _ _ _ e => e⟩
theorem WRel.trans {it L : Addr} {s0 s1 s2 : Shared} (a : WRel it L s0 s1) (b : WRel it L s1 s2) : WRel it L s0 s2 := ⟨b.os.trans a.os, b.gens.trans a.gens, fun c o h1 h2 e => b.keep c o h1 h2 (a.keep c o h1 h2 e)⟩
theorem WRel.toks {it L : Addr} {s0 s : Shared} {t : Nat} (a : WRel it L s0 s) : WRel it L s0 { s with toks := t } := ⟨a.os, a.gens, a.keep⟩
section
variable {prog : Program} {w : World} {A : Around} {env : Env} {it L q : Addr} {qs : List V} {p1 p2 p3 p4 p5 p6 p7 : Pos}
abbrev wBody (p4 p5 p6 : Pos) : List Stmt := [.Expr (.Yield (some (.Name "row" p4)) p5) p6]
abbrev wFor (p1 p2 p3 p4 p5 p6 p7 : Pos) (f : Str) : Stmt := .For (.Name "row" p1) (.Attribute (.Name "self" p2) f p3) (wBody p4 p5 p6) [] p7
end
end Z
namespace Z
open PySem PySem.Spec L2 GenW
open PyProof.Rows hiding St
section
variable {P : Program} {w : World} {A : Around} {a it L q : Addr} {g : Nat} {qs : List V}
structure GAt (P : Program) (w : World) (A : Around) (a it L q : Addr) (g : Nat) (qs : List V) (i : Nat) (s : Shared) : Prop where
 gs : ∃ gs : GenState, s.gens[g]? = some gs ∧ sleeps gs = true ∧ gs.bare = true ∧ ∀ s'', WAt it L q i s''.heap → TupQ qs q s''.heap → gs.Goes (model P w) A.in1 (RW it L qs qs.length) (YW it L q qs qs.length) (qs.length - i) (.send .none) s''
 at_ : WAt it L q i s.heap
 gen : s.heap.IsGen a g
structure GStep (it L : Addr) (g : Nat) (s s1 : Shared) : Prop where
 os : s1.os = s.os
 bare : AllBare s.gens → AllBare s1.gens
 keep : ∀ b o, b ≠ it → b ≠ L → s.heap.get? b = some o → s1.heap.get? b = some o
end
end Z
set_option maxHeartbeats 1000000
namespace Z
open PySem PySem.Spec L2 GenW
open PyProof.Rows hiding St
structure WNew (P : Program) (w : World) (fl : Str) (o a L : Addr) (g : Nat) (s : Shared) : Prop where
 gen : s.heap.IsGen a g
 gs : ∃ env p1 p2 p3 p4 p5 p6 p7, s.gens[g]? = some (.fresh (.func [wFor p1 p2 p3 p4 p5 p6 p7 fl] env)) ∧ env.scope.kind = .function ∧ env.kindOf "self" = some .local ∧ env.kindOf "row" = some .local ∧ env.scope.isCoroutine = false ∧
  interactive env = false ∧ env.locals = L ∧ attributeBase (.Name "self" p2) fl env (eval (.Name "self" p2) env) = eval (.Name "self" p2) env
 ns : ∃ m, s.heap.Ns L m ∧ m "self" = some (.ref o)
structure WMade (P : Program) (w : World) (fl : Str) (o : Addr) (s : Shared) (u : Value) (s' : Shared) : Prop where
 ex : ∃ a L g, u = .ref a ∧ s.heap.objs.size ≤ a ∧ s.heap.objs.size ≤ L ∧ WNew P w fl o a L g s'
 os : s'.os = s.os
 bare : AllBare s'.gens
 keep : ∀ b ob, s.heap.get? b = some ob → s'.heap.get? b = some ob
structure WFn (P : Program) (w : World) (K : PySem.W.Frag) (mg : Str → Option Value) (base : Heap) (k : Nat) (f : Addr) (fd : FuncData) (fl : Str) : Prop where
 run : ∀ (A : Around) (outer : List Env) (s : Shared) (H : Hp) (args : Args) (o : Addr), Room k A → Env0 P w K mg base A outer s H → BindsTo s fd args (([("self" : Str)]).zip [Value.ref o]) →
  codeAny (model P w) A (.call (.ref f) args) (fun r s' => match r with | .ok (.ret u) => WMade P w fl o s u s' | _ => False) s
section
variable {X : Cx} {k : Nat} {C f : Addr} {fd : FuncData} {fl m : Str} {o : Expr} {ta : TE} {pos' apos : Pos}
structure PWk (X : Cx) (C : Addr) (fl : Str) (e : Expr) (tw : St → Hp → (Addr → Addr → List V → Hp → Prop) → Prop) : Prop where
 run : ∀ (pins : List (Addr × Obj)) (s : Shared) (σ : L2.St) (H : Hp) (R : Addr → Addr → List V → Hp → Prop), Inv X pins σ H s → tw σ H R → wpAny (model X.prog X.w) X.A (eval e X.env)
  (fun u s' => ∃ o q qs H1 a L g, u = .ref a ∧ Inv X pins σ H1 s' ∧ FpOk X pins H1 a ∧ FpOk X pins H1 L ∧ WNew X.prog X.w fl o a L g s' ∧ (∃ dx fs, H1 o = some (.ins C dx fs) ∧ fs.lookup fl = some (.ref q)) ∧ SqT X.K H1 q qs ∧ qs.length < 1000 ∧ R o q qs H1) X.xe s
end
end Z
namespace Z
open PySem PySem.Spec L2 GenW
open PyProof.Rows hiding St
section
variable {X : Cx} {C : Addr} {fl : Str} {e : Expr} {tw : St → Hp → (Addr → Addr → List V → Hp → Prop) → Prop}
theorem Still.trans {G : Array GenState} {s s' : Shared} (h : Still G s) (k : Still s.gens s') : Still G s' := fun i y e z => k i y (h i y e z) z
end
end Z
namespace Z
open PySem PySem.Spec L2 GenW
open PyProof.Rows hiding St
end Z
namespace Z
open PySem PySem.Spec L2 GenW
open PyProof.Rows hiding St
end Z
namespace Z
open PySem PySem.Spec L2
open PyProof.Rows hiding St
section
variable {X : Cx}
end
end Z
namespace Z
open PySem PySem.Spec L2 HT
open PyProof.Rows hiding St
end Z
namespace Z
open PySem PySem.Spec L2
open PyProof.Rows hiding St
end Z
namespace Z
open PySem PySem.Spec L2
open PyProof.Rows hiding St
section
variable {X : Cx} {T : List (Addr × Str)} {e e2 tg : Expr} {te : TEp} {t : TAp}
end
end Z
namespace Z
open PySem PySem.Spec L2
open PyProof.Rows hiding St
section
variable {X : Cx}
variable {T : List (Addr × Str)} {e : Expr} {te ta tb : TEp}
def rInt1 : R1p := fun ps P => match ps with
 | [.int i] => P (.int i)
 | [.bl b] => P (.int (if b then 1 else 0))
 | _ => False
theorem zc_int1 : CallR X (.type "int") (r1 X.K rInt1) := by
 refine CallR.weak (call_int1 (X := X)) fun xs H Q h => ?_
 obtain ⟨O, ps, P, tr, hx, h, k⟩ := h
 unfold rInt1 at h
 split at h
 ·obtain ⟨v, rfl, r⟩ := hx.one
  cases r.int_
  exact .inl ⟨_, rfl, k.int h⟩
 ·obtain ⟨v, rfl, r⟩ := hx.one
  cases r.bl_
  exact .inr ⟨_, rfl, k.int h⟩
 ·cases h
end
end Z
namespace Z
open PySem PySem.Spec L2
open PyProof.Rows hiding St
end Z
namespace Z
open PySem PySem.Spec L2 GenW
open PyProof.Rows hiding St
end Z
namespace Z
open PySem PySem.Spec L2 GenW
open PyProof.Rows hiding St
end Z
namespace Z
open PySem PySem.Spec L2
open PyProof.Rows hiding St
section
variable {X : Cx}
theorem call_divmodW : CallR X (.builtin "divmod") (fun xs H Q => ∃ i j, xs = [.int i, .int j] ∧ CDivW i j ∧ ∀ p, H p = none → Q (.ref p) (upd H p (.tup [.int (i / j), .int (i % j)]))) := by
 intro pins s σ H xs us Q I r h
 obtain ⟨i, j, rfl, ⟨h1, h2⟩, q⟩ := h
 obtain ⟨u, w', rfl, ⟨t, rfl⟩, ⟨t', rfl⟩⟩ := vals2 r
 refine divmod_int (by omega) ?_ (.inl (PyProof.noPylong_of_log2 h2))
 rw [Int.fdiv_eq_ediv_of_nonneg i (by omega), Int.fmod_eq_emod_of_nonneg i (by omega)]
 have hn : H s.heap.objs.size = none := I.hok.fresh (Nat.le_refl _)
 refine ⟨.ref s.heap.objs.size, _, ?_, rfl, q _ hn⟩
 refine I.laid (fun b o e => Heap.get?_push_of_some _ e) (Nat.le_refl _) ⟨by simp only [List.length_cons, List.length_nil]; rw [sizeLine_eq]; decide, [.int (i / j) s.toks, .int (i % j) (s.toks + 1)], .cons ⟨_, rfl⟩ (.cons ⟨_, rfl⟩ .nil), ?_⟩
 exact ⟨_, Heap.get?_push_size s.heap rfl, rfl, 0, rfl⟩
def rDivmodW : R1p := fun ps P => match ps with
 | [.int i, .int j] => CDivW i j ∧ P (.tup [.int (i / j), .int (i % j)])
 | _ => False
theorem zc_divmodW : CallR X (.builtin "divmod") (r1 X.K rDivmodW) := by
 refine CallR.weak (call_divmodW (X := X)) fun xs H Q h => ?_
 obtain ⟨O, ps, P, tr, hx, h, k⟩ := h
 unfold rDivmodW at h
 split at h
 ·obtain ⟨v, w, rfl, r, r'⟩ := hx.two
  cases r.int_; cases r'.int_
  exact ⟨_, _, rfl, h.1, fun p hp => k.newT h.2 tr (.cons rep_int (.cons rep_int .nil)) hp⟩
 ·cases h
theorem q_divmodW {i j : Int} {P : PV → Prop} (c : CDivW i j) (h : P (.tup [.int (i / j), .int (i % j)])) : rDivmodW [.int i, .int j] P := ⟨c, h⟩
theorem cdivW {i j : Int} (h : 0 < j) (h' : j < 10 ^ 40) : CDivW i j := wide_div (b := 200) h (by
 have : (10 : Int) ^ 40 < 2 ^ 200 := by decide
 omega) (by decide) (by decide)
end
end Z
namespace Z
open PySem PySem.Spec L2 GenW
open PyProof.Rows hiding St
section
variable {X : Cx} {T : List (Addr × Str)} {e o c : Expr} {es : List Expr} {st : Stmt} {body rest : List Stmt} {te ta : TEp} {t : TAp} {tt : TTp} {ts tb : TSp} {pos p p' pos' : Pos} {k : Nat} {f : Addr} {fd : FuncData} {ps : List Str} {x nm : Str} {i : Nat}
structure GEndsP where
 nx : List PV → EP' → Prop
abbrev TGSp := GEndsP → List PV → EP' → Prop
theorem GS.weak {t t' : TGn} (h : GS X st t) (w : ∀ D ys σ H, t' D ys σ H → t D ys σ H) : GS X st t' := ⟨fun A S ip R n ys s₀ c fs K J gd lv s σ H D g hn kk hI ht => h.run A S ip R n ys s₀ c fs K J gd lv s σ H D g hn kk hI (w _ _ _ _ ht)⟩
theorem GSs.weak {t t' : TGn} (h : GSs X body t) (w : ∀ D ys σ H, t' D ys σ H → t D ys σ H) : GSs X body t' := ⟨fun A S ip R n ys s₀ c fs K J gd lv s σ H D g hn kk hI ht => h.run A S ip R n ys s₀ c fs K J gd lv s σ H D g hn kk hI (w _ _ _ _ ht)⟩
end
end Z
namespace Z
open PySem PySem.Spec L2
open PyProof.Rows hiding St
theorem Room.u1 {k : Nat} {A : Around} (h : Room k A) : A.units + 1 < cLine := by have := h.units; omega
def valP : List (Key × PV) → Key → Option PV
 | [], _ => none
 | p :: r, k => if p.1 = k then some p.2 else valP r k
def putP (kvs : List (Key × PV)) (k : Key) (x : PV) : List (Key × PV) :=
 if (kvs.any fun kv => decide (kv.1 = k)) = true then kvs.map (fun kv => if kv.1 = k then (kv.1, x) else kv) else kvs ++ [(k, x)]
section
variable {K : PySem.W.Frag} {O O' : Addr → Prop} {H H' : Hp}
theorem RepD.inv {n : Key} {x : PV} {xs : List (Key × PV)} {vs : List (Key × V)} (h : RepD K O H ((n, x) :: xs) vs) : ∃ v us, vs = (n, v) :: us ∧ Rep K O H x v ∧ RepD K O H xs us := by unfold RepD at h; exact h
theorem RepD.inv0 {vs : List (Key × V)} (h : RepD K O H [] vs) : vs = [] := by unfold RepD at h; exact h
theorem RepD.cons {n : Key} {x : PV} {v : V} {xs : List (Key × PV)} {vs : List (Key × V)} (h : Rep K O H x v) (t : RepD K O H xs vs) : RepD K O H ((n, x) :: xs) ((n, v) :: vs) := by unfold RepD; exact ⟨v, vs, rfl, h, t⟩
theorem RepD.app : ∀ {xs ys : List (Key × PV)} {vs us : List (Key × V)}, RepD K O H xs vs → RepD K O H ys us → RepD K O H (xs ++ ys) (vs ++ us)
 | [], _, _, _, h, t => by rw [h.inv0]; exact t
 | (n, x) :: xs, _, _, _, h, t => by
  obtain ⟨v, us, rfl, r, q⟩ := h.inv
  exact .cons r (q.app t)
theorem RepD.val : ∀ {xs : List (Key × PV)} {vs : List (Key × V)} (k : Key), RepD K O H xs vs → (∀ x, valP xs k = some x → ∃ v, valV vs k = some v ∧ Rep K O H x v) ∧ (valP xs k = none → valV vs k = none)
 | [], _, k, h => by
  rw [h.inv0]
  exact ⟨fun x e => (nomatch e), fun _ => rfl⟩
 | (n, x) :: xs, _, k, h => by
  obtain ⟨v, us, rfl, r, t⟩ := h.inv
  obtain ⟨h1, h2⟩ := t.val k
  by_cases e : n = k
  ·refine ⟨fun y q => ?_, fun q => ?_⟩
   ·unfold valP at q; rw [if_pos e] at q; cases q
    exact ⟨v, valV_pos (p := (n, v)) e, r⟩
   ·unfold valP at q; rw [if_pos e] at q; cases q
  ·rw [valV_neg (p := (n, v)) e]
   unfold valP; rw [if_neg e]
   exact ⟨h1, h2⟩
theorem RepD.any : ∀ {xs : List (Key × PV)} {vs : List (Key × V)} (k : Key), RepD K O H xs vs → (vs.any fun kv => decide (kv.1 = k)) = (xs.any fun kv => decide (kv.1 = k))
 | [], _, k, h => by rw [h.inv0]; rfl
 | (n, x) :: xs, _, k, h => by
  obtain ⟨v, us, rfl, r, t⟩ := h.inv
  rw [List.any_cons, List.any_cons, t.any k]
theorem RepD.repl : ∀ {xs : List (Key × PV)} {vs : List (Key × V)} (k : Key) {y : PV} {u : V}, RepD K O H xs vs → Rep K O H y u → RepD K O H (xs.map fun kv => if kv.1 = k then (kv.1, y) else kv) (vs.map fun kv => if kv.1 = k then (kv.1, u) else kv)
 | [], _, k, _, _, h, _ => by rw [h.inv0]; exact .nil
 | (n, x) :: xs, _, k, _, _, h, ry => by
  obtain ⟨v, us, rfl, r, t⟩ := h.inv
  rw [List.map_cons, List.map_cons]
  by_cases e : n = k
  ·rw [if_pos e, if_pos e]; exact .cons ry (t.repl k ry)
  ·rw [if_neg e, if_neg e]; exact .cons r (t.repl k ry)
theorem RepD.put {xs : List (Key × PV)} {vs : List (Key × V)} (k : Key) {y : PV} {u : V} (h : RepD K O H xs vs) (ry : Rep K O H y u) : RepD K O H (putP xs k y) (putK vs k u) := by
 unfold putP putK
 rw [h.any k]
 split
 ·exact h.repl k ry
 ·exact h.app (.cons ry .nil)
theorem Rep.dic_ {kvs : List (Key × PV)} {v : V} (h : Rep K O H (.dic kvs) v) : ∃ a ws, v = .ref a ∧ ¬ O a ∧ H a = some (.dK ws) ∧ RepD K O H kvs ws := by unfold Rep at h; exact h
end
abbrev TFDp := EP' → (List (Key × PV) → EP' → Prop) → Prop
section
variable {X : Cx} {T : List (Addr × Str)} {e o a b : Expr} {es : List Expr} {te ta tb ti : TEp} {t : TAp} {tr : TArp} {tf : TFDp} {pos : Pos} {i : Nat}
end
end Z
namespace Z
open PySem PySem.Spec L2
open PyProof.Rows hiding St
inductive Ab where
 | v (x : PV) | b (i : Nat)
abbrev TAbp := EP' → (List Ab → EP' → Prop) → Prop
mutual
def tpV : PV → Bool
 | .tup xs => tpVs xs
 | .pln xs => tpVs xs
 | .non => true
 | .bl _ => true
 | .int _ => true
 | .str _ => true
 | _ => false
def tpVs : List PV → Bool
 | [] => true
 | x :: xs => tpV x && tpVs xs
end
section
variable {K : PySem.W.Frag} {O O' : Addr → Prop} {H H' : Hp}
mutual
theorem tpV_back (hB : ∀ a, O' a → ¬ O a → ∀ vs, ¬ Rd H a (.tup vs)) : ∀ (x : PV) (v : V), tpV x = true → Rep K O H x v → Rep K O' H x v
 | .tup xs, v, e, h => by
  obtain ⟨a, vs, rfl, t, r⟩ := h.tup_
  unfold tpV at e
  unfold Rep
  refine ⟨a, vs, rfl, ?_, tpVs_back hB xs vs e r⟩
  rcases t with ⟨n, q⟩ | t
  ·exact .inl ⟨fun z => hB a z n vs q, q⟩
  ·exact .inr t
 | .pln xs, v, e, h => by
  unfold tpV at e
  unfold Rep at h ⊢
  obtain ⟨a, vs, o, rfl, n, q, d, r⟩ := h
  exact ⟨a, vs, o, rfl, fun z => hB a z n vs (.inr ⟨o, q⟩), q, d, tpVs_back hB xs vs e r⟩
 | .non, _, _, h => by unfold Rep at h ⊢; exact h
 | .bl _, _, _, h => by unfold Rep at h ⊢; exact h
 | .int _, _, _, h => by unfold Rep at h ⊢; exact h
 | .str _, _, _, h => by unfold Rep at h ⊢; exact h
 | .lst _, _, e, _ => by unfold tpV at e; cases e
 | .scr _, _, e, _ => by unfold tpV at e; cases e
 | .ins _ _, _, e, _ => by unfold tpV at e; cases e
 | .dic _, _, e, _ => by unfold tpV at e; cases e
 | .raw _, _, e, _ => by unfold tpV at e; cases e
theorem tpVs_back (hB : ∀ a, O' a → ¬ O a → ∀ vs, ¬ Rd H a (.tup vs)) : ∀ (xs : List PV) (vs : List V), tpVs xs = true → Reps K O H xs vs → Reps K O' H xs vs
 | [], _, _, h => by rw [h.inv0]; exact .nil
 | x :: xs, _, e, h => by
  obtain ⟨v, us, rfl, r, t⟩ := h.inv
  unfold tpVs at e
  rw [Bool.and_eq_true] at e
  exact .cons (tpV_back hB x v e.1 r) (tpVs_back hB xs us e.2 t)
end
end
end Z
namespace Z
open PySem PySem.Spec L2
open PyProof.Rows hiding St
end Z
namespace Z
open PySem PySem.Spec L2
open PyProof.Rows hiding St
structure ZSt (z TI TO i1 i2 l1 l2 S : Addr) (xs ys : Array Value) (i : Nat) (h : Heap) : Prop where
 ti : IsPair h TI (.ref i1) (.ref i2)
 h1 : h.IsListIter i1 l1 i
 h2 : h.IsListIter i2 l2 i
 l1 : h.IsList l1 xs
 l2 : h.IsList l2 ys
 to : ∃ o, h.get? TO = some o
 z : (IsZip h z TI TO .none ∧ ∃ a b, IsPair h TO a b) ∨ ∃ T f oT, IsZipHeld h z TI TO T f ∧ h.get? T = some oT ∧ T ≠ z ∧ T ≠ i1 ∧ T ≠ i2 ∧ T ≠ S
section
variable {prog : Program} {w : World} {A : Around} {E : Value → Shared → Prop} {s : Shared} {z TI TO i1 i2 l1 l2 S : Addr} {xs ys : Array Value} {i : Nat}
theorem ZSt.type (st : ZSt z TI TO i1 i2 l1 l2 S xs ys i s.heap) : s.TypeIs (.ref z) "zip" := by
 rcases st.z with ⟨hz, _⟩ | ⟨T, f, oT, hz, _⟩
 ·exact ⟨_, hz, rfl⟩
 ·exact ⟨_, hz, rfl⟩
theorem ZSt.frame {h h' : Heap} (st : ZSt z TI TO i1 i2 l1 l2 S xs ys i h) (dS : S ≠ z ∧ S ≠ TI ∧ S ≠ TO ∧ S ≠ i1 ∧ S ≠ i2 ∧ S ≠ l1 ∧ S ≠ l2) (hk : ∀ b o, b ≠ S → h.get? b = some o → h'.get? b = some o) : ZSt z TI TO i1 i2 l1 l2 S xs ys i h' := by
 obtain ⟨hTI, h1, h2, hl1, hl2, ⟨oTO, hto⟩, hz⟩ := st
 obtain ⟨dz, dTI, dTO, di1, di2, dl1, dl2⟩ := dS
 refine ⟨hk _ _ (Ne.symm dTI) hTI, h1.at fun o e => hk _ o (Ne.symm di1) e, h2.at fun o e => hk _ o (Ne.symm di2) e, hl1.at fun o e => hk _ o (Ne.symm dl1) e, hl2.at fun o e => hk _ o (Ne.symm dl2) e, ⟨oTO, hk _ _ (Ne.symm dTO) hto⟩, ?_⟩
 rcases hz with ⟨hz, a, b, hTO⟩ | ⟨T, f, oT, hz, hT, r1, r2, r3, r4⟩
 ·exact .inl ⟨hk _ _ (Ne.symm dz) hz, a, b, hk _ _ (Ne.symm dTO) hTO⟩
 ·exact .inr ⟨T, f, oT, hk _ _ (Ne.symm dz) hz, hk _ _ r4 hT, r1, r2, r3, r4⟩
theorem ZSt.item {x y : Value} {Q : Option Value → Shared → Prop} (st : ZSt z TI TO i1 i2 l1 l2 S xs ys i s.heap) (D : ZipApart z TI TO i1 i2 l1 l2) (hS : S < s.heap.objs.size) (ex : xs[i]? = some x) (ey : ys[i]? = some y)
  (hQ : ∀ h', IsPair h' s.heap.objs.size x y → ZSt z TI TO i1 i2 l1 l2 S xs ys (i + 1) h' → (∀ b o, b ∉ [z, TI, TO, i1, i2] → s.heap.get? b = some o → h'.get? b = some o) → Q (some (.ref s.heap.objs.size)) { s with heap := h' }) :
  wpAny (model prog w) A (pyNext (.ref z)) Q E s := by
 obtain ⟨hTI, h1, h2, hl1, hl2, ⟨oTO, hto⟩, hz⟩ := st
 have lt : ∀ {c o}, s.heap.get? c = some o → s.heap.objs.size ≠ c := fun e => Nat.ne_of_gt (Heap.lt_size e)
 have n1 : s.heap.objs.size ≠ i1 := let ⟨_, e, _⟩ := h1; lt e
 have n2 : s.heap.objs.size ≠ i2 := let ⟨_, e, _⟩ := h2; lt e
 rcases hz with ⟨hz, a, b, hTO⟩ | ⟨T, f, oT, hz, hT, r1, r2, r3, r4⟩
 ·refine wpAny_pyNext_zip_item D hz hTI hTO h1 h2 hl1 hl2 ex ey fun h' a1 a2 a3 a4 a5 a6 hk => ?_
  exact hQ h' a5 ⟨hk _ _ D.TIz D.TITO D.TIi1 D.TIi2 hTI, a3, a4, hl1.at fun o e => hk _ o D.l1z D.l1TO D.l1i1 D.l1i2 e, hl2.at fun o e => hk _ o D.l2z D.l2TO D.l2i1 D.l2i2 e, ⟨_, a2⟩,
    .inr ⟨s.heap.objs.size, false, _, a1, a5, lt hz, n1, n2, Nat.ne_of_gt hS⟩⟩
   fun c o hc e => hk c o (fun x => hc (by simp [x])) (fun x => hc (by simp [x])) (fun x => hc (by simp [x])) (fun x => hc (by simp [x])) e
 ·refine wpAny_pyNext_zip_item_held D hz hT hTI h1 h2 hl1 hl2 ex ey fun h' a1 a3 a4 a5 a6 hk => ?_
  exact hQ h' a5 ⟨hk _ _ D.TIz D.TIi1 D.TIi2 hTI, a3, a4, hl1.at fun o e => hk _ o D.l1z D.l1i1 D.l1i2 e, hl2.at fun o e => hk _ o D.l2z D.l2i1 D.l2i2 e, ⟨oTO, hk _ _ D.TOz D.TOi1 D.TOi2 hto⟩,
    .inr ⟨T, true, oT, a1, hk _ _ r1 r2 r3 hT, r1, r2, r3, r4⟩⟩
   fun c o hc e => hk c o (fun x => hc (by simp [x])) (fun x => hc (by simp [x])) (fun x => hc (by simp [x])) e
theorem ZSt.done {Q : Option Value → Shared → Prop} (st : ZSt z TI TO i1 i2 l1 l2 S xs ys i s.heap) (D : ZipApart z TI TO i1 i2 l1 l2) (hh : A.handled = none) (hend : xs[i]? = none ∨ ys[i]? = none)
  (hQ : ∀ h', (∀ b o, b ∉ [z, TI, TO, i1, i2] → s.heap.get? b = some o → h'.get? b = some o) → Q none { s with heap := h' }) :
  wpAny (model prog w) A (pyNext (.ref z)) Q E s := by
 obtain ⟨hTI, h1, h2, hl1, hl2, ⟨oTO, hto⟩, hz⟩ := st
 rcases hz with ⟨hz, a, b, hTO⟩ | ⟨T, f, oT, hz, hT, r1, r2, r3, r4⟩
 ·exact wpAny_pyNext_zip_end hh D hz hTI hTO h1 h2 hl1 hl2 hend fun h' hk => hQ h' fun c o hc e => hk c o (fun x => hc (by simp [x])) (fun x => hc (by simp [x])) (fun x => hc (by simp [x])) (fun x => hc (by simp [x])) e
 ·exact wpAny_pyNext_zip_end_held hh D hz hT hTI h1 h2 hl1 hl2 hend fun h' hk => hQ h' fun c o hc e => hk c o (fun x => hc (by simp [x])) (fun x => hc (by simp [x])) (fun x => hc (by simp [x])) e
end
end Z
namespace Z
open PySem PySem.Spec L2
open PyProof.Rows hiding St
end Z
namespace Z
open PySem PySem.Spec L2
open PyProof.Rows hiding St
end Z
namespace Z
open PySem PySem.Spec L2
open PyProof.Rows hiding St
section
variable {X : Cx} {T : List (Addr × Str)} {e a b o : Expr} {es : List Expr} {te ta tb ti : TEp} {t : TAbp} {pos p : Pos} {i : Nat} {x : Str}
end
abbrev TOp' := EP' → (Ow → EP' → Prop) → Prop
section
variable {X : Cx} {T : List (Addr × Str)} {e : Expr} {st : Stmt} {rest : List Stmt} {t1 : TSp} {tf : TOp'} {pos : Pos} {i : Nat}
end
end Z
namespace Z
open PySem PySem.Spec L2
open PyProof.Rows hiding St
section
variable {K : PySem.W.Frag} {O : Addr → Prop} {H : Hp}
theorem RepD.get : ∀ {xs : List (Key × PV)} {vs : List (Key × V)} {j : Nat} {p : Key × PV}, RepD K O H xs vs → xs[j]? = some p → ∃ v, vs[j]? = some (p.1, v)
 | [], _, j, p, h, e => by simp at e
 | (n, x) :: xs, _, 0, p, h, e => by
  obtain ⟨v, us, rfl, r, t⟩ := h.inv
  simp at e
  exact ⟨v, by rw [← e]; rfl⟩
 | (n, x) :: xs, _, j + 1, p, h, e => by
  obtain ⟨v, us, rfl, r, t⟩ := h.inv
  simpa using t.get (by simpa using e)
end
end Z
namespace Z
open PySem PySem.Spec L2
end Z
namespace Z
open PySem PySem.Spec L2
open PyProof.Rows hiding St
end Z
namespace Z
open PySem PySem.Spec L2
open PyProof.Rows hiding St
end Z
namespace Z
open PySem PySem.Spec L2
open PyProof.Rows hiding St
end Z
namespace Z
open PySem PySem.Spec L2
open PyProof.Rows hiding St
end Z
namespace Z
open PySem PySem.Spec L2
open PyProof.Rows hiding St
variable {X : Cx}
end Z
namespace Z
open PySem PySem.Spec L2
open PyProof.Rows hiding St
end Z
namespace Z
open PySem PySem.Spec L2
open PyProof.Rows hiding St
end Z
namespace Z
open PySem PySem.Spec L2 GenW
open PyProof.Rows hiding St
end Z
namespace Z
open PySem PySem.Spec L2 GenW
open PyProof.Rows hiding St
end Z
namespace Z
open PySem PySem.Spec L2
open PyProof.Rows hiding St
end Z
namespace Z
open PySem PySem.Spec L2
open PyProof.Rows hiding St
end Z
namespace Z
open PySem PySem.Spec L2
open PyProof.Rows hiding St
end Z
namespace Z
open PySem PySem.Spec L2
open PyProof.Rows hiding St
end Z
namespace Z
open PySem PySem.Spec L2
open PyProof.Rows hiding St
end Z
namespace Z
open PySem PySem.Spec L2
open PyProof.Rows hiding St
variable {X : Cx}
end Z
namespace Z
open PySem PySem.Spec L2
open PyProof.Rows hiding St
def KeysAre : List DictEntry → List Str → Prop
 | [], [] => True
 | e :: r, k :: ks => (∃ t, e.key = .str k t) ∧ KeysAre r ks
 | _, _ => False
theorem KeysAre.at_ : ∀ {es : List DictEntry} {ks : List Str}, KeysAre es ks → es.length = ks.length ∧ ∀ (i : Nat) (k : Str), ks[i]? = some k → ∃ en t, es[i]? = some en ∧ en.key = .str k t
 | [], [], _ => ⟨rfl, fun i k z => by simp at z⟩
 | e :: r, k :: ks, h => by
  obtain ⟨⟨t, ht⟩, h2⟩ := h
  obtain ⟨h3, h4⟩ := h2.at_
  refine ⟨by rw [List.length_cons, List.length_cons, h3], fun i k' z => ?_⟩
  cases i with
  | zero => simp at z; subst z; exact ⟨e, t, rfl, ht⟩
  | succ i => obtain ⟨en, t', a, b⟩ := h4 i k' (by simpa using z); exact ⟨en, t', by simpa using a, b⟩
 | [], _ :: _, h => h.elim
 | _ :: _, [], h => h.elim
section
variable {X : Cx} {T : List (Addr × Str)} {tg e w : Expr} {es : List Expr} {td : TE} {tw : TEp} {ta : TAp} {d : Addr} {ents : Array DictEntry} {n k i : Nat} {ks : List Str} {S x : Str} {p p1 p2 p3 p4 p5 p6 p7 pos : Pos}
structure HeldS (X : Cx) (k : Nat) (f : Addr) (sp : Sp) : Prop where
 ex : ∃ (fd : FuncData) (ps : List Str), FnOk X.prog X.w X.K X.mg X.base CX0 k f fd ps sp ∧ PySem.W.keepIn X.K (.ref f) = true ∧ Binds X.K fd ps []
end
end Z
set_option maxHeartbeats 2000000
namespace Z
open PySem PySem.Spec L2
open PyProof.Rows hiding St
def eqb (k : Bool) (v : Value) : Bool := match v with
 | .bool n => n == k
 | _ => false
theorem vals_bool : ∀ {bs : List Bool} {us : List Value}, Vals (bs.map V.bl) us → us = bs.map Value.bool
 | [], _, h => by cases h; rfl
 | b :: bs, _, h => by
  cases h with
  | cons a t =>
   rw [vals_bool t]
   have : _ = Value.bool b := a
   rw [this]; rfl
theorem eqb_count {k : Bool} : ∀ {bs : List Bool}, (bs.map Value.bool).countP (eqb k) = bs.count k
 | [] => rfl
 | b :: bs => by
  rw [List.map_cons, List.countP_cons, List.count_cons, eqb_count (k := k) (bs := bs)] <;> rfl
section
variable {X : Cx}
def rCntB (K : PySem.W.Frag) : V → List V → Hp → VK → Prop := fun x xs H Q => ∃ (p : Addr) (bs : List Bool) (k : Bool), x = .ref p ∧ xs = [.bl k] ∧ SqL K H p (bs.map V.bl) ∧ Q (.int (bs.count k : Nat)) H
theorem mt_lcountB : MtR X "list.count" (rCntB X.K) := by
 intro pins s σ H x xs v us Q I rx rxs h
 obtain ⟨p, bs, k, rfl, rfl, hs, q⟩ := h
 cases rx
 obtain ⟨u, rfl, ru⟩ := rxs.one
 obtain rfl : u = Value.bool k := ru
 obtain ⟨its, rv, ⟨⟨cls, dd, data, sl⟩, n, ho, hc, hdn, hd⟩, hlen⟩ := I.list hs
 simp only at hc hd
 subst hc hd
 have hi := vals_bool rv
 refine call_meets PySem.F.slot_list_count ⟨_, ho, rfl⟩ PySem.F.entry_list_count (PySem.F.args_list_count_2 _ _)
  (SeqAt.list_countAt p its.toArray n dd sl (.bool k) (eqb k)) ⟨ho, fun y hy => ?_, ?_⟩
 ·rw [hi] at hy
  obtain ⟨b, _, rfl⟩ := List.mem_map.mp (show y ∈ bs.map Value.bool by simpa using hy)
  exact SeqAt.EqAt.bool_bool b k
 have ec : its.toArray.toList.countP (eqb k) = bs.count k := by
  rw [show its.toArray.toList = its from by simp, hi]; exact eqb_count
 refine ⟨.int (bs.count k : Nat), H, I.tok _, ⟨s.toks, ?_⟩, q⟩
 show Value.int ((its.toArray.toList.countP (eqb k) : Nat) : Int) s.toks = Value.int ((bs.count k : Nat) : Int) s.toks
 rw [ec]
end
section
variable {X : Cx} {T : List (Addr × Str)} {e : Expr} {to ti : TEp}
def tCntBP (to ti : TEp) : TEp := fun η P => to η fun x η1 => (∃ xs, x = .lst xs) ∧ ti η1 fun y η2 => ∃ (bs : List Bool) (k : Bool), x = .lst (bs.map .bl) ∧ y = .bl k ∧ P (.int ((bs.count k : Nat) : Int)) η2
theorem reps_bls {K : PySem.W.Frag} {O : Addr → Prop} {H : Hp} : ∀ {bs : List Bool} {vs : List V}, Reps K O H (bs.map .bl) vs → vs = bs.map V.bl
 | [], _, h => h.inv0
 | n :: ns, _, h => by
  obtain ⟨v, us, rfl, r, t⟩ := h.inv
  rw [r.bl_, reps_bls t]; rfl
theorem z_cntB {K0 : PySem.W.Frag} (hK : X.K = K0) (pf : PE X e (tBM K0 "list" (rCntB K0) (up K0 T to) (tCons (up K0 T ti) tNil))) : PE X e (up X.K T (tCntBP to ti)) := by
 subst hK
 refine PE.weak pf fun σ H Q q => ?_
 obtain ⟨F, η, P, R, h, k⟩ := q
 refine ⟨F, η, _, R, h, fun x η1 v H1 h1 e1 R1 r1 => ?_⟩
 obtain ⟨⟨xs, rfl⟩, h1⟩ := h1
 obtain ⟨a, vs, rfl, n, q, rr⟩ := id r1.lst_
 refine ⟨.inl ⟨rfl, vs, SqL.of q⟩, F, η1, _, R1, h1, fun y η2 w H2 h2 e2 R2 r2 => ?_⟩
 obtain ⟨bs, i, e, rfl, h2⟩ := h2
 have r3 := r1.car e2.car
 rw [e] at r3
 obtain ⟨a', vs', e3, n', q', rr'⟩ := r3.lst_
 cases e3
 have e4 := reps_bls rr'
 subst e4
 exact ⟨a, bs, i, rfl, by rw [r2.bl_], SqL.of q', k _ η2 _ H2 h2 (e1.trans e2) R2 rep_int⟩
theorem w_cntB {to ti : TEp} {η : EP'} {P : PV → EP' → Prop} (h : to η fun x η1 => (∃ xs, x = .lst xs) ∧ ti η1 fun y η2 => ∃ (bs : List Bool) (k : Bool), x = .lst (bs.map .bl) ∧ y = .bl k ∧ P (.int ((bs.count k : Nat) : Int)) η2) : tCntBP to ti η P := h
end
end Z
namespace Z
open PySem PySem.Spec L2 GenW
open PyProof.Rows hiding St
section
variable {X : Cx} {T : List (Addr × Str)} {e : Expr} {to ti : TEp}
def tIdxDP (to ti : TEp) : TEp := fun η P => to η fun x η1 => (∃ xs, x = .lst xs) ∧ ti η1 fun y η2 => ∃ (d : PyData) (ds : List PyData) (j : Nat) (z : PyData), toD x = some (.list ds) ∧ toD y = some d ∧ SeqAt.shaped (.list ds) = true ∧ SeqAt.shaped d = true ∧ ds[j]? = some z ∧ PyData.eqv z d = true ∧
 (∀ (m : Nat) (z' : PyData), m < j → ds[m]? = some z' → PyData.eqv z' d = false) ∧ P (.int (j : Int)) η2
theorem z_idxD {K0 : PySem.W.Frag} (hK : X.K = K0) (pf : PE X e (tBM K0 "list" (rIndexD K0) (up K0 T to) (tCons (up K0 T ti) tNil))) : PE X e (up X.K T (tIdxDP to ti)) := by
 subst hK
 refine PE.weak pf fun σ H Q q => ?_
 obtain ⟨F, η, P, R, h, k⟩ := q
 refine ⟨F, η, _, R, h, fun x η1 v H1 h1 e1 R1 r1 => ?_⟩
 obtain ⟨⟨xs, rfl⟩, h1⟩ := h1
 obtain ⟨a, vs, rfl, n, q, rr⟩ := id r1.lst_
 refine ⟨.inl ⟨rfl, vs, SqL.of q⟩, F, η1, _, R1, h1, fun y η2 w H2 h2 e2 R2 r2 => ?_⟩
 obtain ⟨d, ds, j, z, hx, hy, s1, s2, hz, hzj, hno, h2⟩ := h2
 have r3 := r1.car e2.car
 exact ⟨a, w, d, ds, j, z, rfl, rfl, Rep.dp _ _ _ r3 hx, Rep.dp _ _ _ r2 hy, s1, s2, hz, hzj, hno, k _ η2 _ H2 h2 (e1.trans e2) R2 rep_int⟩
end
end Z
namespace ZX
open PySem PySem.W PySem.Calls PyProof.Rows
section
variable {prog : Program} {w : World} {A : Around} {E : Value → Shared → Prop} {s : Shared} {h₀ : Heap} {L : Addr} {m mg mb : Str → Option Value} {news : List (Addr × Obj)} {K : Frag} {x C D f f2 cc cda so : Addr} {ox : Obj} {odx : Option Obj}
theorem super_node {body : List Stmt} {q : Str} {scope : Scope} {p0 p1 : Pos} {attr : Str} {whole : Sem Value} {fd : FuncData} {ar : Arg} {vs : Array Value} {file : Str} {tf : Tok} {oc ccl cl : Value} {od cdd cld : Option Addr} {osl ccs csl : Array (Option Value)} {cdD : ClassData} {Q : Value → Shared → Prop}
  (F : Fr h₀ L s.heap m) (X₀ : K.In h₀) (N : News h₀ L s.heap news) (Tg : s.heap.Ns mainGlobals mg) (Tb : s.heap.Ns builtinsNs mb) (Tv : mb "super" = some (.type "super"))
  (hf : K.lookup f = some ⟨oc, od, .func fd, osl⟩) (hp : (fd.params.posonlyargs ++ fd.params.args).head? = some ar) (hv : m ar.arg = some (.ref x)) (I : InstAt s.heap x ox C odx)
  (hcode : K.lookup cda = some ⟨ccl, cdd, .fields vs, ccs⟩) (hvs : vs[2]? = some (.str file tf)) (hfile : ((prog.main.file : Str) == file) = true)
  (hcell : K.lookup cc = some ⟨cl, cld, .cell (some (.ref D)), csl⟩) (hD : clsIn K D = some cdD) (hsub : mroIn K C (.ref D) = some true) (hsuper : mg "super" = none)
  (hat : (attr == ("__class__" : Str)) = false) (hks : scope.names.lookup ("super" : Str) = some .globalImplicit) (hkc : scope.names.lookup ("__class__" : Str) = some .free) (hka : scope.names.lookup ar.arg = some .local) (hk : scope.kind = .function)
  (htop : (prog.main.scope.names.lookup ("super" : Str)).isSome = false)
  (h : ∀ so h', Fr h₀ L h' m → News h₀ L h' ((so, ks_superObj D x C) :: news) → (∀ p ∈ news, p.1 < so) → Q (.ref so) { s with heap := h' }) :
  _root_.PySem.wpAt (model prog w) A (.func body (ksEnv q scope L f (.ref cda) cc)) (attributeBase (.Call (.Name "super" p0) [] [] p1) attr (ksEnv q scope L f (.ref cda) cc) whole) Q E s := by
 have X : K.In s.heap := X₀.keeps F.keep
 obtain ⟨hh, g, d, t, os⟩ := s
 obtain ⟨oD, hD1, hD2⟩ : ∃ oD, hh.get? D = some oD ∧ oD.data = .cls cdD := by
  unfold clsIn at hD
  split at hD
  ·rename_i c d cd' sl ho
   cases hD
   exact ⟨_, X _ _ ho, rfl⟩
  ·cases hD
 refine ks_wpAt_super_base (env := ksEnv q scope L f (.ref cda) cc) hks hkc hat rfl (X _ _ hf) rfl hp rfl (X _ _ hcode) rfl hvs hfile htop ?_
 refine ks_loadName_global hk hks (loadGlobal_builtin (env := ksEnv q scope L f (.ref cda) cc) Tg hsuper Tb Tv ⟨rfl, ?_⟩)
 refine wpAny_loadName_free hk hkc rfl ⟨_, X _ _ hcell, rfl⟩ ?_
 refine wpAny_loadName_local hk hka F.ns hv ?_
 refine ks_wpAny_isType_cls hD1 hD2 ⟨rfl, ?_⟩
 refine ks_wpAny_call_super hD1 hD2 I.at_ I.cls (fun c e => ?_) (looks_mroIn X hsub) (fun h' e k => ?_)
 ·have := I.no
  unfold notCls at this
  rw [e] at this
  exact Bool.noConfusion this
 ·obtain ⟨F', N', l'⟩ := ks_newsPush (s := ⟨hh, g, d, t, os⟩) F N rfl e k
  exact h _ _ F' N' l'
end
structure BaseX (B i newId : String) (bmB : List Value) : Prop where
 FB : ExcBaseFacts B newId i bmB
 KF : KxsFacts B i
 SF : StoreFacts B bmB "object.__setattr__" "object"
section
variable {prog : Program} {w : World} {A : Around} {E : Value → Shared → Prop} {K : Frag} {C fI cc cda : Addr} {mg mb : Str → Option Value} {R : Result → Shared → Prop} {B i newId : String} {bmB : List Value}
structure XInit (prog : Program) (K : Frag) (C fI cc cda : Addr) (fld : Str) (B i newId : String) (bmB : List Value) (fd : FuncData) : Prop where
 lk : ∃ (oc : Value) (od : Option Addr) (osl : Array (Option Value)) (qual : Str) (params : Arguments) (m : Str) (j : Nat) (p0 p1 p2 p3 p4 p5 p6 p7 p8 p9 : Pos) (scope : Scope) (dV kV doc pm ct : Value) (an : Option Addr) (ar : Arg),
  fd = ksFn "__init__" qual params [.Expr (.Call (.Attribute (.Call (.Name "super" p0) [] [] p1) "__init__" p2) [.Constant (.str m) j p3] [] p4) p5, .Assign [.Attribute (.Name "self" p6) fld p7] (.Name fld p8) p9] scope dV kV doc pm an (.ref cda) ct cc ∧
  K.lookup fI = some ⟨oc, od, .func fd, osl⟩ ∧ codeIn K (.ref cda) qual = true ∧ (params.posonlyargs ++ params.args).head? = some ar ∧ ar.arg = "self" ∧
  scope.names.lookup ("super" : Str) = some .globalImplicit ∧ scope.names.lookup ("__class__" : Str) = some .free ∧ scope.names.lookup ("self" : Str) = some .local ∧ scope.names.lookup fld = some .local ∧ scope.kind = .function ∧ scope.isCoroutine = false ∧ scope.isGenerator = false ∧
  (∀ x ∈ scope.names, x.2 ≠ .cell) ∧ (∀ L : Addr, interactive (ksEnv qual scope L fI (.ref cda) cc) = false) ∧
  (∀ L : Addr, ∃ pl : Sem Bool, eval (.Call (.Attribute (.Call (.Name "super" p0) [] [] p1) "__init__" p2) [.Constant (.str m) j p3] [] p4) (ksEnv qual scope L fI (.ref cda) cc) = (do
   let ov ← attributeBase (.Call (.Name "super" p0) [] [] p1) "__init__" (ksEnv qual scope L fI (.ref cda) cc) (eval (.Call (.Name "super" p0) [] [] p1) (ksEnv qual scope L fI (.ref cda) cc))
   standAt p2.atName
   let (f, first) ← holding [ov] (getMethod ov "__init__" pl)
   callWith p4 f first (backTo p4 (starEach [.Constant (.str m) j p3] (ksEnv qual scope L fI (.ref cda) cc))) [])) ∧
  (∀ L : Addr, swapsWith (.Call (.Attribute (.Call (.Name "super" p0) [] [] p1) "__init__" p2) [.Constant (.str m) j p3] [] p4) none p5.line (ksEnv qual scope L fI (.ref cda) cc) = pure false) ∧
  (∀ L : Addr, swapsWith (.Name fld p8) (some (.Attribute (.Name "self" p6) fld p7)) p9.line (ksEnv qual scope L fI (.ref cda) cc) = pure false)
 bind : ∀ (s : Shared) (e u : Value), BindsTo s fd ⟨[e, u], []⟩ [("self", e), (fld, u)]
 cell : ∃ (cl : Value) (cld : Option Addr) (csl : Array (Option Value)), K.lookup cc = some ⟨cl, cld, .cell (some (.ref C)), csl⟩
 code : ∃ (ccl : Value) (cdd : Option Addr) (vs : Array Value) (ccs : Array (Option Value)) (file : Str) (tf : Tok), K.lookup cda = some ⟨ccl, cdd, .fields vs, ccs⟩ ∧ vs[2]? = some (.str file tf) ∧ ((prog.main.file : Str) == file) = true
 top : (prog.main.scope.names.lookup ("super" : Str)).isSome = false
 cls : ∃ cd, clsIn K C = some cd
 sub : mroIn K C (.ref C) = some true
 subB : subIn K (.ref C) (.type B) = some true
 opq : nsIn K cStatics "thirdparty.any" = some none
 sup : ks_superIn K C C "__init__" = some (some (.builtin i))
 ini : excInitIn K C bmB newId = true
 sa : findIn K (.ref C) "__setattr__" = some (some (.builtin "object.__setattr__"))
 ov : excOver K C bmB = true
 tk : takerIn K C fld = some none
 hd : hasDictIn K C = true
 nf : (fld == ("__debug__" : Str)) = false
 ns : fld ≠ "self"
theorem updF4 {d : Addr} {o : Obj} {p1 p2 p3 : Addr × Obj} (h1 : p1.1 ≠ d) (h2 : p2.1 ≠ d) (h3 : p3.1 ≠ d) : UpdF d o (p1 :: p2 :: p3 :: [(d, o)]) (fun o' => p1 :: p2 :: p3 :: [(d, o')]) :=
 .tail h1 (.tail h2 (.tail h3 (.head fun p hp => absurd hp (by simp))))
theorem ldK {A : Around} {h₀ : Heap} {L f : Addr} {m : Str → Option Value} {q : Str} {scope : Scope} {cd : Value} {s : Shared} {x : Str} {pos : Pos} {v : Value} {Q : Value → Shared → Prop} {M : Model} (F : Fr h₀ L s.heap m) (hv : m x = some v) (h : Q v s)
  (hk : scope.kind = .function) (hl : scope.names.lookup x = some .local) (hd : (x == ("__debug__" : Str)) = false) :
  wpAny M A (eval (.Name x pos) (ksEnv q scope L f cd cc)) Q E s := wpAny_Name (wpAny_loadName_local hk hl F.ns hv h) hd
theorem init_run {h : Heap} {g : Array GenState} {d : Drawn} {t : Nat} {os : OsState} {fd : FuncData} {fld : Str} {e t0 : Addr} {u : Value} (BX : BaseX B i newId bmB) (Y : XInit prog K C fI cc cda fld B i newId bmB fd) (X : K.In h) (Tg : h.Ns mainGlobals mg) (Tb : h.Ns builtinsNs mb) (Tv : mb "super" = some (.type "super"))
  (hsuper : mg "super" = none) (lim : h.NoLimit) (hroom : A.depth < recursionLimit) (he : h.get? e = some (excObj C t0 none .none)) (hKe : K.lookup e = none)
  (hq : ∀ (h' : Heap) (t' dx : Addr) (es : List DictEntry) (n tk : Nat), (∀ b o, b ≠ e → h.get? b = some o → h'.get? b = some o) → h'.get? e = some (excObj C t' (some dx) .none) → h'.get? dx = some (dictOf es n) → (h.get? dx = none ∧ e < dx) →
   (∃ tk1, (putL fld (PyData.keyHash w.params fld) (.str fld tk1) u [], putN fld [] 0) = (es, n)) → R (.ok (.ret .none)) ⟨h', g, d, tk, os⟩) :
  codeAny (model prog w) A (.call (.ref fI) ⟨[.ref e, u], []⟩) R ⟨h, g, d, t, os⟩ := by
 obtain ⟨oc, od, osl, qual, params, m, j, p0, p1, p2, p3, p4, p5, p6, p7, p8, p9, scope, dV, kV, doc, pm, ct, an, ar, rfl, lk, hcd, hp, har, k1, k2, k3, k4, k5, k6, k7, k8, k9, k10, k11, k12⟩ := Y.lk
 obtain ⟨cl, cld, csl, hcell⟩ := Y.cell
 obtain ⟨ccl, cdd, vs, ccs, file, tf, hcode, hvs, hfile⟩ := Y.code
 obtain ⟨cd, hcls⟩ := Y.cls
 refine ks_codeAny_call_defAt (fd := ksFn "__init__" qual params _ scope dV kV doc pm an (.ref cda) ct cc) (binds := [("self", .ref e), (fld, u)]) hroom (X _ _ lk) rfl lim (codeRec_of X hcd) rfl (Y.bind _ _ _) k8 (fun y hy => ?_) (fun h₁ hns hk₁ => ?_) k6 k7 k5
 ·rcases List.mem_cons.mp hy with rfl | hy
  ·exact k3
  rcases List.mem_cons.mp hy with rfl | hy
  ·exact k4
  ·cases hy
 -- the ground: all but the exception's object
 have Xh : K.In (hideAll h [e]) := fun b o q => hideAll_get _ (X _ _ q) (fun z => by
  have z : b = e := by simpa using z
  rw [z, hKe] at q
  cases q)
 have F : Fr (hideAll h [e]) h.objs.size h₁ (fun x => [(("self" : Str), Value.ref e), (fld, u)].reverse.lookup x) := ⟨hns, fun b o q => hk₁ b o (of_hideAll _ q), Nat.le_of_eq (hideAll_size _ _)⟩
 have N : News (hideAll h [e]) h.objs.size h₁ [(e, excObj C t0 none .none)] := fun p hp => by
  have e2 : p = (e, excObj C t0 none .none) := by simpa using hp
  subst e2
  exact ⟨hk₁ _ _ he, Nat.ne_of_lt (Heap.lt_size he), hideAll_none _ (by simp)⟩
 have Tg' : h₁.Ns mainGlobals mg := Tg.at fun o q => hk₁ _ o q
 have Tb' : h₁.Ns builtinsNs mb := Tb.at fun o q => hk₁ _ o q
 have mS : (fun x => [(("self" : Str), Value.ref e), (fld, u)].reverse.lookup x) "self" = some (.ref e) := by
  show List.lookup ("self" : Str) [(fld, u), (("self" : Str), Value.ref e)] = _
  have n : (("self" : Str) == fld) = false := by simpa using Ne.symm Y.ns
  simp [List.lookup, n]
 have mF : (fun x => [(("self" : Str), Value.ref e), (fld, u)].reverse.lookup x) fld = some u := by
  show List.lookup fld [(fld, u), (("self" : Str), Value.ref e)] = _
  simp [List.lookup]
 have I0 : InstAt h₁ e (excObj C t0 none .none) C none := ⟨(N (e, excObj C t0 none .none) (by simp)).1, rfl, rfl, trivial⟩
 have h3 : scope.names.lookup ar.arg = some .local := by rw [har]; exact k3
 have mS' : (fun x => [(("self" : Str), Value.ref e), (fld, u)].reverse.lookup x) ar.arg = some (.ref e) := by rw [har]; exact mS
 obtain ⟨pl, hev⟩ := k10 h.objs.size
 refine ks_wpAt_execs_cons (ks_wpAt_Expr_any (ks_wpAt_MethodCall ?_ hev) (k9 _) (k11 _))
 refine super_node (news := [(e, excObj C t0 none .none)]) F Xh N Tg' Tb' Tv lk hp mS' I0 hcode hvs hfile hcell hcls Y.sub hsuper (by decide) k1 k2 h3 k5 Y.top (fun so h2 F2 N2 l2 => ?_)
 have I2 : InstAt h2 e (excObj C t0 none .none) C none := ⟨(N2 (e, excObj C t0 none .none) (by simp)).1, rfl, rfl, trivial⟩
 refine kxs_method BX.KF F2 Xh N2 List.mem_cons_self I2 Y.opq Y.sup Y.subB (by decide) (fun q h3' F3 N3 l3 => ?_)
 refine kxs_callWith1 (i := i) (x := e) (u := q) N3 List.mem_cons_self ?_
 refine spliced_more (Calls.Constant_str ?_)
 refine spliced_none ?_
 refine ⟨kxs_at N3 List.mem_cons_self, ?_⟩
 have e1 : so ≠ e := Nat.ne_of_gt (l2 (e, excObj C t0 none .none) (by simp))
 have e2 : q ≠ e := Nat.ne_of_gt (l3 (e, excObj C t0 none .none) (by simp))
 have U : UpdF e (excObj C t0 none .none) ((q, kxs_mw i e) :: (so, ks_superObj C e C) :: [(e, excObj C t0 none .none)]) (fun o => (q, kxs_mw i e) :: (so, ks_superObj C e C) :: [(e, o)]) :=
  .tail e2 (.tail e1 (.head fun p hp => by cases hp))
 refine kxs_call F3 Xh N3 BX.FB Y.ini List.mem_cons_self U (by rw [sizeLine_eq]; simp) (fun t' h4 F4 N4 l4 => ?_)
 -- the second row
 obtain ⟨oT, N5'⟩ : ∃ oT, News (hideAll h [e]) h.objs.size h4 ((t', oT) :: (q, kxs_mw i e) :: (so, ks_superObj C e C) :: [(e, excObj C t' none .none)]) := ⟨_, N4⟩
 refine wpAt_of_wpAny ?_
 show wpAny _ _ (execs [.Assign [.Attribute (.Name "self" p6) fld p7] (.Name fld p8) p9] _) _ _ _
 refine wpAny_execs_cons (plainObj_wpAny_Assign_Attribute ?_ (k12 _))
 refine ldK F4 mF ?_ k5 k4 Y.nf
 refine ldK F4 mS ?_ k5 k3 (by decide)
 have e3 : t' ≠ e := Nat.ne_of_gt (l4 (e, excObj C t0 none .none) (by simp))
 refine set_exc0 (t := t') (c2 := .none) (es' := (putL fld (PyData.keyHash w.params fld) (.str fld _) u [])) (n' := putN fld [] 0) (nw := fun o => (t', oT) :: (q, kxs_mw i e) :: (so, ks_superObj C e C) :: [(e, o)]) BX.SF F4 Xh N5' ?_ Y.sa Y.ov Y.tk Y.hd rfl ?_ ?_ ?_
 ·simp
 ·exact updF4 (p1 := (t', oT)) (p2 := (q, _)) (p3 := (so, _)) e3 e2 e1
 ·simp [putL]
 ·intro dx h5 F5 N5 l5
  refine wpAny_execs_nil ?_
  refine hq h5 t' dx _ _ _ (fun b o hb hbo => F5.keep b o (hideAll_get _ hbo (fun z => hb (by simpa using z)))) (N5 (e, _) (by simp)).1 (N5 (dx, _) List.mem_cons_self).1 ?_ ⟨_, rfl⟩
  have n1 : dx ≠ e := Nat.ne_of_gt (l5 (e, excObj C t' none .none) (by simp))
  refine ⟨?_, l5 (e, excObj C t' none .none) (by simp)⟩
  have n2 := (N5 (dx, _) List.mem_cons_self).2.2
  cases z : h.get? dx with
  | none => rfl
  | some o =>
   rw [hideAll_get _ z (fun y => n1 (by simpa using y))] at n2
   cases n2
end
end ZX
namespace ZX
open PySem PySem.Spec PyProof.Rows L2
theorem ns1_one {h : Heap} {dx : Addr} {f : Str} {hs : Int} {tk : Tok} {u : Value} {n : Nat} (e : h.get? dx = some (PySem.W.dictOf [⟨hs, .str f tk, u⟩] n)) : h.Ns1 dx (fun y => if y = f then some u else none) := by
 refine ⟨_, _, _, e, rfl, ?_, ?_, ?_⟩
 ·intro x hx
  have : x = ⟨hs, .str f tk, u⟩ := by simpa using hx
  subst this
  exact ⟨_, _, rfl⟩
 ·unfold UniqKeys
  simp
 ·intro name
  unfold nsFind findBy
  by_cases q : name = f
  ·subst q
   simp [Value.isStr]
  ·have q' : (f == name) = false := by simpa using Ne.symm q
   simp [Value.isStr, q, q']
section
variable {X : Cx} {C fI cc cda : Addr} {B i newId : String} {bmB : List Value} {fld : Str} {fd : FuncData}
theorem roomH_make {k : Nat} {A : Around} (r : L2H.RoomH (k + 1) A) (C : Addr) (us : List Value) : L2H.RoomH k (A.under (.builtin "type.__call__" ⟨.ref C :: us, []⟩)) :=
 ⟨by have := r.dp; rw [make_depth]; omega, by have := r.un; rw [make_units]; omega⟩
def tMkX (C : Addr) (fld : Str) (ta : TA) : L2.St → Hp → XK → Prop := fun σ H Q => ta σ H fun vs H1 => ∃ v, vs = [v] ∧ ∀ d, H1 d = none → Q (.ref C) (some d) (upd H1 d (.xd [(fld, v)]))
structure XCl (K : PySem.W.Frag) (C fI : Addr) : Prop where
 iC : PySem.W.findIn K (.ref C) "__init__" = some (some (.ref fI))
 tI : PySem.W.typeIn K (.ref fI) = some (.type "function")
 exC : PySem.W.subIn K (.ref C) (.type "BaseException") = some true
 tyC : PySem.W.typeIn K (.ref C) = some (.type "type")
 kC : PySem.W.keepIn K (.ref C) = true
theorem pmk_X {x : Str} {p pos : Pos} {e : Expr} {es : List Expr} {ta : TA} (BX : BaseX B i newId bmB) (Y : XInit X.prog X.K C fI cc cda fld B i newId bmB fd) (T : XCl X.K C fI) (hsup : X.mg "super" = none) (hr : L2H.RoomH 1 X.A) (hg : Gl X x) (hm : X.mg x = some (.ref C)) (ha : PA X (e :: es) ta)
  (hdb : (x == ("__debug__" : Str)) = false := by decide) (he : starEach (e :: es) X.env = (false, eval e X.env) :: starEach es X.env := by rfl) (hpl : (backTo pos (starEach es X.env)).any (·.1) = false := by rfl) :
  L2N.PMk X (.Call (.Name x p) (e :: es) [] pos) (tMkX C fld ta) := by
 intro pins s σ H Q I h
 refine wpAny_Call_Name_kw (ld_glob I hg hm ?_ hdb)
 refine PySem.W.callWith_K (h₀ := X.base) I.ok.mod.kin T.kC (thn (ha.run pos pins s σ H _ I h) fun us s1 ⟨vs, H1, I1, r1, v, ev, q1⟩ => ⟨I1.kIn, ?_⟩) he hpl
 show wpAny _ _ (call (.ref C) us) _ _ _
 subst ev
 cases r1 with
 | @cons _ u _ ur ra rr =>
 cases rr
 obtain ⟨hp, g, dr, tk, os⟩ := s1
 obtain ⟨nm, N', qn, bs, bm, hdct, sn, sub, ab, col, dd, k0, k1, k2, k3, k5, hC, hT⟩ := PySem.W.excInit_of I1.kIn Y.ini
 have kk : ∀ b o, hp.get? b = some o → ((hp.push (PySem.W.kdv_tup [u])).push (PySem.HandSPX.excO C hp.objs.size)).get? b = some o := fun b o e => Heap.get?_push_of_some _ (Heap.get?_push_of_some _ e)
 have hget : ((hp.push (PySem.W.kdv_tup [u])).push (PySem.HandSPX.excO C hp.objs.size)).get? (hp.objs.size + 1) = some (PySem.HandSPX.excO C hp.objs.size) := by heap_get
 obtain ⟨mb, hb1, hb2⟩ := I1.ok.mod.blt
 have nK : X.K.lookup (hp.objs.size + 1) = none := by
  cases z : X.K.lookup (hp.objs.size + 1) with
  | none => rfl
  | some o => exact absurd (Heap.lt_size (I1.kIn _ _ z)) (by show ¬ (hp.objs.size + 1 < hp.objs.size); omega)
 refine wpAny_call (PySem.HandSPX.call_own BX.FB hT hC (PySem.W.looks_findIn I1.kIn T.iC) (fun self => PySem.W.bind_fn I1.kIn self T.tI) (by rw [sizeLine_eq]; simp) ?_)
 have bk : ∀ b o, X.base.get? b = some o → hp.get? b = some o := I1.bk
 refine init_run (mg := X.mg) (mb := mb) BX Y (fun b o e => kk b o (I1.kIn b o e)) (I1.ok.mod.glob.keeps fun b o e => kk b o (bk b o e)) (hb1.keeps fun b o e => kk b o (bk b o e)) ((hb2 _ (by decide)).trans (by decide +kernel)) hsup (I1.ok.mod.nolimit.keeps fun b o e => kk b o (bk b o e)) ?_ hget nK ?_
 ·exact (roomH_make hr C [u]).depth
 ·intro h' t' dx es0 n0 tk0 k1 e1 e2 e3 e4
  obtain ⟨nd, ld0⟩ := e3
  have ld : hp.objs.size + 1 < dx := ld0
  obtain ⟨tk1, e4⟩ := e4
  obtain ⟨e5, e6⟩ := Prod.mk.inj e4
  refine ⟨rfl, ?_⟩
  have hsz : hp.objs.size ≤ dx := by omega
  have hn : H1 dx = none := I1.hok.fresh hsz
  have na : H1 (hp.objs.size + 1) = none := I1.hok.fresh (by show hp.objs.size ≤ hp.objs.size + 1; omega)
  obtain ⟨G, g1, g2⟩ := restrict h' fun b => decide (b ≠ hp.objs.size + 1)
  have gk : ∀ b, b ≠ hp.objs.size + 1 → G.get? b = h'.get? b := fun b hb => g1 b (decide_eq_true hb)
  have ge : G.get? (hp.objs.size + 1) = none := g2 _ (by simp)
  have kG : ∀ b o, hp.get? b = some o → G.get? b = some o := fun b o e => by
   have nb : b ≠ hp.objs.size + 1 := Nat.ne_of_lt (Nat.lt_succ_of_lt (Heap.lt_size e))
   rw [gk b nb]
   exact k1 b o nb (kk b o e)
  have hdx : G.get? dx = some (PySem.W.dictOf es0 n0) := (gk dx (by omega)).trans e2
  have hns : G.Ns1 dx (fun y => if y = fld then some u else none) := by
   have z : es0 = [⟨PyData.keyHash X.w.params fld, .str fld tk1, u⟩] := by rw [← e5]; rfl
   rw [z] at hdx
   exact ns1_one hdx
  have J : Inv X pins σ (upd H1 dx (.xd [(fld, v)])) ⟨G, g, dr, tk0, os⟩ := I1.laid (t' := tk0) (a := dx) (o := .xd [(fld, v)]) (h' := G) kG hsz ⟨_, hns, fun f => by
   by_cases q : f = fld
   ·subst q
    simp [List.lookup]
    exact ra
   ·have q' : (f == fld) = false := by simpa using q
    simp [List.lookup, q, q']
    exact True.intro⟩
  refine ⟨hp.objs.size + 1, _, _, ⟨G, g, dr, tk0, os⟩, _, .ref C, some dx, rfl, J, fun b o z => ?_, ge, e1, ⟨rfl, rfl, fun vs q => by cases q; rfl⟩, rfl, rfl, ?_, rfl, J.bare, raises_own T.exC T.tyC, q1 dx hn⟩
  ·by_cases hb : b = hp.objs.size + 1
   ·rw [hb, ge] at z
    cases z
   ·exact (gk b hb).symm.trans z
  ·rw [upd_ne (by show hp.objs.size + 1 ≠ dx; omega)]
   exact na
end
end ZX
namespace Z
open PySem PySem.Spec L2
open PyProof.Rows hiding St
abbrev WZ := Addr → List (Str × PV) → EP' → Prop
abbrev WC := Addr → List (Str × PV) → Prop
def XAt (K : PySem.W.Frag) (O : Addr → Prop) (H : Hp) (d : Option Addr) (fs : List (Str × PV)) : Prop :=
 (fs = [] ∧ d = none) ∨ ∃ x ws, d = some x ∧ ¬ O x ∧ H x = some (.xd ws) ∧ RepF K O H fs ws
abbrev WXs := Value → Option Addr → St → Hp → Prop
def XCn (K : PySem.W.Frag) (T : List (Addr × Str)) (W : WXs) (F : Addr → Prop) (σ : St) (η : EP') (H : Hp) (Zw : WZ) : Prop :=
 ∀ C fs η' d σ' H', Zw C fs η' → Ext σ η σ' η' H H' → Rs K T F σ' η' H' → XAt K (Oof F σ' η') H' d fs → W (.ref C) d σ' H'
abbrev TXp := EP' → (PV → EP' → Prop) → WZ → Prop
abbrev TSX := EndsP → WZ → EP' → Prop
def upX (K : PySem.W.Frag) (T : List (Addr × Str)) (W : WXs) (tp : TXp) : TE := fun σ H Q => ∃ F η P Zw, Rs K T F σ η H ∧ tp η P Zw ∧
 (∀ x η' v H', P x η' → Ext σ η σ η' H H' → Rs K T F σ η' H' → Rep K (Oof F σ η') H' x v → Q v H') ∧ XCn K T W F σ η H Zw
def upSX (K : PySem.W.Frag) (T : List (Addr × Str)) (W : WXs) (ts : TSX) : TS := fun D σ H => ∃ F η D' Zw, Rs K T F σ η H ∧ ts D' Zw η ∧
 (∀ η' σ' H', D'.nx η' → Ext σ η σ' η' H H' → Rs K T F σ' η' H' → D.nx σ' H') ∧
 (∀ η' σ' H', D'.bk η' → Ext σ η σ' η' H H' → Rs K T F σ' η' H' → D.bk σ' H') ∧
 (∀ η' σ' H', D'.ct η' → Ext σ η σ' η' H H' → Rs K T F σ' η' H' → D.ct σ' H') ∧
 (∀ x η' σ' v H', D'.rt x η' → Ext σ η σ' η' H H' → Rs K T F σ' η' H' → Rep K (Oof F σ' η') H' x v → D.rt v H') ∧ XCn K T W F σ η H Zw
section
variable {X : Cx} {K : PySem.W.Frag} {T : List (Addr × Str)} {W : WXs} {F : Addr → Prop} {σ σ1 : St} {η η1 : EP'} {H H1 : Hp} {Zw : WZ} {e o : Expr} {es : List Expr} {te : TXp} {t : TAp} {pos : Pos} {st : Stmt} {rest : List Stmt} {t1 t2 : TSX} {u1 u2 : TSp}
theorem XCn.ext (c : XCn K T W F σ η H Zw) (e : Ext σ η σ1 η1 H H1) : XCn K T W F σ1 η1 H1 Zw := fun C fs η' d σ' H' z e2 R x => c C fs η' d σ' H' z (e.trans e2) R x
def tPlX (t : TSp) : TSX := fun D _ η => t D η
theorem zx_pl (h : PS X st (upS X.K T u1)) : PS X st (upSX X.K T W (tPlX u1)) := PS.weak h fun D σ H q => by
 obtain ⟨F, η, D', Zw, R, h, k1, k2, k3, k4, kx⟩ := q
 exact ⟨F, η, D', R, h, k1, k2, k3, k4⟩
theorem zxs_pl {sts : List Stmt} (h : PSs X sts (upS X.K T u1)) : PSs X sts (upSX X.K T W (tPlX u1)) := PSs.weak h fun D σ H q => by
 obtain ⟨F, η, D', Zw, R, h, k1, k2, k3, k4, kx⟩ := q
 exact ⟨F, η, D', R, h, k1, k2, k3, k4⟩
def tSeqX (t u : TSX) : TSX := fun D Zw η => t { D with nx := fun η' => u D Zw η' } Zw η
theorem zxs_cons (h1 : PS X st (upSX X.K T W t1)) (h2 : PSs X rest (upSX X.K T W t2)) : PSs X (st :: rest) (upSX X.K T W (tSeqX t1 t2)) := by
 refine PSs.weak (pss_cons h1 h2) fun D σ H q => ?_
 obtain ⟨F, η, D', Zw, R, h, k1, k2, k3, k4, kx⟩ := q
 refine ⟨F, η, _, Zw, R, h, fun η' σ' H' q e1 R1 => ?_, k2, k3, k4, kx⟩
 exact ⟨F, η', D', Zw, R1, q, fun η'' σ'' H'' q' e2 R2 => k1 _ _ _ q' (e1.trans e2) R2, fun η'' σ'' H'' q' e2 R2 => k2 _ _ _ q' (e1.trans e2) R2, fun η'' σ'' H'' q' e2 R2 => k3 _ _ _ q' (e1.trans e2) R2, fun x η'' σ'' v H'' q' e2 R2 r => k4 _ _ _ _ _ q' (e1.trans e2) R2 r, kx.ext e1⟩
theorem zxs_one (h1 : PS X st (upSX X.K T W t1)) : PSs X [st] (upSX X.K T W t1) := pss_one h1
def tIfX (c : TTp) (t u : TSX) : TSX := fun D Zw η => c η fun b η1 => if b = true then t D Zw η1 else u D Zw η1
theorem zx_if {c : Expr} {a b : List Stmt} {tc : TTp} (hc : PT X c (upB X.K T tc)) (ha : PSs X a (upSX X.K T W t1)) (hb : PSs X b (upSX X.K T W t2)) : PS X (.If c a b pos) (upSX X.K T W (tIfX tc t1 t2)) := by
 refine PS.weak (ps_if hc ha hb) fun D σ H q => ?_
 obtain ⟨F, η, D', Zw, R, h, k1, k2, k3, k4, kx⟩ := q
 refine ⟨F, η, _, R, h, fun x η1 H1 h1 e1 R1 => ?_⟩
 cases x with
 | true =>
  simp only [if_true] at h1 ⊢
  exact ⟨F, η1, D', Zw, R1, h1, fun η'' σ'' H'' q' e2 R2 => k1 _ _ _ q' (e1.trans e2) R2, fun η'' σ'' H'' q' e2 R2 => k2 _ _ _ q' (e1.trans e2) R2, fun η'' σ'' H'' q' e2 R2 => k3 _ _ _ q' (e1.trans e2) R2, fun x η'' σ'' v H'' q' e2 R2 r => k4 _ _ _ _ _ q' (e1.trans e2) R2 r, kx.ext e1⟩
 | false =>
  simp only [Bool.false_eq_true, if_false] at h1 ⊢
  exact ⟨F, η1, D', Zw, R1, h1, fun η'' σ'' H'' q' e2 R2 => k1 _ _ _ q' (e1.trans e2) R2, fun η'' σ'' H'' q' e2 R2 => k2 _ _ _ q' (e1.trans e2) R2, fun η'' σ'' H'' q' e2 R2 => k3 _ _ _ q' (e1.trans e2) R2, fun x η'' σ'' v H'' q' e2 R2 r => k4 _ _ _ _ _ q' (e1.trans e2) R2 r, kx.ext e1⟩
def tForX (ti : TIp) (g : TGp) (tb : TSX) : TSX := fun D Zw η => ti η fun xs η1 => ∃ Inv : Nat → EP' → Prop, Inv 0 η1 ∧
 (∀ i x η2, xs[i]? = some x → Inv i η2 → g x η2 fun η3 => tb { D with nx := Inv (i + 1), ct := Inv (i + 1), bk := D.nx } Zw η3) ∧ ∀ η2, Inv xs.length η2 → D.nx η2
theorem zx_for {tg : Expr} {iter : Expr} {body : List Stmt} {ti : TIp} {g : TGp} {tb : TSX} (hp : PassesOwn (model X.prog X.w) X.A X.env X.xe) (hc : X.calm = true) (hi : PI X tg iter (upI X.K T ti)) (hg : PG X tg (upG X.K T g)) (hb : PSs X body (upSX X.K T W tb))
  (hs : ∀ x, foldedSetIterable iter X.env x = pure x := by intro _; rfl) : PS X (.For tg iter body [] pos) (upSX X.K T W (tForX ti g tb)) := by
 refine PS.weak (ps_for hp hc hi hg hb hs) fun D σ H q => ?_
 obtain ⟨F, η, D', Zw, R, h, k1, k2, k3, k4, kx⟩ := q
 refine ⟨F, η, _, R, h, fun xs η1 J H1 h1 e1 R1 hJ => ?_⟩
 obtain ⟨Inv, i0, step, fin⟩ := h1
 refine ⟨fun i m σ2 H2 => m = xs.length - i ∧ i ≤ xs.length ∧ ∃ η2, Inv i η2 ∧ Rs X.K T F σ2 η2 H2 ∧ Ext σ η1 σ2 η2 H1 H2, ⟨_, rfl, Nat.zero_le _, η1, i0, R1, .refl⟩, ?_⟩
 rintro i m σ2 H2 ⟨rfl, hi, η2, p, R2, e2⟩
 have it := hJ (Oof F σ2 η2) H2 R2.trO e2.car e2.live i
 by_cases hlt : i < xs.length
 ·refine .inr ⟨(it.1 xs[i] (by simp [hlt])).1, fun σ3 H3 => ∃ η3, Inv (i + 1) η3 ∧ Rs X.K T F σ3 η3 H3 ∧ Ext σ η1 σ3 η3 H1 H3, fun σ' H' ⟨η3, p', R', e'⟩ => ⟨xs.length - (i + 1), by omega, rfl, hlt, η3, p', R', e'⟩, fun v H3 y => ?_⟩
  obtain ⟨s, rep⟩ := (it.1 xs[i] (by simp [hlt])).2 v H3 y
  refine ⟨F, η2, _, _, R2.same s, rep, step i _ η2 (by simp [hlt]) p, fun η4 σ4 H4 h4 e4 R4 => ?_⟩
  have E := (e2.trans (.same s)).trans e4
  exact ⟨F, η4, _, Zw, R4, h4, fun η5 σ5 H5 h5 e5 R5 => ⟨η5, h5, R5, E.trans e5⟩, fun η5 σ5 H5 h5 e5 R5 => k1 _ _ _ h5 ((e1.trans E).trans e5) R5, fun η5 σ5 H5 h5 e5 R5 => ⟨η5, h5, R5, E.trans e5⟩, fun x η5 σ5 v H5 h5 e5 R5 r5 => k4 _ _ _ _ _ h5 ((e1.trans E).trans e5) R5 r5, kx.ext (e1.trans E)⟩
 ·have e : i = xs.length := by omega
  subst e
  exact .inl ⟨it.2 rfl, k1 _ _ _ (fin η2 p) (e1.trans e2) R2⟩
def tExX (te : TXp) : TSX := fun D Zw η => te η (fun _ η1 => D.nx η1) Zw
theorem zx_expr (he : PE X e (upX X.K T W te)) (hs : swapsWith e none pos.line X.env = pure false := by rfl) : PS X (.Expr e pos) (upSX X.K T W (tExX te)) := by
 refine PS.weak (ps_expr he hs) fun D σ H q => ?_
 obtain ⟨F, η, D', Zw, R, h, k1, k2, k3, k4, kx⟩ := q
 exact ⟨F, η, _, Zw, R, h, fun x η1 v H1 h1 e1 R1 _ => k1 _ _ _ h1 e1 R1, kx⟩
def tRetX (te : TXp) : TSX := fun D Zw η => te η D.rt Zw
theorem zx_ret (he : PE X e (upX X.K T W te)) : PS X (.Return (some e) pos) (upSX X.K T W (tRetX te)) := by
 refine PS.weak (ps_ret he) fun D σ H q => ?_
 obtain ⟨F, η, D', Zw, R, h, k1, k2, k3, k4, kx⟩ := q
 exact ⟨F, η, _, Zw, R, h, fun x η1 v H1 h1 e1 R1 r => k4 _ _ _ _ _ h1 e1 R1 r, kx⟩
end
abbrev SpX := List PV → (PV → Prop) → WC → Prop
def upSpX (K : PySem.W.Frag) (T : List (Addr × Str)) (sp : SpX) : Sp := fun vs H Q E => ∃ F args P Zw, Trk F H ∧ LamX.Tabs T H ∧ Reps K F H args vs ∧ sp args P Zw ∧
 (∀ x v H', P x → Gr H H' → LamX.Tabs T H' → Rep K F H' x v → Q v H') ∧ (∀ C fs d H', Zw C fs → Gr H H' → LamX.Tabs T H' → XAt K F H' d fs → E (.ref C) d H')
abbrev SpRX := Ow → List PV → (PV → Ow → Prop) → WC → Prop
def upSpRX (K : PySem.W.Frag) (T : List (Addr × Str)) (sp : SpRX) : Sp := fun vs H Q E => ∃ F a ws o args P Zw, vs = .ref a :: ws ∧ ¬ F a ∧ Trk F H ∧ LamX.Tabs T H ∧ OwAt K (With F a) H a o ∧ Reps K (With F a) H args ws ∧ sp o args P Zw ∧
 (∀ x o' v H', P x o' → GrB a H H' → LamX.Tabs T H' → OwAt K (With F a) H' a o' → Rep K (With F a) H' x v → Q v H') ∧ (∀ C fs d H', Zw C fs → GrB a H H' → LamX.Tabs T H' → XAt K F H' d fs → E (.ref C) d H')
section
variable {K : PySem.W.Frag} {T : List (Addr × Str)} {F : Addr → Prop} {H H' : Hp}
theorem XAt.mono {O O' : Addr → Prop} {d : Option Addr} {fs : List (Str × PV)} (h : ∀ a, O' a → O a) (x : XAt K O H d fs) : XAt K O' H d fs := by
 rcases x with x | ⟨a, ws, e, n, q, r⟩
 ·exact .inl x
 ·exact .inr ⟨a, ws, e, fun z => n (h a z), q, r.mono h⟩
theorem body_spX {N : List Str} {sp : SpX} {ts : TSX} {vs : List V} {Q : VK} {E : XK} (h : upSpX K T sp vs H Q E) (hl : ∀ args P Zw, sp args P Zw → args.length ≤ N.length)
  (rd : ∀ args P Zw, sp args P Zw → ts { nx := fun _ => P .non, rt := fun x _ => P x } (fun C fs _ => Zw C fs) (startP N.length args)) :
  upSX K T (fun cls d _ H' => E cls d H') ts { nx := fun _ H' => Q .non H', rt := Q } (start N vs) H := by
 obtain ⟨F, args, P, Zw, tr, tb, r, hs, k, kx⟩ := h
 have R := rs_start (N := N) tr tb r (hl _ _ _ hs)
 have gr : ∀ {σ' η' H'}, Ext (start N vs) (startP N.length args) σ' η' H H' → Gr H H' := fun e => ⟨fun b o h t => e.keep b o h startP_noown t, e.live⟩
 refine ⟨F, _, _, _, R, rd args P Zw hs, fun η' σ' H' q e R' => ?_, fun _ _ _ q => q.elim, fun _ _ _ q => q.elim, fun x η' σ' v H' q e R' r' => ?_, fun C fs η' d σ' H' z e R' x => ?_⟩
 ·exact k _ _ _ q (gr e) R'.tb rep_non
 ·exact k _ _ _ q (gr e) R'.tb (r'.mono fun b z => .inl z)
 ·exact kx _ _ _ _ z (gr e) R'.tb (x.mono fun b z => .inl z)
theorem body_spRX {nm : Str} {N : List Str} {sp : SpRX} {ts : TSX} {vs : List V} {Q : VK} {E : XK} (h : upSpRX K T sp vs H Q E) (hl : ∀ o args P Zw, sp o args P Zw → args.length ≤ N.length)
  (rd : ∀ o args P Zw, sp o args P Zw → ts { nx := fun η' => ∃ o', η'[0]? = some (Sl.ow o') ∧ P .non o', rt := fun x η' => ∃ o', η'[0]? = some (Sl.ow o') ∧ P x o' } (fun C fs _ => Zw C fs) (startR (N.length + 1) o args)) :
  upSX K T (fun cls d _ H' => E cls d H') ts { nx := fun _ H' => Q .non H', rt := Q } (start (nm :: N) vs) H := by
 obtain ⟨F, a, ws, o, args, P, Zw, rfl, nf, tr, tb, ho, r, hs, k, kx⟩ := h
 obtain ⟨R, own⟩ := rs_startR (x := nm) (N := N) nf tr tb ho r (hl _ _ _ _ hs)
 have fin : ∀ {η' σ' H' x v}, (∃ o', η'[0]? = some (Sl.ow o') ∧ P x o') → Ext (start (nm :: N) (.ref a :: ws)) (startR (N.length + 1) o args) σ' η' H H' → Rs K T F σ' η' H' → Rep K (Oof F σ' η') H' x v → Q v H' := by
  intro η' σ' H' x v q e R' r'
  obtain ⟨o', e0, p⟩ := q
  obtain ⟨p1, q1, q2⟩ := e.fst o' e0
  obtain ⟨b, s1, s2, s3⟩ := R'.ow 0 o' e0
  have hb : b = a := by
   rw [q2] at s1
   have : (start (nm :: N) (V.ref a :: ws))[0]? = some (some (V.ref a)) := by unfold L2.start; simp
   rw [this] at s1; cases s1; rfl
  subst hb
  have m : ∀ c, With F b c → Oof F σ' η' c := fun c z => z.elim .inl fun z => .inr (by rw [z]; exact ⟨0, o', s1, e0⟩)
  exact k x o' v H' p ⟨fun c u n h t => e.keep c u h (fun z => n (own c z)) t, e.live⟩ R'.tb (s2.mono m) (r'.mono m)
 exact ⟨F, _, _, _, R, rd o args P Zw hs, fun η' σ' H' q e R' => fin q e R' rep_non, fun _ _ _ q => q.elim, fun _ _ _ q => q.elim, fun x η' σ' v H' q e R' r' => fin q e R' r',
  fun C fs η' d σ' H' z e R' x => kx _ _ _ _ z ⟨fun c u n h t => e.keep c u h (fun z => n (own c z)) t, e.live⟩ R'.tb (x.mono fun b z => .inl z)⟩
theorem len_spX {ps : List Str} {sp : SpX} (hl : ∀ args P Zw, sp args P Zw → args.length = ps.length) : ∀ vs H Q E, upSpX K T sp vs H Q E → vs.length = ps.length := fun vs H Q E h => by
 obtain ⟨F, args, P, Zw, _, _, r, hs, _⟩ := h
 rw [r.len, hl _ _ _ hs]
theorem len_spRX {p : Str} {ps : List Str} {sp : SpRX} (hl : ∀ o args P Zw, sp o args P Zw → args.length = ps.length) : ∀ vs H Q E, upSpRX K T sp vs H Q E → vs.length = (p :: ps).length := fun vs H Q E h => by
 obtain ⟨F, a, ws, o, args, P, Zw, rfl, _, _, _, _, r, hs, _⟩ := h
 rw [List.length_cons, r.len, hl _ _ _ _ hs]; rfl
end
end Z
namespace L2N
open PySem PySem.Spec PyProof.Rows L2
theorem takes0 {X : Cx} : L2N.Takes X (fun _ _ _ _ => False) := fun _ _ x => by
 obtain ⟨_, _, _, _, _, _, _, _, _, _, _, _, _, _, _, _, z⟩ := x
 exact z.elim
end L2N
namespace Z
open PySem PySem.Spec L2
open PyProof.Rows hiding St
section
variable {P : Program} {w : World} {K : PySem.W.Frag} {mg : Str → Option Value} {base : Heap} {T : List (Addr × Str)}
theorem okXP {x qual : Str} {st : Stmt} {f : Addr} {fd : FuncData} {N ps : List Str} {k : Nat} {sp : SpX} (Fn : Fun K x qual st f fd) (S : FnScope N ps (defScope st)) (hl : ∀ args P Zw, sp args P Zw → args.length = ps.length) (hn : ps.length ≤ N.length)
  (hbody : ∀ (cdv : Value) (A : Around) (outer : List Env) (s : Shared) (H : Hp) (E : XK), Room k (A.deeper (envOfC qual (defScope st) s.heap.objs.size f cdv)) → L2N.Takes (cxOf (L2N.CX P w) P w K mg base N qual (defScope st) f cdv A outer s H E) (fun cls d _ H' => E cls d H') →
   PassesOwn (model P w) (cxOf (L2N.CX P w) P w K mg base N qual (defScope st) f cdv A outer s H E).A (cxOf (L2N.CX P w) P w K mg base N qual (defScope st) f cdv A outer s H E).env (cxOf (L2N.CX P w) P w K mg base N qual (defScope st) f cdv A outer s H E).xe →
   ∃ ts, PSs (cxOf (L2N.CX P w) P w K mg base N qual (defScope st) f cdv A outer s H E) (defBody st) (upSX K T (fun cls d _ H' => E cls d H') ts) ∧
    ∀ args P Zw, sp args P Zw → ts { nx := fun _ => P .non, rt := fun x _ => P x } (fun C fs _ => Zw C fs) (startP N.length args)) :
  FnOk P w K mg base (L2N.CX P w) (k + 1) f fd ps (upSpX K T sp) := by
 obtain ⟨oc, od, kV, doc, pm, an, cdv, ct, osl, rfl, lk, hcd⟩ := Fn.ex
 refine fn_of lk hcd S (len_spX hl) fun A outer s H vs Q E hr h => ?_
 obtain ⟨ts, d, rd⟩ := hbody cdv A outer s H E hr (L2N.takes_of rfl rfl rfl rfl) PassesOwn.leaving
 exact ⟨_, d, body_spX h (fun args P Zw hs => by rw [hl _ _ _ hs]; exact hn) rd⟩
theorem okXRX {x qual : Str} {st : Stmt} {f c : Addr} {fd : FuncData} {dvs : List V} {nm : Str} {N ps : List Str} {k : Nat} {sp : SpRX} (Fn : FunX K x qual st dvs c f fd) (S : FnScope (nm :: N) (nm :: ps) (defScope st)) (hl : ∀ o args P Zw, sp o args P Zw → args.length = ps.length) (hn : ps.length ≤ N.length)
  (hbody : ∀ (A : Around) (outer : List Env) (s : Shared) (H : Hp) (E : XK), Room k (A.deeper (envOfC qual (defScope st) s.heap.objs.size f (.ref c))) → L2N.Takes (cxOf (L2N.CX P w) P w K mg base (nm :: N) qual (defScope st) f (.ref c) A outer s H E) (fun cls d _ H' => E cls d H') →
   PassesOwn (model P w) (cxOf (L2N.CX P w) P w K mg base (nm :: N) qual (defScope st) f (.ref c) A outer s H E).A (cxOf (L2N.CX P w) P w K mg base (nm :: N) qual (defScope st) f (.ref c) A outer s H E).env (cxOf (L2N.CX P w) P w K mg base (nm :: N) qual (defScope st) f (.ref c) A outer s H E).xe →
   ∃ ts, PSs (cxOf (L2N.CX P w) P w K mg base (nm :: N) qual (defScope st) f (.ref c) A outer s H E) (defBody st) (upSX K T (fun cls d _ H' => E cls d H') ts) ∧
    ∀ o args P Zw, sp o args P Zw → ts { nx := fun η' => ∃ o', η'[0]? = some (Sl.ow o') ∧ P .non o', rt := fun x η' => ∃ o', η'[0]? = some (Sl.ow o') ∧ P x o' } (fun C fs _ => Zw C fs) (startR (N.length + 1) o args)) :
  FnOk P w K mg base (L2N.CX P w) (k + 1) f fd (nm :: ps) (upSpRX K T sp) := by
 obtain ⟨oc, od, dV, kV, doc, pm, an, ct, osl, rfl, lk, hcd, _⟩ := Fn.ex
 refine fn_of lk hcd S (len_spRX hl) fun A outer s H vs Q E hr h => ?_
 obtain ⟨ts, d, rd⟩ := hbody A outer s H E hr (L2N.takes_of rfl rfl rfl rfl) PassesOwn.leaving
 exact ⟨_, d, body_spRX h (fun o args P Zw hs => by rw [hl _ _ _ _ hs]; exact hn) rd⟩
end
section
variable {X : Cx} {T : List (Addr × Str)} {W : WXs} {a b e o : Expr} {es : List Expr} {te ta tb : TEp} {t : TAp} {tf : TFp} {pos p apos : Pos} {k : Nat} {f C : Addr} {fd : FuncData} {ps : List Str} {sp : SpX} {sr : SpRX} {x m : Str}
def tCallX (sp : SpX) (dps : List PV) (t : TAp) : TXp := fun η P Zw => t η fun args η1 => sp (args ++ dps) (fun z => P z η1) fun C fs => Zw C fs η1
theorem call_upX {K : PySem.W.Frag} {σ : St} {H : Hp} {Q : VK} {dps : List PV} {dvs : List V} (hd : ∀ O H, Reps K O H dps dvs) (q : upX K T W (tCallX sp dps t) σ H Q) : tCallSD (upSpX K T sp) dvs (WE W) (upA K T t) σ H Q := by
 obtain ⟨F, η, P, Zw, R, h, k, kx⟩ := q
 refine ⟨F, η, _, R, h, fun args η1 vs H1 h1 e1 R1 r1 => ?_⟩
 exact ⟨Oof F σ η1, _, _, _, R1.trO, R1.tb, r1.app (hd _ _), h1, fun z v H2 pz g tb rz => k z η1 v H2 pz (e1.trans g.ext) (R1.gr g tb) rz, fun C fs d H2 z g tb x => kx C fs η1 d σ H2 z (e1.trans g.ext) (R1.gr g tb) x⟩
theorem zx_call (Fn : FnOk X.prog X.w X.K X.mg X.base (L2N.CX X.prog X.w) k f fd ps (upSpX X.K T sp)) (tk : L2N.Takes X W) (hr : Room k X.A) (hg : Gl X x) (hm : X.mg x = some (.ref f)) (hk : PySem.W.keepIn X.K (.ref f) = true) {dvs : List V} {ds : List Value} {dps : List PV} (hb : Binds X.K fd ps ds) (hd : Vals dvs ds) (hp : ∀ O H, Reps X.K O H dps dvs)
  (ha : PA X (e :: es) (upA X.K T t)) (hdb : (x == ("__debug__" : Str)) = false := by decide) (he : starEach (e :: es) X.env = (false, eval e X.env) :: starEach es X.env := by rfl) (hpl : (backTo pos (starEach es X.env)).any (·.1) = false := by rfl) :
  PE X (.Call (.Name x p) (e :: es) [] pos) (upX X.K T W (tCallX sp dps t)) :=
 PE.weak (pe_callSD Fn hr hg hm hk hb hd (L2N.passAt tk) ha hdb he hpl) fun σ H Q q => call_upX hp q
def tNoX (te : TXp) : TEp := fun η P => te η P fun _ _ _ => False
theorem z_nox {te : TXp} (h : PE X e (upX X.K T (fun _ _ _ _ => False) te)) : PE X e (up X.K T (tNoX te)) := PE.weak h fun σ H Q q => by
 obtain ⟨F, η, P, R, h, k⟩ := q
 exact ⟨F, η, P, _, R, h, k, fun C fs η' d σ' H' z _ _ _ => z⟩
theorem run_makeSD {pins : List (Addr × Obj)} {σ : St} {H : Hp} {s : Shared} {Q : VK} {us : List Value} {vs dvs : List V} {ds : List Value} {S : Sp} {E : XK} (M : Mk X.K C f) (Fn : FnOk X.prog X.w X.K X.mg X.base (L2N.CX X.prog X.w) k f fd ps S) (hr : Room (k + 1) X.A) (hb : Binds X.K fd ps ds) (hd : Vals dvs ds)
  (hx : ∀ (H : Hp) (s : Shared) (e : Value) (s' : Shared), Inv X pins σ H s → L2N.CX X.prog X.w X.stack H s E e s' → X.xe e s') (I : Inv X pins σ H s) (r : Vals vs us)
  (h : ∀ x dx, H x = none → H dx = none → dx ≠ x → S (.ref x :: (vs ++ dvs)) (upd (upd H dx (.own x)) x (.ins C dx [])) (fun v H2 => v = .non ∧ Q (.ref x) H2) E) :
  wpAny (model X.prog X.w) X.A (call (.ref C) us) (EP X pins σ Q) X.xe s := by
 have hq := h (s.heap.objs.size + 1) s.heap.objs.size (I.hok.fresh (Nat.le_succ _)) (I.hok.fresh (Nat.le_refl _)) (Nat.ne_of_lt (Nat.lt_succ_self _))
 have I2 := Inv.made (C := C) I
 have r2 : Vals (V.ref (s.heap.objs.size + 1) :: (vs ++ dvs)) (Value.ref (s.heap.objs.size + 1) :: (us ++ ds)) := .cons rfl (r.append hd)
 have hl : (Value.ref (s.heap.objs.size + 1) :: us ++ ds).length = ps.length := by
  have e := r2.length
  rw [Fn.len _ _ _ _ hq] at e
  exact e.symm
 refine wpAny_call (make_map (f := f) I.kIn M.makes M.init (beq_iff_eq.mp M.fn) (codeAny_mono (Fn.run _ X.stack _ _ ⟨Value.ref (s.heap.objs.size + 1) :: us, []⟩ (Value.ref (s.heap.objs.size + 1) :: (us ++ ds)) _ _ E (hr.make C us [])
  (I2.env0.make C us []) (hb _ (Value.ref (s.heap.objs.size + 1) :: us) I2.kIn hl) r2 hq) fun r s' hq' => ?_))
 cases r with
 | error e => exact hx _ _ e s' I2 hq'
 | ok fl =>
  cases fl with
  | ret u =>
   obtain ⟨v, H', I3, rv, ev, q3⟩ := I2.after hq'
   subst ev
   exact ⟨rv, ⟨V.ref (s.heap.objs.size + 1), H', I3, rfl, q3⟩⟩
  | next => exact False.elim hq'
  | brk => exact False.elim hq'
  | cont => exact False.elim hq'
def tMakeSD (C : Addr) (S : Sp) (dvs : List V) (E : St → XK) (t : TA) : TE := fun σ H Q => t σ H fun vs H1 => ∀ x dx, H1 x = none → H1 dx = none → dx ≠ x → S (.ref x :: (vs ++ dvs)) (upd (upd H1 dx (.own x)) x (.ins C dx [])) (fun v H2 => v = .non ∧ Q (.ref x) H2) (E σ)
theorem pe_makeSD {t : TA} {dvs : List V} {ds : List Value} {S : Sp} {E : St → XK} (M : Mk X.K C f) (Fn : FnOk X.prog X.w X.K X.mg X.base (L2N.CX X.prog X.w) k f fd ps S) (hr : Room (k + 1) X.A) (hg : Gl X x) (hm : X.mg x = some (.ref C)) (hb : Binds X.K fd ps ds) (hd : Vals dvs ds) (hx : ∀ σ, PassesAt (L2N.CX X.prog X.w) X σ (E σ))
  (ha : PA X (e :: es) t) (hdb : (x == ("__debug__" : Str)) = false := by decide) (he : starEach (e :: es) X.env = (false, eval e X.env) :: starEach es X.env := by rfl) (hpl : (backTo pos (starEach es X.env)).any (·.1) = false := by rfl) :
  PE X (.Call (.Name x p) (e :: es) [] pos) (tMakeSD C S dvs E t) := by
 refine ⟨fun pins s σ H Q I h => ?_⟩
 refine wpAny_Call_Name_kw (ld_glob I hg hm ?_ hdb)
 refine PySem.W.callWith_K (h₀ := X.base) I.ok.mod.kin M.kp (thn (ha.run pos pins s σ H _ I h) fun us s1 ⟨vs, H1, I1, r, q⟩ => ⟨I1.kIn, ?_⟩) he hpl
 exact run_makeSD M Fn hr hb hd (fun H s e s' J c => hx σ pins H s e s' J c) I1 r q
def tNewX (C : Addr) (sr : SpRX) (dps : List PV) (t : TAp) : TXp := fun η P Zw => t η fun args η1 => sr (.o C []) (args ++ dps) (fun r o' => r = .non ∧ ∃ fs, o' = .o C fs ∧ P (.ins C fs) η1) fun C' fs => Zw C' fs η1
theorem zx_new {dvs : List V} {ds : List Value} {dps : List PV} (M : Mk X.K C f) (Fn : FnOk X.prog X.w X.K X.mg X.base (L2N.CX X.prog X.w) k f fd ps (upSpRX X.K T sr)) (tk : L2N.Takes X W) (hr : Room (k + 1) X.A) (hg : Gl X x) (hm : X.mg x = some (.ref C)) (hb : Binds X.K fd ps ds) (hd : Vals dvs ds) (hp : ∀ O H, Reps X.K O H dps dvs)
  (ha : PA X (e :: es) (upA X.K T t)) (hdb : (x == ("__debug__" : Str)) = false := by decide) (he : starEach (e :: es) X.env = (false, eval e X.env) :: starEach es X.env := by rfl) (hpl : (backTo pos (starEach es X.env)).any (·.1) = false := by rfl) :
  PE X (.Call (.Name x p) (e :: es) [] pos) (upX X.K T W (tNewX C sr dps t)) := by
 refine PE.weak (pe_makeSD M Fn hr hg hm hb hd (L2N.passAt tk) ha hdb he hpl) fun σ H Q q => ?_
 obtain ⟨F, η, P, Zw, R, h, k, kx⟩ := q
 refine ⟨F, η, _, R, h, fun args η1 vs H1 h1 e1 R1 r1 x dx nx ndx nex => ?_⟩
 have s1 : Same H1 (upd (upd H1 dx (.own x)) x (.ins C dx [])) := fun b u hb => by
  rw [upd_ne (ne_of_none hb nx), upd_ne (ne_of_none hb ndx)]; exact hb
 have nO : ¬ Oof F σ η1 x := fun z => R1.trO x z (Nw.of nx)
 have c1 : Car (Oof F σ η1) (With (Oof F σ η1) x) H1 (upd (upd H1 dx (.own x)) x (.ins C dx [])) := fun b u n hb _ => ⟨s1 b u hb, fun z => z.elim n (ne_of_none hb nx)⟩
 have gr : ∀ {H2 : Hp}, GrB x (upd (upd H1 dx (.own x)) x (.ins C dx [])) H2 → Gr H1 H2 := fun g => ⟨fun b u hb t => g.keep b u (ne_of_none hb nx) (s1 b u hb) t, fun b hb => g.live b fun q => hb fun o z => q o (s1 b o z)⟩
 refine ⟨Oof F σ η1, x, _, .o C [], _, _, _, rfl, nO, R1.trO.same s1, R1.tb.ext s1, ⟨dx, [], upd_same, by unfold RepF; rfl⟩, (r1.car c1).app (hp _ _), h1, fun z o' v H2 pz g tb ho' rz => ?_, fun C' fs d H2 z g tb xa => ?_⟩
 ·obtain ⟨rfl, fs, rfl, pz⟩ := pz
  obtain ⟨dx', ws, hx, rf⟩ := ho'
  refine ⟨rz.non_, k _ η1 _ H2 pz (e1.trans (gr g).ext) (R1.gr (gr g) tb) ?_⟩
  unfold Rep
  exact ⟨x, dx', ws, rfl, nO, hx, rf.mono fun b z => .inl z⟩
 ·exact kx C' fs η1 d σ H2 z (e1.trans (gr g).ext) (R1.gr (gr g) tb) xa
end
section
variable {X : Cx} {T : List (Addr × Str)} {W : WXs} {e : Expr} {te : TEp} {pos p pos' : Pos} {C fI cc cda : Addr} {B i newId : String} {bmB : List Value} {fld x : Str} {fd : FuncData}
def tRaiseX (C : Addr) (fld : Str) (te : TEp) : TSX := fun _ Zw η => te η fun y η1 => Zw C [(fld, y)] η1
structure XOk (P : Program) (K : PySem.W.Frag) (mg : Str → Option Value) (x : Str) (C : Addr) (fld : Str) : Prop where
 ex : ∃ (fI cc cda : Addr) (B i newId : String) (bmB : List Value) (fd : FuncData), ZX.BaseX B i newId bmB ∧ ZX.XInit P K C fI cc cda fld B i newId bmB fd ∧ ZX.XCl K C fI
 g : mg x = some (.ref C)
theorem zx_raise (Y : XOk X.prog X.K X.mg x C fld) (hsup : X.mg "super" = none) (tk : L2N.Takes X W) (hc : X.calm = true) (hr : L2H.RoomH 1 X.A) (hg : Gl X x) (ha : PE X e (up X.K T te))
  (hdb : (x == ("__debug__" : Str)) = false := by decide) (he : starEach [e] X.env = (false, eval e X.env) :: starEach [] X.env := by rfl) (hpl : (backTo pos' (starEach [] X.env)).any (·.1) = false := by rfl) :
  PS X (.Raise (some (.Call (.Name x p) [e] [] pos')) none pos) (upSX X.K T W (tRaiseX C fld te)) := by
 obtain ⟨fI, cc, cda, B, i, newId, bmB, fd, BX, YI, YC⟩ := Y.ex
 refine PS.weak (L2N.ps_raise hc tk (ZX.pmk_X BX YI YC hsup hr hg Y.g (za_cons ha za_nil he) hdb he hpl)) fun D σ H q => ?_
 obtain ⟨F, η, D', Zw, R, h, k1, k2, k3, k4, kx⟩ := q
 refine ⟨F, η, fun ys η1 => ∃ y, ys = [y] ∧ Zw C [(fld, y)] η1, R, ?_, fun ys η1 vs H1 h1 e1 R1 r1 => ?_⟩
 ·refine Eq.mp ?_ (show te η fun y η1 => Zw C [(fld, y)] η1 from h)
  unfold tConsP tNilP
  congr 1
  funext y η1
  simp
 ·obtain ⟨y, rfl, hz⟩ := h1
  obtain ⟨v, rfl, r⟩ := r1.one
  refine ⟨v, rfl, fun d nd => ?_⟩
  have sm : Same H1 (upd H1 d (.xd [(fld, v)])) := Same.new nd
  refine kx C [(fld, y)] η1 (some d) σ _ hz (e1.trans (.same sm)) (R1.same sm) (.inr ⟨d, _, rfl, R1.trO.fresh nd, upd_same, ?_⟩)
  unfold RepF
  exact ⟨v, [], rfl, r.car (Car.same sm), by unfold RepF; rfl⟩
end
end Z
namespace L2N
open PySem PySem.Spec PyProof.Rows L2
inductive NamesL (X : Cx) : List Expr → List Value → Prop
 | nil : NamesL X [] []
 | cons {x : Str} {p : Pos} {c : Value} {es : List Expr} {cs : List Value} : Names X x c → NamesL X es cs → NamesL X (.Name x p :: es) (c :: cs)
def TupM (P : Program) (w : World) (K : PySem.W.Frag) (cs : List Value) : Prop := ∀ {cls : Value} {tp e : Addr} {b : Bool} {h : Heap}, K.In h → PySem.W.Looks (model P w) h (typeOf (.ref e)) cls →
 h.get? tp = some { cls := .type "tuple", data := .seq cs.toArray } → PySem.W.exmAny K cls cs = some b → PySem.W.Looks (model P w) h (excMatches (.ref e) (.ref tp)) b
theorem tupM3 {P : Program} {w : World} {K : PySem.W.Frag} {c1 c2 c3 : Value} : TupM P w K [c1, c2, c3] := fun X LT hp hx => PySem.W.exm_tup3 X LT hp hx
theorem flying_keep {B h h' : Heap} {l : List Env} {a : Addr} {Z : Obj → Prop} (k : ∀ b o, h.get? b = some o → h'.get? b = some o) (x : HandSPX.FlyingZ B l a Z h) : HandSPX.FlyingZ B l a Z h' := by
 obtain ⟨x1, x2, x3, oe, vs, T, oT, ts, e1, e2, e3, e4, e5, e6, e7, e8⟩ := x
 exact ⟨fun b o e => k b o (x1 b o e), x2, x3.of_keeps fun b o e _ => ⟨o, k b o e, rfl⟩, oe, vs, T, oT, ts, k _ _ e1, e2, e3, e4, e5, e6, k _ _ e7, e8⟩
theorem evalNames {X : Cx} {a : Addr} {q : Addr × Obj} {pn pins : List (Addr × Obj)} {σ : St} {H : Hp} {s : Shared} {np : Pos} {E : Value → Shared → Prop} (I : Inv (X.suite a (q :: pn)) pins σ H s) : ∀ {es : List Expr} {cs : List Value}, NamesL X es cs → ∀ {Q : List Value → Shared → Prop}, Q cs s →
  wpAny (model X.prog X.w) (X.A.mark (some (.ref a))) (spliced (backTo np (starEach es X.env))) Q E s
 | _, _, .nil, Q, q => spliced_none q
 | _, _, .cons (x := x) (p := p) (c := c) hc r, Q, qq => by
  refine spliced_more ?_
  obtain ⟨hg, hdbg, hm | ⟨hm, hv, hnn⟩⟩ := hc
  ·exact ld_glob (X := X.suite a (q :: pn)) I hg hm (evalNames I r qq) hdbg
  ·exact ld_blt (X := X.suite a (q :: pn)) I hg hm hv (evalNames I r qq) hnn hdbg
def wTup (K : PySem.W.Frag) (cs : List Value) (i : Nat) (ts : Addr → Value → Option Addr → TS) (Wout : WX) (D : Ends) : WX := fun cls d σ H =>
 ∃ b, PySem.W.exmAny K cls cs = some b ∧ (b = true → ∀ a, H a = none → ts a cls d { nx := fun σ' H' => D.nx (σ'.set i none) H', rt := D.rt, bk := fun σ' H' => D.bk (σ'.set i none) H', ct := fun σ' H' => D.ct (σ'.set i none) H' } (σ.set i (some (.ref a))) H) ∧
  (b = false → Wout cls d σ H)
def wTupO (K : PySem.W.Frag) (cs : List Value) (ts : Addr → Value → Option Addr → TS) (Wout : WX) (D : Ends) : WX := fun cls d σ H =>
 ∃ b, PySem.W.exmAny K cls cs = some b ∧ (b = true → ∀ a, H a = none → ts a cls d D σ H) ∧ (b = false → Wout cls d σ H)
section
variable {X : Cx} {n : Str} {cs : List Value} {elts : List Expr} {ek : Nat} {i : Nat} {body suite : List Stmt} {b₀ : Stmt} {np pos pos' : Pos} {tb : WX → TS} {ts : Addr → Value → Option Addr → TS} {Wout : WX}
theorem ps_try_tup_as (hs : X.stack = X.env :: X.outer) (hf : X.env.frame = some X.env.locals) (hN : X.N.Nodup) (hi : X.N[i]? = some n) (hln : X.env.kindOf n = some .local) (hc : NamesL X elts cs) (hm : TupM X.prog X.w X.K cs) (hl : cs.length ≤ 1000) (tk : Takes X Wout)
  (hb : ∀ (W : WX) (pn : List (Addr × Obj)) (xe : Value → Shared → Prop), Takes (X.tr pn xe) W → PassesOwn (model X.prog X.w) X.A X.env xe → PSs (X.tr pn xe) body (tb W))
  (hsu : ∀ (a : Addr) (oe : Obj) (cls : Value) (d : Option Addr) (pn : List (Addr × Obj)), Zn cls d oe → (∃ vs, oe.data = .fields vs) → PSs (X.suite a ((a, oe) :: pn)) (b₀ :: suite) (ts a cls d)) :
  PS X (.Try body [.ExceptHandler (some (.Tuple elts ek np)) (some n) (b₀ :: suite) pos'] [] [] pos) (fun D σ H => tb (wTup X.K cs i ts Wout D) D σ H) := by
 refine ⟨fun pins s σ H D I h => ?_⟩
 have ok := I.ok
 have hfr : X.A.frames = some (X.env :: X.outer) := by rw [ok.frames, hs]
 have hloc : Loc X.env.scope n := .inl hln
 refine wpAny_Try_except ?_
 refine wpAny_mono ((hb (wTup X.K cs i ts Wout D) (X.pn ++ pins) (fun e s₁ => wpAny (model X.prog X.w) X.A (noteFrame e X.env) (fun _ s₂ => wpAny (model X.prog X.w) X.A (setFlight e none) (fun _ s₃ =>
  wpAny (model X.prog X.w) X.A (handleBy e X.env [.ExceptHandler (some (.Tuple elts ek np)) (some n) (b₀ :: suite) pos']) (SP X pins D) X.xe s₃) X.xe s₂) X.xe s₁) (fun u s' xx => ?_) PassesOwn.looking).run [] s σ H D (I.toTry _) h) (fun f s1 hsp => ?_) (fun e s1 he => he)
 ·-- the catch
  obtain ⟨a, B, sI, pins', σ', H', cls, d, rfl, J', nb, up, sky, na, os, ag, b, hb1, hyes, hno⟩ := xx
  have J : Inv X pins σ' H' sI := J'.ofTry ok
  have sky' : Sky B (X.env :: X.outer) a (Zn cls d) X.env.locals s'.heap := by rw [← hs]; exact sky
  show wpAny (model X.prog X.w) X.A (noteFrame (.ref a) X.env) _ _ _
  refine Sky.land Zn.steady hfr hf sky' fun h3' fl3' up3' => ?_
  have J3' : Inv X pins σ' H' { s' with heap := h3' } := J.landed nb fl3'.1 (up.trans up3') os ag
  obtain ⟨oe3, vs3, he3', hz3, hd3⟩ := fl3'.there
  have notFr : ∀ {h : Heap} {o : Obj} {vs : Array Value}, h.FunFrames B (X.env :: X.outer) → h.get? a = some o → o.data = .fields vs → a ∉ frs (X.env :: X.outer) := fun {h o vs} ff e dd hm => by
   obtain ⟨_, o', e', hnf⟩ := ff.mem hm
   rw [e] at e'; cases e'
   exact hnf _ dd
  have nfr := notFr fl3'.2.2.1 he3' hd3
  have nL : a ≠ X.env.locals := fun z => nfr (List.mem_filterMap.mpr ⟨X.env, List.mem_cons_self, by rw [hf, z]⟩)
  have nF : a ∉ X.fs := fun hm => by
   obtain ⟨e, he, q⟩ := List.mem_filterMap.mp hm
   exact nfr (List.mem_filterMap.mpr ⟨e, List.mem_cons_of_mem _ he, q⟩)
  have S3' := J3'.suite he3' hd3 na nL nF
  refine wpAny_handleBy_cons (codeAny_handlers_test ?_) (by intro q; cases q)
  refine Tuple_ (evalNames S3' hc ?_)
  refine wpAny_newObj_type ?_ (by show cs.toArray.size ≤ sizeLine; rw [List.size_toArray, sizeLine_eq]; omega)
  let h3 : Heap := h3'.push { cls := .type "tuple", dict := none, data := .seq cs.toArray }
  have kp : ∀ b o, h3'.get? b = some o → h3.get? b = some o := fun b o e => Heap.get?_push_of_some _ e
  have fl3 : HandSPX.FlyingZ B (X.env :: X.outer) a (Zn cls d) h3 := flying_keep kp fl3'
  have up3 : s'.heap.UpToSlots h3 := up3'.trans (Heap.UpToSlots.of_keeps kp)
  have J3 : Inv X pins σ' H' { s' with heap := h3 } := J.landed nb fl3.1 (up.trans up3) os ag
  have he3 := kp _ _ he3'
  have LT : PySem.W.Looks (model X.prog X.w) h3 (typeOf (.ref a)) cls := fun A Q E s k q => wpAny_typeOf_ref (k _ _ he3) (by rw [hz3.1]; exact q)
  have LM := hm J3.kIn LT (Heap.get?_push_size _ rfl) hb1
  show wpAny _ _ _ _ _ { s' with heap := h3 }
  refine LM.here ?_
  cases b with
  | true =>
   refine codeAny_handlers_suite_as ?_
   refine HandSPX.lands_againZ fl3 fun h4 fl4 up4 => ?_
   have J4 : Inv X pins σ' H' { s' with heap := h4 } := J.landed nb fl4.1 ((up.trans up3).trans up4) os ag
   obtain ⟨oe4, vs4, he4, hz4, hd4⟩ := fl4.there
   have S4 := J4.suite he4 hd4 na nL nF
   refine store_ok (X := X.suite a ((a, oe4) :: (X.pn ++ pins))) (v := .ref a) S4 hN hi hloc rfl (fun s5 S5 => ?_) (.inr hln)
   refine wpAny_mono ((hsu a oe4 cls d (X.pn ++ pins) hz4 ⟨_, hd4⟩).run [] s5 _ H' _ S5 (hyes rfl a na)) (fun f s6 hsp => ?_) (fun _ _ z => False.elim z)
   have end_ : ∀ {σ6 : St} {H6 : Hp} {Q : Shared → Prop}, Inv (X.suite a ((a, oe4) :: (X.pn ++ pins))) [] σ6 H6 s6 → (∀ s7, Inv X pins (σ6.set i none) H6 s7 → Q s7) →
     wpAny (model X.prog X.w) X.A (do bindName X.env n .none; unbindBehindTheSuite X.env n pos') (fun _ s7 => Q s7) X.xe s6 := fun {σ6 H6 Q} S6 hq => gone_ok (S6.unsuite ok) hN hi hln hq
   cases f with
   | next =>
    obtain ⟨σ6, H6, S6, q6⟩ := hsp
    exact end_ S6 fun s7 J7 => ⟨_, _, J7, q6⟩
   | brk =>
    obtain ⟨σ6, H6, S6, q6⟩ := hsp
    exact end_ S6 fun s7 J7 => ⟨_, _, J7, q6⟩
   | cont =>
    obtain ⟨σ6, H6, S6, q6⟩ := hsp
    exact end_ S6 fun s7 J7 => ⟨_, _, J7, q6⟩
   | ret u =>
    obtain ⟨v6, σ6, H6, S6, r6, q6⟩ := hsp
    exact end_ S6 fun s7 J7 => ⟨_, _, _, J7, r6, q6⟩
  | false =>
   show wpAny _ X.A (handleBy (.ref a) X.env []) _ _ _
   refine wpAny_handleBy_nil ?_
   obtain ⟨k1, k2, k3, oe, vs, T, oT, ts', he, hz, hd, h1, hr⟩ := id fl3
   unfold PySem.passOn
   refine wpAny_bind (wpAny_field he hd h1 ?_)
   rw [if_neg (show ¬ ((Value.ref T == Value.none) = true) from by simp)]
   have fin : wpAny (model X.prog X.w) X.A (setFlight (.ref a) X.env.frame) (fun _ s4 => wpAny (model X.prog X.w) X.A (throw (.ref a) : Sem Flow) (SP X pins D) X.xe s4) X.xe { s' with heap := h3 } := by
    rw [hf]
    refine HandSPX.setFlight_upZ fl3 fun h4 hh4 up4 => wpAny_throw (tk _ _ ?_)
    exact ⟨a, B, sI, pins, σ', H', cls, d, rfl, J, nb, (up.trans up3).trans up4, .inr (.inr (by rw [hs]; exact hh4)), na, os, ag, hno rfl⟩
   first
    | exact wpAny_bind (wpAny_pure (wpAny_bind fin))
    | exact wpAny_bind fin
 ·cases f with
  | next =>
   obtain ⟨σ', H', J', q⟩ := hsp
   exact wpAny_execs_nil ⟨σ', H', J'.ofTry ok, q⟩
  | brk =>
   obtain ⟨σ', H', J', q⟩ := hsp
   exact ⟨σ', H', J'.ofTry ok, q⟩
  | cont =>
   obtain ⟨σ', H', J', q⟩ := hsp
   exact ⟨σ', H', J'.ofTry ok, q⟩
  | ret u =>
   obtain ⟨v, σ', H', J', r, q⟩ := hsp
   exact ⟨v, σ', H', J'.ofTry ok, r, q⟩
end
end L2N
namespace Z
open PySem PySem.Spec L2
open PyProof.Rows hiding St
section
variable {X : Cx} {T : List (Addr × Str)} {W : WXs} {e : Expr} {te ta : TEp} {t : TAp} {pos pos' np : Pos} {b₀ : Stmt} {body suite : List Stmt} {tb : TSX} {i ek : Nat} {n : Str} {cs : List Value} {elts : List Expr}
theorem XAt.rep {K : PySem.W.Frag} {O : Addr → Prop} {H : Hp} {d : Option Addr} {fs : List (Str × PV)} (x : XAt K O H d fs) (a : Addr) : Rep K O H (.exn a d fs) (.ref a) := by
 unfold Rep
 rcases x with ⟨rfl, rfl⟩ | ⟨y, ws, rfl, n, q, r⟩
 ·exact ⟨rfl, [], (fun _ z => nomatch z), by unfold RepF; rfl⟩
 ·exact ⟨rfl, ws, (fun _ z => by cases z; exact ⟨n, q⟩), r⟩
theorem XAt.some {K : PySem.W.Frag} {O : Addr → Prop} {H : Hp} {d : Option Addr} {fs : List (Str × PV)} (x : XAt K O H d fs) : fs = [] ∨ d.isSome := by
 rcases x with ⟨rfl, rfl⟩ | ⟨y, ws, rfl, n, q, r⟩
 ·exact .inl rfl
 ·exact .inr rfl
end
def PinX (X : Cx) (a : Addr) (cls : Value) (d : Option Addr) : Prop := ∃ oe : Obj, (a, oe) ∈ X.pn ∧ L2.Zc cls d oe ∧ ∃ vs, oe.data = .fields vs
theorem pinX_suiteC {X : Cx} {a : Addr} {oe : Obj} {cls : Value} {d : Option Addr} {pn : List (Addr × Obj)} (hz : L2.Zc cls d oe) (hf : ∃ vs, oe.data = .fields vs) : PinX (X.suite a ((a, oe) :: pn)) a cls d := ⟨oe, List.mem_cons_self, hz, hf⟩
theorem PinX.inst {X : Cx} {a C : Addr} {d : Option Addr} {pins : List (Addr × Obj)} {σ : St} {H : Hp} {s : Shared} (p : PinX X a (.ref C) d) (I : Inv X pins σ H s) (hd : ∀ x, d = some x → ∃ ws, H x = some (.xd ws)) : ∃ oe od, PySem.W.InstAt s.heap a oe C od ∧
  ∀ x ws, d = some x → H x = some (.xd ws) → ∃ (o : Obj) (mA : Str → Option Value), od = some o ∧ (∀ f, PySem.W.lookIn f o = some (mA f)) ∧ ∀ f, RelO (ws.lookup f) (mA f) := by
 obtain ⟨oe, hm, hz, vs, hv⟩ := p
 obtain ⟨hget, _⟩ := I.pin (a, oe) (List.mem_append.mpr (.inl hm))
 have nc : PySem.W.notCls oe = true := by unfold PySem.W.notCls; rw [hv] <;> rfl
 cases d with
 | none =>
  exact ⟨oe, none, ⟨hget, hz.1, nc, by rw [hz.2]; trivial⟩, fun x ws e => by cases e⟩
 | some x =>
  obtain ⟨ws, hx⟩ := hd x rfl
  have ok : ObjOk X.prog X.w H s.heap x (.xd ws) := I.hok x _ hx
  obtain ⟨mA, hns, hr⟩ := ok
  obtain ⟨od, ho, hl⟩ := lookIn_ns hns
  refine ⟨oe, some od, ⟨hget, hz.1, nc, by rw [hz.2]; exact ho⟩, fun y ws' e hy => ?_⟩
  cases e
  rw [hx] at hy
  cases hy
  exact ⟨od, mA, rfl, hl, hr⟩
section
variable {X : Cx} {T : List (Addr × Str)} {e : Expr} {te ta : TEp} {pos : Pos} {a : Addr} {cls : Value} {d : Option Addr}
def clsVal : PV → Option Value
 | .raw (.ref c) => some (.ref c)
 | .raw (.ty n) => some (.type n)
 | _ => none
theorem clsVal_rep {K : PySem.W.Frag} {O : Addr → Prop} {H : Hp} {x : PV} {cv : Value} {v : V} {u : Value} (h : Rep K O H x v) (e : clsVal x = some cv) (r : RelV v u) : u = cv := by
 unfold clsVal at e
 split at e
 ·cases e
  unfold Rep at h
  subst h
  exact r
 ·cases e
  unfold Rep at h
  subst h
  exact r
 ·cases e
def rIsX (K : PySem.W.Frag) (a : Addr) (cls : Value) (d : Option Addr) : R1p := fun ps P => ∃ fs c C cv b, ps = [.exn a d fs, c] ∧ cls = .ref C ∧ L2.ExcC K C ∧ clsVal c = some cv ∧ PySem.W.kitOne K (.ref C) cv = some b ∧ P (.bl b)
theorem zc_isX (p : PinX X a cls d) : CallR X (.builtin "isinstance") (r1 X.K (rIsX X.K a cls d)) := by
 intro pins s σ H xs us Q I r h
 obtain ⟨O, ps, P, tr, hx, h, k⟩ := h
 obtain ⟨fs, c, C, cv, b, rfl, rfl, Y, hc, hk, hp⟩ := h
 obtain ⟨v, w, rfl, r1, r2⟩ := hx.two
 cases r with
 | @cons _ u1 _ us1 q1 qr =>
 cases qr with
 | @cons _ u2 _ us2 q2 qr =>
 cases qr
 obtain rfl := clsVal_rep r2 hc q2
 unfold Rep at r1
 obtain ⟨rfl, ws, hd, _⟩ := r1
 cases (show u1 = Value.ref a from q1)
 obtain ⟨oe, od, J, _⟩ := p.inst I fun x hx => ⟨ws, (hd x hx).2⟩
 obtain ⟨cdD, hcD, _⟩ := PySem.W.any_some Y.hd
 exact PySem.W.kia_one (PySem.W.kitx_exc (by rw [hcD]; rfl) Y.hg Y.hk Y.hs Y.ha Y.hn Y.ht Y.hm) I.kIn J hk (fun z => nomatch z) fun tk => ⟨.bl b, H, I.kept (t' := tk) fun _ _ z => z, rfl, k.bl hp⟩
def rIsXT (K : PySem.W.Frag) (a : Addr) (cls : Value) (d : Option Addr) : R1p := fun ps P => ∃ fs cs C cvs b, ps = [.exn a d fs, .tup cs] ∧ cls = .ref C ∧ L2.ExcC K C ∧ cs.map clsVal = cvs.map some ∧ PySem.W.kitAny K (.ref C) cvs = some b ∧ P (.bl b)
theorem clsVals_rep {K : PySem.W.Frag} {O : Addr → Prop} {H : Hp} : ∀ {xs : List PV} {cvs : List Value} {vs : List V} {us : List Value}, Reps K O H xs vs → xs.map clsVal = cvs.map some → Vals vs us → us = cvs
 | [], cvs, vs, us, h, e, r => by
  rw [h.inv0] at r
  cases r
  cases cvs with
  | nil => rfl
  | cons => cases e
 | x :: xs, cvs, vs, us, h, e, r => by
  obtain ⟨v, ws, rfl, h1, h2⟩ := h.inv
  cases cvs with
  | nil => cases e
  | cons cv cvs =>
   rw [List.map_cons, List.map_cons] at e
   obtain ⟨e1, e2⟩ := List.cons.inj e
   cases r with
   | cons q1 qr => rw [clsVal_rep h1 e1 q1, clsVals_rep h2 e2 qr]
theorem zc_isXT (p : PinX X a cls d) : CallR X (.builtin "isinstance") (r1 X.K (rIsXT X.K a cls d)) := by
 intro pins s σ H xs us Q I r h
 obtain ⟨O, ps, P, tr, hx, h, k⟩ := h
 obtain ⟨fs, cs, C, cvs, b, rfl, rfl, Y, hc, hk, hp⟩ := h
 obtain ⟨v, w, rfl, r1, r2⟩ := hx.two
 cases r with
 | @cons _ u1 _ us1 q1 qr =>
 cases qr with
 | @cons _ u2 _ us2 q2 qr =>
 cases qr
 obtain ⟨tp, vs, rfl, ht, rr⟩ := r2.tup_
 cases (show u2 = Value.ref tp from q2)
 unfold Rep at r1
 obtain ⟨rfl, ws, hd, _⟩ := r1
 cases (show u1 = Value.ref a from q1)
 obtain ⟨oe, od, J, _⟩ := p.inst I fun x hx => ⟨ws, (hd x hx).2⟩
 obtain ⟨cdD, hcD, _⟩ := PySem.W.any_some Y.hd
 have KK := PySem.W.kitx_exc (K := X.K) (x := a) (C := C) (od := od) (ox := oe) (by rw [hcD]; rfl) Y.hg Y.hk Y.hs Y.ha Y.hn Y.ht Y.hm
 obtain ⟨its, o, n, g1, g2, g3, g4⟩ : ∃ (its : Array Value) (o : Obj) (n : Nat), s.heap.get? tp = some o ∧ o.cls = .type "tuple" ∧ o.data = .seq its n ∧ Vals vs its.toList := by
  rcases ht.sq with h | ⟨o, its, n, e1, e2, e3, e4, e5⟩
  ·rcases h with h | ⟨of, h⟩
   ·obtain ⟨_, its, rv, o, h1, h2, n, h3⟩ := (show ObjOk X.prog X.w H s.heap tp (.tup vs) from I.hok tp _ h)
    exact ⟨its.toArray, o, n, h1, h2, h3, rv⟩
   ·obtain ⟨_, its, rv, o, h1, h2, n, h3⟩ := (show ObjOk X.prog X.w H s.heap tp (.frz of (.tup vs)) from I.hok tp _ h).2
    exact ⟨its.toArray, o, n, h1, h2, h3, rv⟩
  ·exact ⟨its, o, n, I.kIn _ _ e1, e2, e3, e5⟩
 have e3 := clsVals_rep rr hc g4
 subst e3
 obtain ⟨oc, od', dt, sl⟩ := o
 simp only at g2 g3
 subst g2 g3
 exact PySem.W.kia_tup KK I.kIn J g1 hk (fun z => nomatch z) fun tk => ⟨.bl b, H, I.kept (t' := tk) fun _ _ z => z, rfl, k.bl hp⟩
structure XfN (K : PySem.W.Frag) (C : Addr) (f : Str) : Prop where
 t : XfC K C
 n : PySem.W.findIn K (.ref C) f = some none
def tXfP (K : PySem.W.Frag) (a : Addr) (cls : Value) (d : Option Addr) (f : Str) (te : TEp) : TEp := fun η P => te η fun x η1 => ∃ fs C y, x = .exn a d fs ∧ cls = .ref C ∧ XfN K C f ∧ d.isSome ∧ fs.lookup f = some y ∧ P y η1
theorem z_xf {f : Str} (p : PinX X a cls d) (he : PE X e (up X.K T te)) (hb : attributeBase e f X.env (eval e X.env) = eval e X.env := by rfl) : PE X (.Attribute e f pos) (up X.K T (tXfP X.K a cls d f te)) := by
 refine ⟨fun pins s σ H Q I h => ?_⟩
 obtain ⟨F, η, P, R, h, k⟩ := h
 refine attr_of hb (thn (he.run pins s σ H (fun v H1 => ∃ η1 fs C y, Rs X.K T F σ η1 H1 ∧ Ext σ η σ η1 H H1 ∧ Rep X.K (Oof F σ η1) H1 (.exn a d fs) v ∧ cls = .ref C ∧ XfN X.K C f ∧ d.isSome ∧ fs.lookup f = some y ∧ P y η1) I
  ⟨F, η, _, R, h, fun x η1 v H1 h1 e1 R1 r1 => by
   obtain ⟨fs, C, y, rfl, h2, h3, h4, h5, h6⟩ := h1
   exact ⟨η1, fs, C, y, R1, e1, r1, h2, h3, h4, h5, h6⟩⟩) fun u s1 hh => ?_)
 obtain ⟨v, H1, I1, rv, η1, fs, C, y, R1, e1, r1, rfl, N, hd, hl, hp⟩ := hh
 have r1' := r1
 unfold Rep at r1'
 obtain ⟨rfl, ws, hw, rf⟩ := r1'
 obtain rfl : u = Value.ref a := rv
 obtain ⟨x, rfl⟩ := Option.isSome_iff_exists.mp hd
 obtain ⟨oe, od, J, look⟩ := p.inst I1 fun z hz => ⟨ws, (hw z hz).2⟩
 obtain ⟨o, mA, rfl, l1, l2⟩ := look x ws rfl (hw x rfl).2
 obtain ⟨vy, h1, h2⟩ := (rf.look f).1 y hl
 obtain ⟨uy, hu, ru⟩ := RelO.some_of (v := vy) (o := mA f) (by rw [← h1]; exact l2 f)
 exact HandSPX.exc_get I1.kIn J N.t.ga N.t.gg N.t.exC (PySem.W.findObj_own N.t.hdC N.n rfl (by rw [l1 f, hu])) (handed_of ru) ⟨vy, H1, I1.tok _, ru, k _ _ _ _ hp e1 R1 h2⟩
end
structure XTxt (st : Stmt) (qual fld : Str) : Prop where
 ex : ∃ (m : Str) (j : Nat) (p0 p1 p2 p3 p4 p5 p6 p7 p8 p9 : Pos) (ar : Arg),
  defBody st = [.Expr (.Call (.Attribute (.Call (.Name "super" p0) [] [] p1) "__init__" p2) [.Constant (.str m) j p3] [] p4) p5, .Assign [.Attribute (.Name "self" p6) fld p7] (.Name fld p8) p9] ∧
  ((defArgs st).posonlyargs ++ (defArgs st).args).head? = some ar ∧ ar.arg = "self" ∧
  (∀ (L fI cda cc : Addr), interactive (PySem.W.ksEnv qual (defScope st) L fI (.ref cda) cc) = false) ∧
  (∀ (L fI cda cc : Addr), ∃ pl : Sem Bool, eval (.Call (.Attribute (.Call (.Name "super" p0) [] [] p1) "__init__" p2) [.Constant (.str m) j p3] [] p4) (PySem.W.ksEnv qual (defScope st) L fI (.ref cda) cc) = (do
   let ov ← attributeBase (.Call (.Name "super" p0) [] [] p1) "__init__" (PySem.W.ksEnv qual (defScope st) L fI (.ref cda) cc) (eval (.Call (.Name "super" p0) [] [] p1) (PySem.W.ksEnv qual (defScope st) L fI (.ref cda) cc))
   standAt p2.atName
   let (f, first) ← holding [ov] (getMethod ov "__init__" pl)
   callWith p4 f first (backTo p4 (starEach [.Constant (.str m) j p3] (PySem.W.ksEnv qual (defScope st) L fI (.ref cda) cc))) [])) ∧
  (∀ (L fI cda cc : Addr), swapsWith (.Call (.Attribute (.Call (.Name "super" p0) [] [] p1) "__init__" p2) [.Constant (.str m) j p3] [] p4) none p5.line (PySem.W.ksEnv qual (defScope st) L fI (.ref cda) cc) = pure false) ∧
  (∀ (L fI cda cc : Addr), swapsWith (.Name fld p8) (some (.Attribute (.Name "self" p6) fld p7)) p9.line (PySem.W.ksEnv qual (defScope st) L fI (.ref cda) cc) = pure false)
 n1 : (defScope st).names.lookup ("super" : Str) = some .globalImplicit
 n2 : (defScope st).names.lookup ("__class__" : Str) = some .free
 n3 : (defScope st).names.lookup ("self" : Str) = some .local
 n4 : (defScope st).names.lookup fld = some .local
 n5 : (defScope st).kind = .function
 n6 : (defScope st).isCoroutine = false
 n7 : (defScope st).isGenerator = false
 n8 : ∀ x ∈ (defScope st).names, x.2 ≠ .cell
 b : ∀ (kV doc pm : Value) (an : Option Addr) (cdv ct : Value) (cc : Addr) (e u : Value), bindArgs (PySem.W.ksFn "__init__" qual (defArgs st) (defBody st) (defScope st) .none kV doc pm an cdv ct cc) ⟨[e, u], []⟩ = pure [(("self" : Str), e), (fld, u)]
def xclB (K : PySem.W.Frag) (C fI : Addr) (qual fld : Str) (B i newId : String) (bmB : List Value) (cda : Addr) : Bool :=
 decide (PySem.W.typeIn K (.ref fI) = some (.type "function")) && (decide (PySem.W.subIn K (.ref C) (.type "BaseException") = some true) && (decide (PySem.W.typeIn K (.ref C) = some (.type "type")) && (PySem.W.keepIn K (.ref C) &&
 (PySem.W.codeIn K (.ref cda) qual && ((PySem.W.clsIn K C).isSome && (decide (PySem.W.mroIn K C (.ref C) = some true) && (decide (PySem.W.subIn K (.ref C) (.type B) = some true) && (decide (PySem.W.nsIn K cStatics "thirdparty.any" = some none) &&
 (decide (PySem.W.ks_superIn K C C "__init__" = some (some (.builtin i))) && (PySem.W.excInitIn K C bmB newId && (PySem.W.excOver K C bmB && (decide (PySem.W.takerIn K C fld = some none) && (PySem.W.hasDictIn K C &&
 (decide (PySem.W.findIn K (.ref C) "__setattr__" = some (some (.builtin "object.__setattr__"))) && (decide (PySem.W.findIn K (.ref C) "__getattribute__" = some (some (.builtin "BaseException.__getattribute__"))) && (decide (PySem.W.findIn K (.ref C) "__getattr__" = some none) &&
 (decide (PySem.W.findIn K (.ref C) fld = some none) && (decide (PySem.W.findIn K (.ref C) "__class__" = some (some (.builtin "object.__class__"))) && (decide (PySem.W.specialIn K (.builtin "object.__class__") "__get__" = some (some (.builtin "getset_descriptor.__get__"))) &&
 (decide (PySem.W.takesIn K (.builtin "object.__class__") = some true) && decide (PySem.W.mroIn K C (.type "object") = some true)))))))))))))))))))))
theorem baseV : ZX.BaseX "ValueError" "ValueError.__init__" "ValueError.__new__" [.type "ValueError", .type "Exception", .type "BaseException", .type "object"] := ⟨F.excBase_ValueError, PySem.W.kxs_ValueError, F.store_ValueError⟩
structure XAll (P : Program) (K : PySem.W.Frag) (mg : Str → Option Value) (x : Str) (C : Addr) (fld : Str) : Prop where
 ok : XOk P K mg x C fld
 is : L2.ExcC K C
 xf : XfN K C fld
theorem xAll_of {P : Program} {K : PySem.W.Frag} {mg : Str → Option Value} {x fld qual : Str} {st : Stmt} {C fI cc cda : Addr} {B i newId : String} {bmB : List Value} {oc kV doc pm ct cl ccl : Value} {od an cld cdd : Option Addr} {osl csl ccs : Array (Option Value)} {vs : Array Value} {file : Str} {tf : Tok}
  (BX : ZX.BaseX B i newId bmB) (T : XTxt st qual fld) (hg : mg x = some (.ref C)) (iC : PySem.W.findIn K (.ref C) "__init__" = some (some (.ref fI)))
  (lk : K.lookup fI = some ⟨oc, od, .func (PySem.W.ksFn "__init__" qual (defArgs st) (defBody st) (defScope st) .none kV doc pm an (.ref cda) ct cc), osl⟩)
  (cell : K.lookup cc = some ⟨cl, cld, .cell (some (.ref C)), csl⟩) (code : K.lookup cda = some ⟨ccl, cdd, .fields vs, ccs⟩) (hvs : vs[2]? = some (.str file tf)) (hfile : ((P.main.file : Str) == file) = true) (htop : (P.main.scope.names.lookup ("super" : Str)).isSome = false)
  (hB : xclB K C fI qual fld B i newId bmB cda = true) (hn1 : (fld == ("__debug__" : Str)) = false := by decide) (hn2 : fld ≠ "self" := by decide) : XAll P K mg x C fld := by
 unfold xclB at hB
 simp only [Bool.and_eq_true, decide_eq_true_eq] at hB
 obtain ⟨h1, h2, h3, h4, h5, h6, h7, h8, h9, h10, h11, h12, h13, h14, h15, h16, h17, h18, h19, h20, h21, h22⟩ := hB
 obtain ⟨m, j, p0, p1, p2, p3, p4, p5, p6, p7, p8, p9, ar, hb, ha, har, e1, e2, e3, e4⟩ := T.ex
 refine ⟨⟨⟨fI, cc, cda, B, i, newId, bmB, _, BX, ⟨⟨oc, od, osl, qual, defArgs st, m, j, p0, p1, p2, p3, p4, p5, p6, p7, p8, p9, defScope st, .none, kV, doc, pm, ct, an, ar, ?_, lk, h5, ha, har, T.n1, T.n2, T.n3, T.n4, T.n5, T.n6, T.n7, T.n8, fun L => e1 L fI cda cc, fun L => e2 L fI cda cc, fun L => e3 L fI cda cc, fun L => e4 L fI cda cc⟩,
  fun s e u => .of_eq (T.b _ _ _ _ _ _ _ e u), ⟨cl, cld, csl, cell⟩, ⟨ccl, cdd, vs, ccs, file, tf, code, hvs, hfile⟩, htop, Option.isSome_iff_exists.mp h6, h7, h8, h9, h10, h11, h15, h12, h13, h14, hn1, hn2⟩, ⟨iC, h1, h2, h3, h4⟩⟩, hg⟩,
  ⟨h16, h17, h2, h14, h19, h20, h21, h22⟩, ⟨⟨h16, h17, h2, h14⟩, h18⟩⟩
 rw [hb]
end Z
namespace L2T
open PySem PySem.Spec PyProof.Rows L2
open L2N (NamesL TupM flying_keep evalNames wTup wTupO)
abbrev St := L2.St
section
variable {X : Cx} {n : Str} {cs : List Value} {elts : List Expr} {ek : Nat} {i : Nat} {body suite : List Stmt} {b₀ : Stmt} {np pos pos' : Pos} {tb : WX → TS} {ts : Addr → Value → Option Addr → TS} {Wout : WX}
theorem ps_try_tup_as (hs : X.stack = X.env :: X.outer) (hf : X.env.frame = some X.env.locals) (hN : X.N.Nodup) (hi : X.N[i]? = some n) (hln : X.env.kindOf n = some .local) (hc : NamesL X elts cs) (hm : TupM X.prog X.w X.K cs) (hl : cs.length ≤ 1000) (tk : L2.Takes X Wout)
  (hb : ∀ (W : WX) (pn : List (Addr × Obj)) (xe : Value → Shared → Prop), L2.Takes (X.tr pn xe) W → PassesOwn (model X.prog X.w) X.A X.env xe → PSs (X.tr pn xe) body (tb W))
  (hsu : ∀ (a : Addr) (oe : Obj) (cls : Value) (d : Option Addr) (pn : List (Addr × Obj)), L2.Zc cls d oe → (∃ vs, oe.data = .fields vs) → PSs (X.suite a ((a, oe) :: pn)) (b₀ :: suite) (ts a cls d)) :
  PS X (.Try body [.ExceptHandler (some (.Tuple elts ek np)) (some n) (b₀ :: suite) pos'] [] [] pos) (fun D σ H => tb (wTup X.K cs i ts Wout D) D σ H) := by
 refine ⟨fun pins s σ H D I h => ?_⟩
 have ok := I.ok
 have hfr : X.A.frames = some (X.env :: X.outer) := by rw [ok.frames, hs]
 have hloc : Loc X.env.scope n := .inl hln
 refine wpAny_Try_except ?_
 refine wpAny_mono ((hb (wTup X.K cs i ts Wout D) (X.pn ++ pins) (fun e s₁ => wpAny (model X.prog X.w) X.A (noteFrame e X.env) (fun _ s₂ => wpAny (model X.prog X.w) X.A (setFlight e none) (fun _ s₃ =>
  wpAny (model X.prog X.w) X.A (handleBy e X.env [.ExceptHandler (some (.Tuple elts ek np)) (some n) (b₀ :: suite) pos']) (SP X pins D) X.xe s₃) X.xe s₂) X.xe s₁) (fun u s' xx => ?_) PassesOwn.looking).run [] s σ H D (I.toTry _) h) (fun f s1 hsp => ?_) (fun e s1 he => he)
 ·-- the catch
  obtain ⟨a, B, sI, pins', σ', H', cls, d, rfl, J', nb, up, sky, na, os, ag, b, hb1, hyes, hno⟩ := xx
  have J : Inv X pins σ' H' sI := J'.ofTry ok
  have sky' : Sky B (X.env :: X.outer) a (L2.Zc cls d) X.env.locals s'.heap := by rw [← hs]; exact sky
  show wpAny (model X.prog X.w) X.A (noteFrame (.ref a) X.env) _ _ _
  refine L2.Sky.land L2.Zc.steady hfr hf sky' fun h3' fl3' up3' => ?_
  have J3' : Inv X pins σ' H' { s' with heap := h3' } := J.landed nb fl3'.1 (up.trans up3') os ag
  obtain ⟨oe3, vs3, he3', hz3, hd3⟩ := fl3'.there
  have notFr : ∀ {h : Heap} {o : Obj} {vs : Array Value}, h.FunFrames B (X.env :: X.outer) → h.get? a = some o → o.data = .fields vs → a ∉ frs (X.env :: X.outer) := fun {h o vs} ff e dd hm => by
   obtain ⟨_, o', e', hnf⟩ := ff.mem hm
   rw [e] at e'; cases e'
   exact hnf _ dd
  have nfr := notFr fl3'.2.2.1 he3' hd3
  have nL : a ≠ X.env.locals := fun z => nfr (List.mem_filterMap.mpr ⟨X.env, List.mem_cons_self, by rw [hf, z]⟩)
  have nF : a ∉ X.fs := fun hm => by
   obtain ⟨e, he, q⟩ := List.mem_filterMap.mp hm
   exact nfr (List.mem_filterMap.mpr ⟨e, List.mem_cons_of_mem _ he, q⟩)
  have S3' := J3'.suite he3' hd3 na nL nF
  refine wpAny_handleBy_cons (codeAny_handlers_test ?_) (by intro q; cases q)
  refine Tuple_ (evalNames S3' hc ?_)
  refine wpAny_newObj_type ?_ (by show cs.toArray.size ≤ sizeLine; rw [List.size_toArray, sizeLine_eq]; omega)
  let h3 : Heap := h3'.push { cls := .type "tuple", dict := none, data := .seq cs.toArray }
  have kp : ∀ b o, h3'.get? b = some o → h3.get? b = some o := fun b o e => Heap.get?_push_of_some _ e
  have fl3 : HandSPX.FlyingZ B (X.env :: X.outer) a (L2.Zc cls d) h3 := flying_keep kp fl3'
  have up3 : s'.heap.UpToSlots h3 := up3'.trans (Heap.UpToSlots.of_keeps kp)
  have J3 : Inv X pins σ' H' { s' with heap := h3 } := J.landed nb fl3.1 (up.trans up3) os ag
  have he3 := kp _ _ he3'
  have LT : PySem.W.Looks (model X.prog X.w) h3 (typeOf (.ref a)) cls := fun A Q E s k q => wpAny_typeOf_ref (k _ _ he3) (by rw [hz3.1]; exact q)
  have LM := hm J3.kIn LT (Heap.get?_push_size _ rfl) hb1
  show wpAny _ _ _ _ _ { s' with heap := h3 }
  refine LM.here ?_
  cases b with
  | true =>
   refine codeAny_handlers_suite_as ?_
   refine HandSPX.lands_againZ fl3 fun h4 fl4 up4 => ?_
   have J4 : Inv X pins σ' H' { s' with heap := h4 } := J.landed nb fl4.1 ((up.trans up3).trans up4) os ag
   obtain ⟨oe4, vs4, he4, hz4, hd4⟩ := fl4.there
   have S4 := J4.suite he4 hd4 na nL nF
   refine store_ok (X := X.suite a ((a, oe4) :: (X.pn ++ pins))) (v := .ref a) S4 hN hi hloc rfl (fun s5 S5 => ?_) (.inr hln)
   refine wpAny_mono ((hsu a oe4 cls d (X.pn ++ pins) hz4 ⟨_, hd4⟩).run [] s5 _ H' _ S5 (hyes rfl a na)) (fun f s6 hsp => ?_) (fun _ _ z => False.elim z)
   have end_ : ∀ {σ6 : St} {H6 : Hp} {Q : Shared → Prop}, Inv (X.suite a ((a, oe4) :: (X.pn ++ pins))) [] σ6 H6 s6 → (∀ s7, Inv X pins (σ6.set i none) H6 s7 → Q s7) →
     wpAny (model X.prog X.w) X.A (do bindName X.env n .none; unbindBehindTheSuite X.env n pos') (fun _ s7 => Q s7) X.xe s6 := fun {σ6 H6 Q} S6 hq => gone_ok (S6.unsuite ok) hN hi hln hq
   cases f with
   | next =>
    obtain ⟨σ6, H6, S6, q6⟩ := hsp
    exact end_ S6 fun s7 J7 => ⟨_, _, J7, q6⟩
   | brk =>
    obtain ⟨σ6, H6, S6, q6⟩ := hsp
    exact end_ S6 fun s7 J7 => ⟨_, _, J7, q6⟩
   | cont =>
    obtain ⟨σ6, H6, S6, q6⟩ := hsp
    exact end_ S6 fun s7 J7 => ⟨_, _, J7, q6⟩
   | ret u =>
    obtain ⟨v6, σ6, H6, S6, r6, q6⟩ := hsp
    exact end_ S6 fun s7 J7 => ⟨_, _, _, J7, r6, q6⟩
  | false =>
   show wpAny _ X.A (handleBy (.ref a) X.env []) _ _ _
   refine wpAny_handleBy_nil ?_
   obtain ⟨k1, k2, k3, oe, vs, T, oT, ts', he, hz, hd, h1, hr⟩ := id fl3
   unfold PySem.passOn
   refine wpAny_bind (wpAny_field he hd h1 ?_)
   rw [if_neg (show ¬ ((Value.ref T == Value.none) = true) from by simp)]
   have fin : wpAny (model X.prog X.w) X.A (setFlight (.ref a) X.env.frame) (fun _ s4 => wpAny (model X.prog X.w) X.A (throw (.ref a) : Sem Flow) (SP X pins D) X.xe s4) X.xe { s' with heap := h3 } := by
    rw [hf]
    refine HandSPX.setFlight_upZ fl3 fun h4 hh4 up4 => wpAny_throw (tk _ _ ?_)
    exact ⟨a, B, sI, pins, σ', H', cls, d, rfl, J, nb, (up.trans up3).trans up4, .inr (.inr (by rw [hs]; exact hh4)), na, os, ag, hno rfl⟩
   first
    | exact wpAny_bind (wpAny_pure (wpAny_bind fin))
    | exact wpAny_bind fin
 ·cases f with
  | next =>
   obtain ⟨σ', H', J', q⟩ := hsp
   exact wpAny_execs_nil ⟨σ', H', J'.ofTry ok, q⟩
  | brk =>
   obtain ⟨σ', H', J', q⟩ := hsp
   exact ⟨σ', H', J'.ofTry ok, q⟩
  | cont =>
   obtain ⟨σ', H', J', q⟩ := hsp
   exact ⟨σ', H', J'.ofTry ok, q⟩
  | ret u =>
   obtain ⟨v, σ', H', J', r, q⟩ := hsp
   exact ⟨v, σ', H', J'.ofTry ok, r, q⟩
end
open LamX
section
variable {X : Cx} {pins : List (Addr × Obj)} {σ : L2.St} {H HZ : Hp} {s s1 : Shared}
theorem lam_takes {A : Around} {outer : List Env} {E : XK} {scope : Scope} {f c' : Addr} : L2.Takes (lamCx X A outer s H E scope f c') (fun cls d _ H' => E cls d H') := L2.takes_of rfl rfl rfl rfl
theorem act {CXg : CXT} {Eg : XK} {Ng : List Str} {qg : Str} {sg : Scope} {g f c' : Addr} {cdg pm ctv : Value} {params : Arguments} {body : Expr} {scope : Scope} {k i : Nat} {a : Str} {pn : List (Addr × Obj)} {xe : Value → Shared → Prop} {W : WX} {E : XK} {tb : TE} {p1 p2 : Pos}
  (I : Inv X pins σ H s) (L : LamS X.env.scope scope) (hf : s.heap.get? f = some (PySem.W.kla_obj "<lambda>" (X.env.qual ++ "<lambda>") params body scope (cloFrom X.env.cells scope.names []) pm c' ctv)) (hfn : H f = none) (hfr : f ∉ frs X.stack)
  (hbind : bindArgs (PySem.W.kla_fn "<lambda>" (X.env.qual ++ "<lambda>") params body scope (cloFrom X.env.cells scope.names []) pm (.ref c') ctv) ⟨[], []⟩ = pure [])
  (tk : L2.Takes ((cxOf CXg X.prog X.w X.K X.mg X.base Ng qg sg g cdg X.A X.stack s H Eg).tr pn xe) W) (hr : Room (k + 1) (X.A.deeper (envOfC qg sg s.heap.objs.size g cdg)))
  (hbody : ∀ (A : Around) (outer : List Env) (s : Shared) (H : Hp), Room k (A.deeper (lamEnv X scope s.heap.objs.size f c')) → PE (lamCx X A outer s H E scope f c') body tb)
  (hN : Ng[i]? = some a) (hv : Vis sg a) (hd : (a == ("__debug__" : Str)) = false := by decide) (hcd : (a == ("__classdict__" : Str)) = false := by decide) :
  PE ((cxOf CXg X.prog X.w X.K X.mg X.base Ng qg sg g cdg X.A X.stack s H Eg).tr pn xe) (.Call (.Name a p1) [] [] p2)
   (fun σZ HZ Q => (∀ cls d H', E cls d H' → W cls d σZ H') ∧ σZ[i]? = some (some (.ref f)) ∧ HZ c' = some (CodeO c' (X.env.qual ++ "<lambda>")) ∧ tb σ HZ Q) := by
 constructor
 intro pinsZ sZ σZ HZ Q IZ h
 obtain ⟨hW, hs, hc, ht⟩ := h
 refine wpAny_Call_Name_kw (thn ((pe_var (pos := p1) (i := i) hN hv hd hcd).run pinsZ sZ σZ HZ (fun v H1 => v = .ref f ∧ H1 = HZ) IZ ⟨.ref f, hs, rfl, rfl⟩) fun u s1 hq1 => ?_)
 obtain ⟨v, H1, I1, r1, ev, eH⟩ := hq1
 subst ev eH
 obtain rfl : u = Value.ref f := r1
 have gf := I1.base.keep f _ hf hfn hfr (fun z => nomatch (show f ∈ ([] : List Addr) from z))
 refine PySem.W.callWith_F0 ⟨_, _, _, _, gf⟩ ?_
 obtain ⟨⟨oc, vs, t, g1, g2, g3⟩, _, _⟩ := I1.hok c' _ hc
 have rc : codeAny (model X.prog X.w) (X.A.deeper (envOfC qg sg s.heap.objs.size g cdg)) (.call (.ref f) ⟨[], []⟩) (CR (L2.CX X.prog X.w) (envOfC qg sg s.heap.objs.size g cdg :: X.stack) X.prog X.w H1 s1 Q E) s1 := by
  refine PySem.W.kla_callFunE hr.depth gf rfl L.co L.gen rfl ⟨c', oc, vs, t, rfl, g1, g2, g3⟩ ?_
  rw [hbind]
  refine wpAny_pure (wpAny_newFunctionEnv (fun y hy => (L.own y hy).2) (fun y hy => absurd hy (by simp)) (fun h₁ hns hsb => ⟨I1.nolimit.fresh _ hsb, ?_⟩) L.kind)
  have J := lam_start2 (tk := s1.toks + ([] : List (Str × Value)).length) (E := E) (f := f) (c' := c') I L I1.env0 hr.hd I1.base hns (fun b o e => hsb.extBut b o (Nat.ne_of_lt (Heap.lt_size e)) (Heap.get?_push_of_some _ e))
  refine PySem.W.kla_codeExpr (wpAny_mono ((hbody _ _ s1 H1 (hr.deeper _)).run [] _ _ H1 Q J ht) (fun v s' hq => ?_) fun e s' hq => hq)
  obtain ⟨w', H', J', rv, q⟩ := hq
  exact ⟨w', H', J'.os, J'.bare, J'.base, J'.hok, rv, q⟩
 refine wpAny_call (codeAny_mono rc fun r s' hq => ?_)
 cases r with
 | error e => exact tk e s' (L2.XE.of_call I1 hW hq)
 | ok fl =>
  cases fl with
  | ret u => exact I1.after hq
  | next => exact False.elim hq
  | brk => exact False.elim hq
  | cont => exact False.elim hq
end
def Gives (X : Cx) (Ng : List Str) (x : Str) (sg : Scope) (g : Addr) (cdg : Value) (bg : List Stmt) (a q : Str) (k : Nat) (TT : (XK → Hp → VK → Prop) → Hp → VK → Prop) : Prop :=
 ∀ (f c' : Addr) (s : Shared) (H : Hp) (Q : VK) (tl : XK → Hp → VK → Prop), Room (k + 1) (X.A.deeper (envOfC x sg s.heap.objs.size g cdg)) →
  (∀ (W : WX) (pn : List (Addr × Obj)) (xe : Value → Shared → Prop) (E : XK) (p1 p2 : Pos), L2.Takes ((cxOf C8.CX0 X.prog X.w X.K X.mg X.base Ng x sg g cdg X.A X.stack s H C8.E0).tr pn xe) W →
   PE ((cxOf C8.CX0 X.prog X.w X.K X.mg X.base Ng x sg g cdg X.A X.stack s H C8.E0).tr pn xe) (.Call (.Name a p1) [] [] p2) (fun σZ HZ Q => (∀ cls d H', E cls d H' → W cls d σZ H') ∧ σZ[0]? = some (some (.ref f)) ∧ HZ c' = some (CodeO c' q) ∧ tl E HZ Q)) →
  H c' = some (CodeO c' q) → TT tl H Q →
  ∃ t, PSs (cxOf C8.CX0 X.prog X.w X.K X.mg X.base Ng x sg g cdg X.A X.stack s H C8.E0).nox bg t ∧ t { nx := fun _ H' => Q .non H', rt := Q } (L2.start Ng [.ref f]) H
section
variable {X : Cx}
theorem lamcall {T : List (Addr × Str)} {TT : (XK → Hp → VK → Prop) → Hp → VK → Prop} {x a : Str} {g c P : Addr} {k : Nat} {pg : Arguments} {bg : List Stmt} {sg : Scope} {dV kV doc pm cdv ct oc : Value} {an od : Option Addr} {osl : Array (Option Value)} {Ng : List Str}
  {params : Arguments} {body : Expr} {scope : Scope} {t : XK → TE} {p lpos pos : Pos} (hg : Gl X x) (hm : X.mg x = some (.ref g)) (hk : PySem.W.keepIn X.K (.ref g) = true)
  (lk : X.K.lookup g = some ⟨oc, od, .func (PySem.W.fnOf x x pg bg sg dV kV doc pm an cdv ct), osl⟩) (hcg : PySem.W.codeIn X.K cdv x = true) (hb : L2.Binds X.K (PySem.W.fnOf x x pg bg sg dV kV doc pm an cdv ct) [a] []) (Sg : FnScope Ng [a] sg) (hNg : Ng[0]? = some a) (hva : Vis sg a)
  (hG : Gives X Ng x sg g cdv bg a (X.env.qual ++ "<lambda>") k TT)
  (TB : TabB X.base X.mg c P) (hcode : X.env.code = .ref c) (hmT : (P, X.env.qual ++ "<lambda>") ∈ T) (hu : ∀ p ∈ T, p.1 = P → p.2 = X.env.qual ++ "<lambda>") (hr : Room (k + 2) X.A) (L : LamS X.env.scope scope) (hdef : defaultsOf params X.env = ([], []))
  (hbind : ∀ (q : Str) (cl : List (Str × Addr)) (pm cv ctv : Value), bindArgs (PySem.W.kla_fn "<lambda>" q params body scope cl pm cv ctv) ⟨[], []⟩ = pure [])
  (hbody : ∀ (A : Around) (outer : List Env) (s : Shared) (H : Hp) (E : XK) (f c' : Addr), Room k (A.deeper (lamEnv X scope s.heap.objs.size f c')) → PE (lamCx X A outer s H E scope f c') body (t E))
  (hdb : (x == ("__debug__" : Str)) = false := by decide) (hd : (a == ("__debug__" : Str)) = false := by decide) (hcd : (a == ("__classdict__" : Str)) = false := by decide) :
  PE X (.Call (.Name x p) [.Lambda params body scope lpos] [] pos) (tLam T TT t) := by
 constructor
 intro pins s σ H Q I h
 obtain ⟨hT, h⟩ := h
 refine wpAny_Call_Name_kw (ld_glob I hg hm ?_ hdb)
 refine PySem.W.callWith_K (h₀ := X.base) I.ok.mod.kin hk ?_ (by rfl) (by rfl)
 refine Calls.spliced_cons (lam_make2 I TB hcode hmT hu hT hdef (L.has I.ok) fun f c' pm' ctv H1 s' I1 eN T1 hf hfn hfr hco => ?_)
 refine Calls.spliced_nil ⟨I1.kIn, ?_⟩
 have rc : codeAny (model X.prog X.w) X.A (.call (.ref g) ⟨[.ref f], []⟩) (CR C8.CX0 X.stack X.prog X.w H1 s' Q C8.E0) s' := by
  refine run_ofS (N := Ng) (ps := [a]) (us := [.ref f]) (vs := [.ref f]) lk hcg Sg hr I1.env0 (hb s' [.ref f] I1.kIn rfl) (.cons rfl .nil) rfl fun hr' => ?_
  obtain ⟨t', ht', hq'⟩ := hG f c' s' H1 Q (fun E H' Q' => t E σ H' Q') hr' (fun W pn xe E p1 p2 tk => act (i := 0) I1 L hf hfn hfr (hbind _ _ _ _ _) tk hr' (fun A outer s H hr2 => hbody A outer s H E f c' hr2) hNg hva hd hcd) hco (h H1 eN T1)
  exact ⟨t', ht'.nox, hq'⟩
 refine wpAny_call (codeAny_mono rc fun r s2 hq => ?_)
 cases r with
 | error e => exact (show False from hq).elim
 | ok fl =>
  cases fl with
  | ret u => exact I1.after hq
  | next => exact False.elim hq
  | brk => exact False.elim hq
  | cont => exact False.elim hq
end
end L2T
namespace Z
open PySem PySem.Spec L2
open PyProof.Rows hiding St
abbrev SpZ := Addr → Value → Option Addr → SpP
structure FnZ (P : Program) (w : World) (K : PySem.W.Frag) (mg : Str → Option Value) (base : Heap) (k : Nat) (f : Addr) (fd : FuncData) (ps : List Str) (sp : Addr → Value → Option Addr → Sp) : Prop where
 len : ∀ a cls d vs H Q E, sp a cls d vs H Q E → vs.length = ps.length
 run : ∀ (A : Around) (outer : List Env) (s : Shared) (H : Hp) (args : Args) (us : List Value) (vs : List V) (Q : VK) (p : Addr × Obj) (cls : Value) (d : Option Addr), L2H.RoomH k A → L2.Zc cls d p.2 → (∃ xs, p.2.data = .fields xs) → L2H.PinOk outer H s p → Env0 P w K mg base A outer s H →
  BindsTo s fd args (ps.zip us) → Vals vs us → sp p.1 cls d vs H Q E0 → codeAny (model P w) A (.call (.ref f) args) (CR CX0 outer P w H s Q E0) s
section
variable {P : Program} {w : World} {K : PySem.W.Frag} {mg : Str → Option Value} {base : Heap} {T : List (Addr × Str)}
abbrev cxZ (P : Program) (w : World) (K : PySem.W.Frag) (mg : Str → Option Value) (base : Heap) (N : List Str) (qual : Str) (sc : Scope) (f : Addr) (cdv : Value) (A : Around) (outer : List Env) (s : Shared) (H : Hp) (E : XK) (p : Addr × Obj) : Cx :=
 (L2H.cxH CX0 P w K mg base N qual sc f cdv A outer s H E p).nox
theorem okPZ {x qual : Str} {st : Stmt} {f : Addr} {fd : FuncData} {N ps : List Str} {k : Nat} {sp : SpZ} (Fn : Fun K x qual st f fd) (S : FnScope N ps (defScope st)) (hl : ∀ a cls d args P, sp a cls d args P → args.length = ps.length) (hn : ps.length ≤ N.length)
  (hbody : ∀ (cdv : Value) (A : Around) (outer : List Env) (s : Shared) (H : Hp) (E : XK) (p : Addr × Obj) (cls : Value) (d : Option Addr), PinX (cxZ P w K mg base N qual (defScope st) f cdv A outer s H E p) p.1 cls d → L2H.RoomH k (A.deeper (envOfC qual (defScope st) s.heap.objs.size f cdv)) →
   ∃ ts, PSs (cxZ P w K mg base N qual (defScope st) f cdv A outer s H E p) (defBody st) (upS K T ts) ∧ ∀ args P, sp p.1 cls d args P → ts { nx := fun _ => P .non, rt := fun x _ => P x } (startP N.length args)) :
  FnZ P w K mg base (k + 1) f fd ps (fun a cls d => upSp K T (sp a cls d)) := by
 obtain ⟨oc, od, kV, doc, pm, an, cdv, ct, osl, rfl, lk, hcd⟩ := Fn.ex
 refine ⟨fun a cls d => len_sp (hl a cls d), fun A outer s H args us vs Q p cls d hr hz hf hpin e0 hb r hsp => ?_⟩
 have hlen := len_sp (hl p.1 cls d) _ _ _ _ hsp
 have KX : K.In s.heap := e0.mod.kin.keeps fun b o e => (e0.bs b o e).1
 have lim : s.heap.NoLimit := e0.mod.nolimit.keeps fun b o e => (e0.bs b o e).1
 have hkind : ∀ y ∈ ps.zip us, (defScope st).names.lookup y.1 = some .local ∨ ((defScope st).names.lookup y.1 = some .cell ∧ ((cellsFrom (s.heap.objs.size + 1) (defScope st).names []).lookup y.1).isSome = true) := fun ⟨n, v⟩ hy =>
  (S.par n (List.of_mem_zip hy).1).imp id fun q => ⟨q, PySem.W.cellsFrom_some _ _ _ (.inl q)⟩
 refine codeAny_call_function hr.depth (KX _ _ lk) rfl S.co S.gen rfl (PySem.W.codeRec_of KX hcd) (hb _ _ _ _ ?_)
 refine wpAny_newFunctionEnv_cells S.kind hkind fun env he s1 x => ?_
 subst he
 refine ⟨lim.keeps x.toInCall.keep, codeAny_func ?_⟩
 obtain ⟨ts, ht, rd⟩ := hbody cdv A outer s H E0 p cls d ⟨p.2, List.mem_singleton.mpr rfl, hz, hf⟩ (hr.deeper _)
 have hq := body_sp hsp (fun args P hs => by rw [hl _ _ _ _ _ hs]; exact hn) (N := N) rd
 have I := L2H.inv_startH (CX := CX0) (E := E0) S hpin e0 hlen r x
 refine wpAny_mono (ht.nox.run [] s1 (start N vs) H _ I hq) (fun fl s' hs => ?_) fun e s' hs => hs
 have fin : ∀ {σ' : St} {H' : Hp} {v : V} {u : Value}, Inv (L2H.cxH CX0 P w K mg base N qual (defScope st) f cdv A outer s H E0 p) [] σ' H' s' → RelV v u → Q v H' → CE outer P w H s Q u s' :=
  fun {σ' H' v u} J rv q => ⟨v, H', J.os, J.bare, J.base, J.hok, rv, q⟩
 cases fl with
 | ret u =>
  obtain ⟨v, σ', H', J, rv, q⟩ := hs
  exact fin J rv q
 | next =>
  obtain ⟨σ', H', J, q⟩ := hs
  exact fin (v := V.non) (u := Value.none) J rfl q
 | brk => exact False.elim hs.choose_spec.choose_spec.2
 | cont => exact False.elim hs.choose_spec.choose_spec.2
end
section
variable {X : Cx} {T : List (Addr × Str)} {e : Expr} {es : List Expr} {t : TAp} {pos p : Pos} {k : Nat} {f : Addr} {fd : FuncData} {ps : List Str} {sz : SpZ} {x : Str} {a : Addr} {cls : Value} {d : Option Addr}
theorem pe_callZ {S : Addr → Value → Option Addr → Sp} {ta : TA} (F : FnZ X.prog X.w X.K X.mg X.base k f fd ps S) (hr : L2H.RoomH k X.A) (hz : PinX X a cls d) (hg : Gl X x) (hm : X.mg x = some (.ref f)) (hk : PySem.W.keepIn X.K (.ref f) = true) (hb : Binds X.K fd ps [])
  (ha : PA X (e :: es) ta) (hdb : (x == ("__debug__" : Str)) = false := by decide) (he : starEach (e :: es) X.env = (false, eval e X.env) :: starEach es X.env := by rfl) (hpl : (backTo pos (starEach es X.env)).any (·.1) = false := by rfl) :
  PE X (.Call (.Name x p) (e :: es) [] pos) (tCall (S a cls d) [] E0 ta) := by
 constructor
 intro pins s σ H Q I h
 refine wpAny_Call_Name_kw (ld_glob I hg hm ?_ hdb)
 refine PySem.W.callWith_K (h₀ := X.base) I.ok.mod.kin hk (thn (ha.run pos pins s σ H _ I h) fun us s1 hq => ?_) he hpl
 obtain ⟨vs, H1, I1, r, q⟩ := hq
 refine ⟨I1.kIn, ?_⟩
 rw [List.append_nil] at q
 obtain ⟨oe, hp, hzc, hf⟩ := hz
 have hl : us.length = ps.length := by rw [← r.length]; exact F.len _ _ _ _ _ _ _ q
 have b := hb s1 us I1.kIn (by rw [List.append_nil]; exact hl)
 rw [List.append_nil] at b
 have P1 := I1.pin (a, oe) (List.mem_append_left _ hp)
 have hpin : L2H.PinOk X.stack H1 s1 (a, oe) := ⟨P1.1, P1.2.1, fun hm => (List.mem_cons.mp (I1.stkSub a hm)).elim P1.2.2.1 P1.2.2.2.1, P1.2.2.2.2⟩
 refine wpAny_call (codeAny_mono (F.run X.A X.stack s1 H1 ⟨us, []⟩ us vs Q (a, oe) cls d hr hzc hf hpin I1.env0 b r q) fun r s' hq => ?_)
 cases r with
 | error e => exact (show False from hq).elim
 | ok fl =>
  cases fl with
  | ret u => exact I1.after hq
  | next => exact False.elim hq
  | brk => exact False.elim hq
  | cont => exact False.elim hq
theorem z_callZ (F : FnZ X.prog X.w X.K X.mg X.base k f fd ps (fun a cls d => upSp X.K T (sz a cls d))) (hr : L2H.RoomH k X.A) (hz : PinX X a cls d) (hg : Gl X x) (hm : X.mg x = some (.ref f)) (hk : PySem.W.keepIn X.K (.ref f) = true) (hb : Binds X.K fd ps [])
  (ha : PA X (e :: es) (upA X.K T t)) (hdb : (x == ("__debug__" : Str)) = false := by decide) (he : starEach (e :: es) X.env = (false, eval e X.env) :: starEach es X.env := by rfl) (hpl : (backTo pos (starEach es X.env)).any (·.1) = false := by rfl) :
  PE X (.Call (.Name x p) (e :: es) [] pos) (up X.K T (tCallP (sz a cls d) [] t)) :=
 PE.weak (pe_callZ F hr hz hg hm hk hb ha hdb he hpl) fun σ H Q q => call_up (fun _ _ => .nil) q
end
def noSl : Sl → Sl
 | .va x => .va x
 | _ => .no
def noOwn (η : EP') : EP' := η.map noSl
section
variable {K : PySem.W.Frag} {T : List (Addr × Str)} {F : Addr → Prop} {σ : St} {η : EP'} {H H1 : Hp}
theorem noOwn_va {i : Nat} {x : PV} (h : (noOwn η)[i]? = some (.va x)) : η[i]? = some (.va x) := by
 unfold noOwn at h
 rw [List.getElem?_map] at h
 obtain ⟨s, hs, e⟩ := Option.map_eq_some_iff.mp h
 cases s <;> first | (cases e; exact hs) | cases e
theorem noOwn_ow {i : Nat} {o : Ow} (h : (noOwn η)[i]? = some (.ow o)) : False := by
 unfold noOwn at h
 rw [List.getElem?_map] at h
 obtain ⟨s, hs, e⟩ := Option.map_eq_some_iff.mp h
 cases s <;> cases e
theorem not_own {σ : St} {a : Addr} (h : IsOwn σ (noOwn η) a) : False := by
 obtain ⟨i, o, _, e⟩ := h
 exact noOwn_ow e
theorem Rs.none (R : Rs K T F σ η H) : Rs K T (Oof F σ η) σ (noOwn η) H := by
 refine ⟨by unfold noOwn; rw [List.length_map]; exact R.len, fun i x e => ?_, fun i o e => (noOwn_ow e).elim, fun i j o o' a e => (noOwn_ow e).elim, R.trO, R.tb⟩
 obtain ⟨v, h1, h2⟩ := R.va i x (noOwn_va e)
 exact ⟨v, h1, h2.mono fun b z => z.elim id fun z => (not_own z).elim⟩
theorem gr_none {σ' : St} {η' : EP'} (e : Ext σ (noOwn η) σ' η' H H1) : Gr H H1 := ⟨fun b o h t => e.keep b o h (fun z => not_own z) t, e.live⟩
theorem gr_extN (e : LamX.ExtN H H1) : Gr H H1 := ⟨e, fun b n z => n fun o h => Classical.byContradiction fun q => by
 have t : ∀ ps, o ≠ .tbl ps := fun ps y => q ⟨ps, y⟩
 exact z.no (e b o h t) t⟩
theorem Gr.trans {H2 : Hp} (a : Gr H H1) (b : Gr H1 H2) : Gr H H2 := ⟨fun c o h t => b.keep c o (a.keep c o h t) t, fun c n => b.live c (a.live c n)⟩
end
def stZ (f a : Addr) : St := [some (.ref f), some (.ref a)]
def ηZ (f a : Addr) (d : Option Addr) (fs : List (Str × PV)) : EP' := [.va (.raw (.ref f)), .va (.exn a d fs)]
def TTc (K : PySem.W.Frag) (T : List (Addr × Str)) (cs : List Value) (ret : Str) (tsu : Addr → Value → Option Addr → TSp) : (XK → Hp → VK → Prop) → Hp → VK → Prop := fun tl H Q =>
 ∀ f : Addr, tl (fun cls d H' => PySem.W.exmAny K cls cs = some true ∧ ∀ a, H' a = none → upS K T (tsu a cls d) { nx := fun _ H2 => Q .non H2, rt := Q } (stZ f a) H') H
  fun v H' => 2 ≤ sizeLine ∧ ∀ p, H' p = none → Q (.ref p) (upd H' p (.lst [.str ret, v]))
theorem caught_gives {X : Cx} {T : List (Addr × Str)} {Ng : List Str} {x a q ret n : Str} {sg : Scope} {g : Addr} {cdg : Value} {j ek k : Nat} {p1 p2 p3 p5 p6 p7 p8 np : Pos} {elts : List Expr} {cs : List Value} {b₀ : Stmt} {suite : List Stmt} {tsu : Addr → Value → Option Addr → TSp}
  (hN : Ng.Nodup) (h0 : Ng = [a, n]) (hln : sg.names.lookup n = some .local)
  (hc : ∀ (s : Shared) (H : Hp), L2N.NamesL (cxOf CX0 X.prog X.w X.K X.mg X.base Ng x sg g cdg X.A X.stack s H E0).nox elts cs) (hm : L2N.TupM X.prog X.w X.K cs) (hl : cs.length ≤ 1000)
  (hsu : ∀ (s : Shared) (H : Hp), Room (k + 1) (X.A.deeper (envOfC x sg s.heap.objs.size g cdg)) → ∀ (a : Addr) (oe : Obj) (cls : Value) (d : Option Addr) (pn : List (Addr × Obj)), L2.Zc cls d oe → (∃ vs, oe.data = .fields vs) →
   PSs ((cxOf CX0 X.prog X.w X.K X.mg X.base Ng x sg g cdg X.A X.stack s H E0).nox.suite a ((a, oe) :: pn)) (b₀ :: suite) (upS X.K T (tsu a cls d))) :
  L2T.Gives X Ng x sg g cdg [.Try [.Return (some (.List [.Constant (.str ret) j p5, .Call (.Name a p1) [] [] p2] p6)) p3] [.ExceptHandler (some (.Tuple elts ek np)) (some n) (b₀ :: suite) p7] [] [] p8] a q k (TTc X.K T cs ret tsu) := by
 intro f c' s H Q tl hr act hc' h
 subst h0
 refine ⟨_, pss_one (L2T.ps_try_tup_as (X := (cxOf CX0 X.prog X.w X.K X.mg X.base [a, n] x sg g cdg X.A X.stack s H E0).nox) (i := 1) (Wout := fun _ _ _ _ => False)
   (tb := fun W D σ H => ∃ Ech : XK, (∀ cls d H', Ech cls d H' → W cls d σ H') ∧ σ[0]? = some (some (.ref f)) ∧ H c' = some (LamX.CodeO c' q) ∧ tl Ech H fun v H' => 2 ≤ sizeLine ∧ ∀ p, H' p = none → D.rt (.ref p) (upd H' p (.lst [.str ret, v])))
   (ts := fun a cls d => upS X.K T (tsu a cls d)) rfl rfl hN rfl hln (hc s H) hm hl LamX.takes0 (fun W pn xe tk _ => ?_) (hsu s H hr)), ?_⟩
 ·constructor
  intro pins s' σ H' D I h'
  obtain ⟨Ech, h1, h2, h3, h4⟩ := h'
  exact (pss_one (ps_ret (pe_lst (pa_cons pe_str (pa_cons (act W pn xe Ech p1 p2 tk) pa_nil))))).run pins s' σ H' D I ⟨h1, h2, h3, h4⟩
 ·refine ⟨_, fun cls d H' hE => ?_, rfl, hc', h f⟩
  obtain ⟨hx, hs⟩ := hE
  exact ⟨true, hx, fun _ a na => hs a na, fun z => by cases z⟩
def tCaughtP (K : PySem.W.Frag) (cs : List Value) (ret : Str) (te : TXp) (tsu : Addr → Value → Option Addr → TSp) : TEp := fun η P => te (noOwn η) (fun x _ => P (.lst [.str ret, x]) η) fun C fs _ => PySem.W.exmAny K (.ref C) cs = some true ∧
 ∀ (f a : Addr) (d : Option Addr), (fs = [] ∨ d.isSome) → tsu a (.ref C) d { nx := fun _ => P .non η, rt := fun y _ => P y η } (ηZ f a d fs)
theorem caught_up {K : PySem.W.Frag} {T : List (Addr × Str)} {cs : List Value} {ret : Str} {te : TXp} {tsu : Addr → Value → Option Addr → TSp} {σ : St} {H : Hp} {Q : VK} (q : up K T (tCaughtP K cs ret te tsu) σ H Q) :
  LamX.tLam T (TTc K T cs ret tsu) (fun E => upX K T (fun cls d _ H' => E cls d H') te) σ H Q := by
 obtain ⟨F, η, P, R, h, k⟩ := q
 refine ⟨R.tb, fun H1 eN T1 f => ?_⟩
 have g1 := gr_extN eN
 have R1 := R.gr g1 T1
 refine ⟨Oof F σ η, noOwn η, _, _, R1.none, h, fun x η' v H' hp e R' r' => ?_, fun C fs η' d σ' H' hz e R' xa => ?_⟩
 ·have g2 := gr_none e
  have R2 := R1.gr g2 R'.tb
  refine ⟨by decide, fun p hp' => ?_⟩
  have sm := Same.new (o := .lst [.str ret, v]) hp'
  have hr : Reps K (Oof F σ η) H' [.str ret, x] [.str ret, v] := by
   unfold Reps
   exact ⟨.str ret, [v], rfl, by unfold Rep; rfl, by unfold Reps; exact ⟨v, [], rfl, r'.mono fun b z => .inl z, by unfold Reps; rfl⟩⟩
  exact k _ η _ _ hp ((g1.trans g2).ext.trans (.same sm)) (R2.same sm) (rep_newL R2.trO hp' hr)
 ·obtain ⟨hx, hs⟩ := hz
  refine ⟨hx, fun a na => ?_⟩
  have g2 := gr_none e
  have R2 := R1.gr g2 R'.tb
  have x2 : XAt K (Oof F σ η) H' d fs := xa.mono fun b z => .inl z
  have own0 : ∀ b, ¬ IsOwn (stZ f a) (ηZ f a d fs) b := fun b ⟨i, o, _, e⟩ => by
   match i, e with
   | 0, e => cases e
   | 1, e => cases e
   | _ + 2, e => cases e
  have RZ : Rs K T (Oof F σ η) (stZ f a) (ηZ f a d fs) H' := by
   refine ⟨rfl, fun i y e => ?_, fun i o e => ?_, fun i j o o' b e => ?_, R2.trO, R2.tb⟩
   ·match i, e with
    | 0, e => cases e; exact ⟨_, rfl, by unfold Rep; rfl⟩
    | 1, e => cases e; exact ⟨_, rfl, (x2.rep a).mono fun b z => z.elim id fun z => (own0 b z).elim⟩
    | _ + 2, e => cases e
   ·match i, e with
    | 0, e => cases e
    | 1, e => cases e
    | _ + 2, e => cases e
   ·match i, e with
    | 0, e => cases e
    | 1, e => cases e
    | _ + 2, e => cases e
  have gZ : ∀ {σ3 : St} {η3 : EP'} {H3 : Hp}, Ext (stZ f a) (ηZ f a d fs) σ3 η3 H' H3 → Gr H' H3 := fun e => ⟨fun b o h t => e.keep b o h (own0 b) t, e.live⟩
  refine ⟨Oof F σ η, ηZ f a d fs, _, RZ, hs f a d x2.some, fun η3 σ3 H3 q3 e3 R3 => ?_, fun _ _ _ q => q.elim, fun _ _ _ q => q.elim, fun y η3 σ3 v H3 q3 e3 R3 r3 => ?_⟩
  ·have g3 := (g1.trans g2).trans (gZ e3)
   exact k _ η _ _ q3 g3.ext (R.gr g3 R3.tb) rep_non
  ·have g3 := (g1.trans g2).trans (gZ e3)
   exact k _ η _ _ q3 g3.ext (R.gr g3 R3.tb) (r3.mono fun b z => .inl z)
theorem roomH65 {k : Nat} {A : Around} (h : L2H.RoomH k A) : A.units + 65 < cLine := by have := h.un; omega
theorem roomH_mark {k : Nat} {A : Around} {v : Option Value} (h : Room k A) : L2H.RoomH k (A.mark v) := ⟨h.dp, h.un⟩
theorem strs_reps {K : PySem.W.Frag} {O : Addr → Prop} {H : Hp} : ∀ ys : List Str, Reps K O H (ys.map PV.str) (ys.map V.str)
 | [] => by unfold Reps; rfl
 | y :: ys => by
  rw [List.map_cons, List.map_cons]
  unfold Reps
  exact ⟨.str y, ys.map V.str, rfl, by unfold Rep; rfl, strs_reps ys⟩
section
variable {X : Cx} {T : List (Addr × Str)} {W : WXs} {a b e o : Expr} {es : List Expr} {te ta tb to : TEp} {t : TAp} {pos p apos : Pos} {k : Nat} {f C g : Addr} {fd : FuncData} {ps : List Str} {sp : SpX} {x m : Str}
def tSplitP (to te : TEp) : TEp := fun η P => to η fun x η1 => (∃ z, x = .str z) ∧ te η1 fun y η2 => ∃ a b, x = .str a ∧ y = .str b ∧ (b.length == 0) = false ∧ a.length + 2 ≤ sizeLine ∧ P (.lst ((Txt.split a b).map .str)) η2
theorem z_split {K0 : PySem.W.Frag} (hK : X.K = K0)
  (pf : PE X e (tM1 (fun x xs H Q => ∃ a b, x = .str a ∧ xs = [.str b] ∧ (b.length == 0) = false ∧ a.length + 2 ≤ sizeLine ∧ rNewStrs (Txt.split a b) H Q) (up K0 T to) (up K0 T te))) : PE X e (up K0 T (tSplitP to te)) := by
 subst hK
 refine PE.weak pf fun σ H Q q => ?_
 obtain ⟨F, η, P, R, h, k⟩ := q
 refine ⟨F, η, _, R, h, fun x η1 v H1 h1 e1 R1 r1' => ?_⟩
 obtain ⟨⟨z, rfl⟩, h1⟩ := h1
 cases r1'.str_
 refine ⟨⟨z, rfl⟩, F, η1, _, R1, h1, fun y η2 w H2 h2 e2 R2' rw' => ?_⟩
 obtain ⟨a, b, hx, rfl, hb, hz, hp⟩ := h2
 cases hx
 cases rw'.str_
 exact ⟨z, b, rfl, rfl, hb, hz, fun p hp' => k _ η2 _ _ hp ((e1.trans e2).trans (.same (Same.new hp'))) (R2'.same (Same.new hp')) (rep_newL R2'.trO hp' (strs_reps _))⟩
end
section
variable {X : Cx} {T : List (Addr × Str)}
theorem z_caught {x n a ret : Str} {st : Stmt} {g c P : Addr} {fd : FuncData} {k j ek : Nat} {params : Arguments} {body : Expr} {scope : Scope} {p lpos pos p1 p2 p3 p5 p6 p7 p8 np : Pos} {elts : List Expr} {cs : List Value} {b₀ : Stmt} {suite : List Stmt} {te : TXp} {tsu : Addr → Value → Option Addr → TSp}
  (Fn : Fun X.K x x st g fd) (S : FnScope [a, n] [a] (defScope st))
  (hbd : defBody st = [.Try [.Return (some (.List [.Constant (.str ret) j p5, .Call (.Name a p1) [] [] p2] p6)) p3] [.ExceptHandler (some (.Tuple elts ek np)) (some n) (b₀ :: suite) p7] [] [] p8])
  (hva : (defScope st).names.lookup a = some .local) (hln : (defScope st).names.lookup n = some .local) (hb : Binds X.K fd [a] []) (hg : Gl X x) (hm : X.mg x = some (.ref g)) (hk : PySem.W.keepIn X.K (.ref g) = true)
  (hc : ∀ (cdv : Value) (s : Shared) (H : Hp), L2N.NamesL (cxOf CX0 X.prog X.w X.K X.mg X.base [a, n] x (defScope st) g cdv X.A X.stack s H E0).nox elts cs) (hm3 : L2N.TupM X.prog X.w X.K cs) (hl : cs.length ≤ 1000)
  (hsu : ∀ (cdv : Value) (s : Shared) (H : Hp), Room (k + 1) (X.A.deeper (envOfC x (defScope st) s.heap.objs.size g cdv)) → ∀ (e : Addr) (oe : Obj) (cls : Value) (d : Option Addr) (pn : List (Addr × Obj)), L2.Zc cls d oe → (∃ vs, oe.data = .fields vs) →
   PSs ((cxOf CX0 X.prog X.w X.K X.mg X.base [a, n] x (defScope st) g cdv X.A X.stack s H E0).nox.suite e ((e, oe) :: pn)) (b₀ :: suite) (upS X.K T (tsu e cls d)))
  (TB : LamX.TabB X.base X.mg c P) (hcode : X.env.code = .ref c) (hmT : (P, X.env.qual ++ "<lambda>") ∈ T) (hu : ∀ q ∈ T, q.1 = P → q.2 = X.env.qual ++ "<lambda>") (hr : Room (k + 2) X.A) (L : LamX.LamS X.env.scope scope) (hdef : defaultsOf params X.env = ([], []))
  (hbind : ∀ (q : Str) (cl : List (Str × Addr)) (pm cv ctv : Value), bindArgs (PySem.W.kla_fn "<lambda>" q params body scope cl pm cv ctv) ⟨[], []⟩ = pure [])
  (hbody : ∀ (A : Around) (outer : List Env) (s : Shared) (H : Hp) (E : XK) (f c' : Addr), Room k (A.deeper (LamX.lamEnv X scope s.heap.objs.size f c')) → PE (LamX.lamCx X A outer s H E scope f c') body (upX X.K T (fun cls d _ H' => E cls d H') te))
  (hdb : (x == ("__debug__" : Str)) = false := by decide) (hd : (a == ("__debug__" : Str)) = false := by decide) (hcd : (a == ("__classdict__" : Str)) = false := by decide) :
  PE X (.Call (.Name x p) [.Lambda params body scope lpos] [] pos) (up X.K T (tCaughtP X.K cs ret te tsu)) := by
 obtain ⟨oc, od, kV, doc, pm, an, cdv, ct, osl, rfl, lk, hcd2⟩ := Fn.ex
 have hG : L2T.Gives X [a, n] x (defScope st) g cdv (defBody st) a (X.env.qual ++ "<lambda>") k (TTc X.K T cs ret tsu) := by
  rw [hbd]
  exact caught_gives S.nd rfl hln (hc cdv) hm3 hl (hsu cdv)
 exact PE.weak (L2T.lamcall (t := fun E => upX X.K T (fun cls d _ H' => E cls d H') te) hg hm hk lk hcd2 hb S rfl (.inl hva) hG TB hcode hmT hu hr L hdef hbind hbody hdb hd hcd) fun σ H Q q => caught_up q
end
end Z
namespace L2N
open PySem PySem.Spec PyProof.Rows L2
section
variable {X : Cx} {n : Str} {cs : List Value} {elts : List Expr} {ek : Nat} {i : Nat} {body suite : List Stmt} {b₀ : Stmt} {np pos pos' : Pos} {tb : WX → TS} {ts : Addr → Value → Option Addr → TS} {Wout : WX}
theorem takesN (tk : L2.Takes X Wout) : Takes X Wout := fun u s' ⟨a, B, sI, pins, σ, H, cls, d, e, I, nb, up, sky, na, os, ag, w⟩ => tk u s' ⟨a, B, sI, pins, σ, H, cls, d, e, I, nb, up, by
 rcases sky with ⟨h1, h2, h3, oe, vs, h4, h5, h6⟩ | fl | ⟨k1, k2, k3, k4⟩
 ·exact .inl ⟨h1, h2, h3, oe, vs, h4, h5.zc, h6⟩
 ·exact .inr (.inl (L2H.flyingZ_imp (fun o z => z.zc) fl))
 ·exact .inr (.inr ⟨k1, k2, k3, L2H.tracedZ_imp (fun o z => z.zc) k4⟩), na, os, ag, w⟩
end
end L2N
namespace ZX
open PySem PySem.Spec PyProof.Rows L2
end ZX
namespace Z
open PySem PySem.Spec L2
open PyProof.Rows hiding St
section
variable {X : Cx} {T : List (Addr × Str)} {W : WXs} {a b e o : Expr} {es : List Expr} {te ta tb : TEp} {t : TAp} {tf : TFp} {pos pos' p apos cpos np : Pos} {k : Nat} {f C : Addr} {fd : FuncData} {ps : List Str} {sp : SpX} {sr : SpRX} {x m : Str}
theorem new_upX {dvs : List V} {dps : List PV} (hp : ∀ O H, Reps X.K O H dps dvs) {σ : St} {H : Hp} {Q : VK} (q : upX X.K T W (tNewX C sr dps t) σ H Q) : tMakeSD C (upSpRX X.K T sr) dvs (WE W) (upA X.K T t) σ H Q := by
 obtain ⟨F, η, P, Zw, R, h, k, kx⟩ := q
 refine ⟨F, η, _, R, h, fun args η1 vs H1 h1 e1 R1 r1 x dx nx ndx nex => ?_⟩
 have s1 : Same H1 (upd (upd H1 dx (.own x)) x (.ins C dx [])) := fun b u hb => by
  rw [upd_ne (ne_of_none hb nx), upd_ne (ne_of_none hb ndx)]; exact hb
 have nO : ¬ Oof F σ η1 x := fun z => R1.trO x z (Nw.of nx)
 have c1 : Car (Oof F σ η1) (With (Oof F σ η1) x) H1 (upd (upd H1 dx (.own x)) x (.ins C dx [])) := fun b u n hb _ => ⟨s1 b u hb, fun z => z.elim n (ne_of_none hb nx)⟩
 have gr : ∀ {H2 : Hp}, GrB x (upd (upd H1 dx (.own x)) x (.ins C dx [])) H2 → Gr H1 H2 := fun g => ⟨fun b u hb t => g.keep b u (ne_of_none hb nx) (s1 b u hb) t, fun b hb => g.live b fun q => hb fun o z => q o (s1 b o z)⟩
 refine ⟨Oof F σ η1, x, _, .o C [], _, _, _, rfl, nO, R1.trO.same s1, R1.tb.ext s1, ⟨dx, [], upd_same, by unfold RepF; rfl⟩, (r1.car c1).app (hp _ _), h1, fun z o' v H2 pz g tb ho' rz => ?_, fun C' fs d H2 z g tb xa => ?_⟩
 ·obtain ⟨rfl, fs, rfl, pz⟩ := pz
  obtain ⟨dx', ws, hx, rf⟩ := ho'
  refine ⟨rz.non_, k _ η1 _ H2 pz (e1.trans (gr g).ext) (R1.gr (gr g) tb) ?_⟩
  unfold Rep
  exact ⟨x, dx', ws, rfl, nO, hx, rf.mono fun b z => .inl z⟩
 ·exact kx C' fs η1 d σ H2 z (e1.trans (gr g).ext) (R1.gr (gr g) tb) xa
theorem pe_makeL {i : Nat} {t : TA} {dvs : List V} {ds : List Value} {S : Sp} {E : St → XK} (M : Mk X.K C f) (Fn : FnOk X.prog X.w X.K X.mg X.base (L2N.CX X.prog X.w) k f fd ps S) (hr : Room (k + 1) X.A) (hN : X.N[i]? = some x) (hv : Vis X.env.scope x) (hb : Binds X.K fd ps ds) (hd : Vals dvs ds) (hx : ∀ σ, PassesAt (L2N.CX X.prog X.w) X σ (E σ))
  (ha : PA X (e :: es) t) (hdb : (x == ("__debug__" : Str)) = false := by decide) (hcd : (x == ("__classdict__" : Str)) = false := by decide) (he : starEach (e :: es) X.env = (false, eval e X.env) :: starEach es X.env := by rfl) (hpl : (backTo pos (starEach es X.env)).any (·.1) = false := by rfl) :
  PE X (.Call (.Name x p) (e :: es) [] pos) (fun σ H Q => σ[i]? = some (some (.ref C)) ∧ tMakeSD C S dvs E t σ H Q) := by
 constructor
 intro pins s σ H Q I h
 obtain ⟨hs, h⟩ := h
 refine wpAny_Call_Name_kw (thn ((pe_var (pos := p) (i := i) hN hv hdb hcd).run pins s σ H (fun v H1 => v = .ref C ∧ H1 = H) I ⟨.ref C, hs, rfl, rfl⟩) fun u s1 hq1 => ?_)
 obtain ⟨v, H1, I1, r1, ev, eH⟩ := hq1
 subst ev eH
 obtain rfl : u = Value.ref C := r1
 refine PySem.W.callWith_K (h₀ := X.base) I1.ok.mod.kin M.kp (thn (ha.run pos pins s1 σ H1 _ I1 h) fun us s2 hq2 => ?_) he hpl
 obtain ⟨vs, H2, I2, r, q⟩ := hq2
 exact ⟨I2.kIn, run_makeSD M Fn hr hb hd (fun H s e s' J c => hx σ pins H s e s' J c) I2 r q⟩
def tNewLX (i : Nat) (C : Addr) (sr : SpRX) (dps : List PV) (t : TAp) : TXp := fun η P Zw => η[i]? = some (.va (.raw (.ref C))) ∧ tNewX C sr dps t η P Zw
theorem zx_newL {i : Nat} {dvs : List V} {ds : List Value} {dps : List PV} (M : Mk X.K C f) (Fn : FnOk X.prog X.w X.K X.mg X.base (L2N.CX X.prog X.w) k f fd ps (upSpRX X.K T sr)) (tk : L2N.Takes X W) (hr : Room (k + 1) X.A) (hN : X.N[i]? = some x) (hv : Vis X.env.scope x) (hb : Binds X.K fd ps ds) (hd : Vals dvs ds) (hp : ∀ O H, Reps X.K O H dps dvs)
  (ha : PA X (e :: es) (upA X.K T t)) (hdb : (x == ("__debug__" : Str)) = false := by decide) (hcd : (x == ("__classdict__" : Str)) = false := by decide) (he : starEach (e :: es) X.env = (false, eval e X.env) :: starEach es X.env := by rfl) (hpl : (backTo pos (starEach es X.env)).any (·.1) = false := by rfl) :
  PE X (.Call (.Name x p) (e :: es) [] pos) (upX X.K T W (tNewLX i C sr dps t)) := by
 refine PE.weak (pe_makeL (i := i) M Fn hr hN hv hb hd (L2N.passAt tk) ha hdb hcd he hpl) fun σ H Q q => ?_
 obtain ⟨F, η, P, Zw, R, ⟨h0, h⟩, k, kx⟩ := q
 refine ⟨?_, new_upX hp ⟨F, η, P, Zw, R, h, k, kx⟩⟩
 obtain ⟨v, h1, h2⟩ := R.va i _ h0
 unfold Rep at h2
 subst h2
 exact h1
end
structure FunC (K : PySem.W.Frag) (x qual : Str) (st : Stmt) (c f : Addr) (fd : FuncData) : Prop where
 ex : ∃ (oc : Value) (od : Option Addr) (kV doc pm : Value) (an : Option Addr) (ct : Value) (osl : Array (Option Value)),
  fd = PySem.W.fnOf x qual (defArgs st) (defBody st) (defScope st) .none kV doc pm an (.ref c) ct ∧ K.lookup f = some ⟨oc, od, .func fd, osl⟩ ∧ PySem.W.codeIn K (.ref c) qual = true
 kp : PySem.W.keepIn K (.ref f) = true
section
variable {P : Program} {w : World} {K : PySem.W.Frag} {mg : Str → Option Value} {base : Heap} {T : List (Addr × Str)}
theorem FunC.fn {x qual : Str} {st : Stmt} {c f : Addr} {fd : FuncData} (F : FunC K x qual st c f fd) : Fun K x qual st f fd := by
 obtain ⟨oc, od, kV, doc, pm, an, ct, osl, h1, h2, h3⟩ := F.ex
 exact ⟨⟨oc, od, kV, doc, pm, an, .ref c, ct, osl, h1, h2, h3⟩, F.kp⟩
end
def keyD : Key → PyData
 | .inl i => .int i
 | .inr x => .str x
def toKv : List (Key × PV) → Option (List (PyData × PyData))
 | [] => some []
 | (k, x) :: r => match toD x, toKv r with
  | some d, some ds => some ((keyD k, d) :: ds)
  | _, _ => none
mutual
def toE : PV → Option PyData
 | .non => some .none
 | .bl b => some (.bool b)
 | .int i => some (.int i)
 | .str x => some (.str x)
 | .tup xs => (toEs xs).map .tuple
 | .lst xs => (toEs xs).map .list
 | .pln xs => (toEs xs).map .tuple
 | .dic kvs => (toKv kvs).map .dict
 | .scr _ => none
 | .ins _ _ => none
 | .raw _ => none
 | .exn _ _ _ => none
def toEs : List PV → Option (List PyData)
 | [] => some []
 | x :: xs => match toE x, toEs xs with
  | some d, some ds => some (d :: ds)
  | _, _ => none
end
theorem toEs_cons {x : PV} {xs : List PV} {ds : List PyData} (h : toEs (x :: xs) = some ds) : ∃ d r, ds = d :: r ∧ toE x = some d ∧ toEs xs = some r := by
 unfold toEs at h
 split at h
 ·rename_i d r h1 h2
  cases h
  exact ⟨d, r, rfl, h1, h2⟩
 ·cases h
theorem toKv_cons {k : Key} {x : PV} {xs : List (Key × PV)} {ds : List (PyData × PyData)} (h : toKv ((k, x) :: xs) = some ds) : ∃ d r, ds = (keyD k, d) :: r ∧ toD x = some d ∧ toKv xs = some r := by
 unfold toKv at h
 split at h
 ·rename_i d r h1 h2
  cases h
  exact ⟨d, r, rfl, h1, h2⟩
 ·cases h
mutual
theorem noDict_toD : ∀ (x : PV) (d : PyData), toD x = some d → d.hasDict = false
 | .non, _, e => by unfold toD at e; cases e; simp only [PyData.hasDict]
 | .bl _, _, e => by unfold toD at e; cases e; simp only [PyData.hasDict]
 | .int _, _, e => by unfold toD at e; cases e; simp only [PyData.hasDict]
 | .str _, _, e => by unfold toD at e; cases e; simp only [PyData.hasDict]
 | .tup xs, _, e => by
  unfold toD at e
  obtain ⟨ds, q, rfl⟩ := Option.map_eq_some_iff.mp e
  simp only [PyData.hasDict]; exact noDict_toDs xs ds q
 | .lst xs, _, e => by
  unfold toD at e
  obtain ⟨ds, q, rfl⟩ := Option.map_eq_some_iff.mp e
  simp only [PyData.hasDict]; exact noDict_toDs xs ds q
 | .pln xs, _, e => by
  unfold toD at e
  obtain ⟨ds, q, rfl⟩ := Option.map_eq_some_iff.mp e
  simp only [PyData.hasDict]; exact noDict_toDs xs ds q
 | .scr _, _, e => by unfold toD at e; cases e
 | .ins _ _, _, e => by unfold toD at e; cases e
 | .dic _, _, e => by unfold toD at e; cases e
 | .raw _, _, e => by unfold toD at e; cases e
 | .exn _ _ _, _, e => by unfold toD at e; cases e
theorem noDict_toDs : ∀ (xs : List PV) (ds : List PyData), toDs xs = some ds → PyData.hasDictAll ds = false
 | [], _, e => by unfold toDs at e; cases e; simp only [PyData.hasDictAll]
 | x :: xs, _, e => by
  obtain ⟨d, ds, rfl, h1, h2⟩ := toDs_cons e
  simp only [PyData.hasDictAll, noDict_toD x d h1, noDict_toDs xs ds h2, Bool.or_self]
end
structure Shown (P : Program) (w : World) (h : Heap) (u : Value) (d : PyData) : Prop where
 ex : ∃ as bs, Reads h u d as ∧ ReadAtMost h d.depth bs ∧ ReprK P w bs h d.depth u d.shown
structure ShownAll (P : Program) (w : World) (h : Heap) (us : List Value) (ds : List PyData) : Prop where
 ex : ∃ as bs, ReadsAll h us ds as ∧ ReadAtMost h (PyData.depthAll ds) bs ∧ ReprAllK P w bs h (PyData.depthAll ds) us (PyData.shownAll ds)
section
variable {P : Program} {w : World} {h : Heap}
theorem shown_flat {u : Value} {d : PyData} {as : List Addr} (r : Reads h u d as) (hd : d.hasDict = false) (hs : d.showable = true) (hz : d.shown.length ≤ sizeLine) : Shown P w h u d :=
 let ⟨bs, b1, b2⟩ := ReprK.of_reads (prog := P) (w := w) r hs (PyData.noDict_hsm hd) hz
 ⟨as, bs, r, b1, b2⟩
theorem ShownAll.cons {u : Value} {us : List Value} {d : PyData} {ds : List PyData} (a : Shown P w h u d) (b : ShownAll P w h us ds) : ShownAll P w h (u :: us) (d :: ds) := by
 obtain ⟨as, bs, r1, m1, k1⟩ := a.ex
 obtain ⟨cs, es, r2, m2, k2⟩ := b.ex
 have l1 : d.depth ≤ PyData.depthAll (d :: ds) := by simp only [PyData.depthAll]; omega
 have l2 : PyData.depthAll ds ≤ PyData.depthAll (d :: ds) := by simp only [PyData.depthAll]; omega
 refine ⟨as ++ cs, bs ++ es, .cons r1 r2, (m1.mono l1).append (m2.mono l2), ?_⟩
 rw [PyData.shownAll]
 exact .cons ((k1.more fun b z => List.mem_append.mpr (.inl z)).level_le l1) (k2.more_le (fun b z => List.mem_append.mpr (.inr z)) l2)
theorem shown_list {a : Addr} {o : Obj} {vs : List Value} {n : Nat} {ds : List PyData} (ho : h.get? a = some o) (hc : o.cls = .type "list") (hd : o.data = .seq vs.toArray n) (q : ShownAll P w h vs ds) : Shown P w h (.ref a) (.list ds) := by
 obtain ⟨as, bs, r, m, k⟩ := q.ex
 have rr : Reads h (.ref a) (.list ds) (a :: as) := .list ho hc hd r
 have lt : PyData.depthAll ds < (PyData.list ds).depth := by simp only [PyData.depth]; omega
 have nin := not_mem_of_deeper rr lt m
 refine ⟨_, a :: bs, rr, ReadAtMost.cons rr (Nat.le_of_lt lt) m, ?_⟩
 rw [PyData.depth, PyData.shown]
 cases vs with
 | nil =>
  cases r
  rw [PyData.shownAll, listText_nil]
  exact ReprK.listEmpty ho hc hd
 | cons v vs => exact ReprK.list ho hc hd nin (by rw [k.length_eq]; rfl) fun i y e => k.item i y (by simpa using e)
theorem shown_tup {a : Addr} {o : Obj} {vs : List Value} {n : Nat} {ds : List PyData} (ho : h.get? a = some o) (hc : o.cls = .type "tuple") (hd : o.data = .seq vs.toArray n) (q : ShownAll P w h vs ds) : Shown P w h (.ref a) (.tuple ds) := by
 obtain ⟨as, bs, r, m, k⟩ := q.ex
 have rr : Reads h (.ref a) (.tuple ds) as := .tuple ho hc hd r
 have lt : PyData.depthAll ds < (PyData.tuple ds).depth := by simp only [PyData.depth]; omega
 have nin := not_mem_of_deeper rr lt m
 refine ⟨_, a :: bs, rr, ReadAtMost.cons rr (Nat.le_of_lt lt) m, ?_⟩
 rw [PyData.depth, PyData.shown]
 exact ReprK.tuple ho hc hd nin k
end
structure DShow (P : Program) (w : World) (h : Heap) (es : List DictEntry) (kvs : List (PyData × PyData)) : Prop where
 ex : ∃ as bs cs, ReadsAll h (es.map (·.key)) (kvs.map (·.1)) as ∧ ReadsAll h (es.map (·.val)) (kvs.map (·.2)) bs ∧ ReadAtMost h (PyData.depthKv kvs) cs ∧ ReprEntriesK P w cs h (PyData.depthKv kvs) es (PyData.shownKv kvs)
section
variable {X : Cx} {pins : List (Addr × Obj)} {σ : L2.St} {H : Hp} {s : Shared} {O : Addr → Prop}
theorem kv_reads (I : Inv X pins σ H s) : ∀ {kvs : List (Key × PV)} {ws : List (Key × V)} {vs : List (Key × Value)} {es : List DictEntry} {ds : List (PyData × PyData)}, RepD X.K O H kvs ws → KV ws vs → Pairs (mixKind X.prog X.w) es vs → toKv kvs = some ds →
  ∃ as bs, ReadsAll s.heap (es.map (·.key)) (ds.map (·.1)) as ∧ ReadsAll s.heap (es.map (·.val)) (ds.map (·.2)) bs ∧ PyData.hasDictAll (ds.map (·.1)) = false ∧ PyData.hasDictAll (ds.map (·.2)) = false
 | [], _, _, _, _, r, k, p, e => by
  rw [r.inv0] at k
  cases k
  cases p
  unfold toKv at e
  cases e
  exact ⟨[], [], .nil, .nil, by simp only [List.map_nil, PyData.hasDictAll], by simp only [List.map_nil, PyData.hasDictAll]⟩
 | (n, x) :: kvs, _, _, _, _, r, k, p, e => by
  obtain ⟨v, us, rfl, r1, r2⟩ := r.inv
  obtain ⟨d, ds, rfl, h1, h2⟩ := toKv_cons e
  cases k with
  | cons hk k2 =>
   rename_i q vs
   cases p with
   | cons pk pv p2 =>
    rename_i en es
    obtain ⟨as, bs, q1, q2, q3, q4⟩ := kv_reads I r2 k2 p2 h2
    obtain ⟨cs, rd⟩ := Dp.reads I d v q.2 (Rep.dp _ _ _ r1 h1) hk.2
    have rk : Reads s.heap en.key (keyD n) [] := by
     have e1 : q.1 = n := hk.1.symm
     rw [e1] at pk
     rcases keyIs_shape pk with ⟨i, t, rfl, e2⟩ | ⟨y, t, rfl, e2⟩
     ·rw [e2]; exact .int _ _
     ·rw [e2]; exact .str _ _
    have nk : (keyD n).hasDict = false := by cases n <;> simp only [keyD, PyData.hasDict]
    refine ⟨_, _, ReadsAll.cons rk q1, ReadsAll.cons (by show Reads _ en.val _ _; rw [pv]; exact rd) q2, ?_, ?_⟩
    ·simp only [List.map_cons, PyData.hasDictAll, nk, q3, Bool.or_self]
    ·simp only [List.map_cons, PyData.hasDictAll, noDict_toD x d h1, q4, Bool.or_self]
theorem dshow (I : Inv X pins σ H s) {kvs : List (Key × PV)} {ws : List (Key × V)} {vs : List (Key × Value)} {es : List DictEntry} {ds : List (PyData × PyData)} (r : RepD X.K O H kvs ws) (k : KV ws vs) (p : Pairs (mixKind X.prog X.w) es vs) (e : toKv kvs = some ds)
  (hs : PyData.showableKv ds = true) (hz : (dictText (PyData.shownKv ds)).length ≤ sizeLine) : DShow X.prog X.w s.heap es ds := by
 obtain ⟨as, bs, r1, r2, n1, n2⟩ := kv_reads I r k p e
 obtain ⟨s1, s2⟩ := PyData.showableKv_split ds hs
 have z1 : ∀ t ∈ PyData.shownAll (ds.map (·.1)), t.length ≤ sizeLine := fun t ht => by
  obtain ⟨p, hp, hl⟩ := PyData.shownKv_key_le ds t ht
  exact Nat.le_trans hl (Nat.le_trans (dictText_mem_le hp) hz)
 have z2 : ∀ t ∈ PyData.shownAll (ds.map (·.2)), t.length ≤ sizeLine := fun t ht => by
  obtain ⟨p, hp, hl⟩ := PyData.shownKv_val_le ds t ht
  exact Nat.le_trans hl (Nat.le_trans (dictText_mem_le hp) hz)
 obtain ⟨b1, m1, k1⟩ := ReprAllK.of_readsAll (prog := X.prog) (w := X.w) r1 s1 (fun z => by rw [n1] at z; cases z) z1
 obtain ⟨b2, m2, k2⟩ := ReprAllK.of_readsAll (prog := X.prog) (w := X.w) r2 s2 (fun z => by rw [n2] at z; cases z) z2
 refine ⟨as, bs, b1 ++ b2, r1, r2, (m1.mono (PyData.depthAll_keys_le ds)).append (m2.mono (PyData.depthAll_vals_le ds)), ?_⟩
 rw [PyData.shownKv_eq]
 exact ReprEntriesK.of_two es _ _ (k1.more_le (fun b z => List.mem_append.mpr (.inl z)) (PyData.depthAll_keys_le ds)) (k2.more_le (fun b z => List.mem_append.mpr (.inr z)) (PyData.depthAll_vals_le ds))
theorem dic_obj (I : Inv X pins σ H s) {kvs : List (Key × PV)} {v : V} {u : Value} {ds : List (PyData × PyData)} (r : Rep X.K O H (.dic kvs) v) (ru : RelV v u) (e : toKv kvs = some ds) (hs : PyData.showableKv ds = true) (hz : (dictText (PyData.shownKv ds)).length ≤ sizeLine) :
  ∃ (a : Addr) (o : Obj) (es : Array DictEntry) (n : Nat), u = .ref a ∧ s.heap.get? a = some o ∧ o.cls = .type "dict" ∧ o.data = .dict es n ∧ (a == sysModules) = false ∧ DShow X.prog X.w s.heap es.toList ds := by
 obtain ⟨a, ws, rfl, _, ha, rd⟩ := r.dic_
 cases ru
 obtain ⟨_, hsys, vs, kv, o, es, ep, ho, hc, hd, _, hp, _⟩ := I.hok a _ ha
 exact ⟨a, o, es, ep, rfl, ho, hc.1, hd, hsys, dshow I rd kv hp e hs hz⟩
mutual
theorem Rep.shown (I : Inv X pins σ H s) : ∀ (x : PV) (v : V) (u : Value) (d : PyData), Rep X.K O H x v → RelV v u → toE x = some d → d.showable = true → d.shown.length ≤ sizeLine → Shown X.prog X.w s.heap u d
 | .non, v, u, _, r, ru, e, hs, hz => by
  unfold toE at e; cases e
  obtain ⟨as, rd⟩ := Dp.reads I _ v u (Rep.dp _ _ _ r (by unfold toD; rfl)) ru
  exact shown_flat rd (by simp only [PyData.hasDict]) hs hz
 | .bl _, v, u, _, r, ru, e, hs, hz => by
  unfold toE at e; cases e
  obtain ⟨as, rd⟩ := Dp.reads I _ v u (Rep.dp _ _ _ r (by unfold toD; rfl)) ru
  exact shown_flat rd (by simp only [PyData.hasDict]) hs hz
 | .int _, v, u, _, r, ru, e, hs, hz => by
  unfold toE at e; cases e
  obtain ⟨as, rd⟩ := Dp.reads I _ v u (Rep.dp _ _ _ r (by unfold toD; rfl)) ru
  exact shown_flat rd (by simp only [PyData.hasDict]) hs hz
 | .str _, v, u, _, r, ru, e, hs, hz => by
  unfold toE at e; cases e
  obtain ⟨as, rd⟩ := Dp.reads I _ v u (Rep.dp _ _ _ r (by unfold toD; rfl)) ru
  exact shown_flat rd (by simp only [PyData.hasDict]) hs hz
 | .lst xs, v, u, _, r, ru, e, hs, hz => by
  unfold toE at e
  obtain ⟨ds, q, rfl⟩ := Option.map_eq_some_iff.mp e
  obtain ⟨a, vs, rfl, n, t, rr⟩ := r.lst_
  cases ru
  obtain ⟨its, rv, ⟨o, n', ho, hc, _, hd⟩, _⟩ := I.list (SqL.of t)
  rw [PyData.shown] at hz
  exact shown_list ho hc hd (Reps.shown I xs vs its ds rr rv q (by simpa [PyData.showable] using hs) fun t ht => Nat.le_trans (listText_mem_le ht) hz)
 | .tup xs, v, u, _, r, ru, e, hs, hz => by
  unfold toE at e
  obtain ⟨ds, q, rfl⟩ := Option.map_eq_some_iff.mp e
  obtain ⟨a, vs, rfl, t, rr⟩ := r.tup_
  cases ru
  obtain ⟨its, rv, ⟨o, ho, hc, n', hd⟩, _⟩ := I.tuple t.sq
  rw [PyData.shown] at hz
  exact shown_tup ho hc hd (Reps.shown I xs vs its ds rr rv q (by simpa [PyData.showable] using hs) fun t ht => Nat.le_trans (tupleText_mem_le ht) hz)
 | .pln xs, v, u, _, r, ru, e, hs, hz => by
  unfold toE at e
  obtain ⟨ds, q, rfl⟩ := Option.map_eq_some_iff.mp e
  have h' := r.wkV
  unfold wkV at h'
  obtain ⟨a, vs, rfl, t, rr⟩ := h'.tup_
  cases ru
  obtain ⟨its, rv, ⟨o, ho, hc, n', hd⟩, _⟩ := I.tuple t.sq
  rw [PyData.shown] at hz
  exact shown_tup ho hc hd (Reps.shown I xs vs its ds rr rv q (by simpa [PyData.showable] using hs) fun t ht => Nat.le_trans (tupleText_mem_le ht) hz)
 | .dic kvs, v, u, _, r, ru, e, hs, hz => by
  unfold toE at e
  obtain ⟨ds, q, rfl⟩ := Option.map_eq_some_iff.mp e
  rw [PyData.shown] at hz
  obtain ⟨a, o, es, n, rfl, ho, hc, hd, hsys, ⟨as, bs, cs, r1, r2, m, k⟩⟩ := dic_obj I r ru q (by simpa [PyData.showable] using hs) hz
  have rr : Reads s.heap (.ref a) (.dict ds) _ := .dict ho hc hd r1 r2
  have lt : PyData.depthKv ds < (PyData.dict ds).depth := by simp only [PyData.depth]; omega
  refine ⟨_, a :: cs, rr, ReadAtMost.cons rr (Nat.le_of_lt lt) m, ?_⟩
  rw [PyData.depth, PyData.shown]
  exact ReprK.dict ho hc hd hsys (not_mem_of_deeper rr lt m) k
 | .scr _, _, _, _, _, _, e, _, _ => by unfold toE at e; cases e
 | .ins _ _, _, _, _, _, _, e, _, _ => by unfold toE at e; cases e
 | .raw _, _, _, _, _, _, e, _, _ => by unfold toE at e; cases e
 | .exn _ _ _, _, _, _, _, _, e, _, _ => by unfold toE at e; cases e
theorem Reps.shown (I : Inv X pins σ H s) : ∀ (xs : List PV) (vs : List V) (us : List Value) (ds : List PyData), Reps X.K O H xs vs → Vals vs us → toEs xs = some ds → PyData.showableAll ds = true → (∀ t ∈ PyData.shownAll ds, t.length ≤ sizeLine) → ShownAll X.prog X.w s.heap us ds
 | [], _, _, _, r, ru, e, _, _ => by
  rw [r.inv0] at ru
  cases ru
  unfold toEs at e; cases e
  exact ⟨[], [], .nil, (fun _ z => nomatch z), by rw [PyData.shownAll]; exact .nil⟩
 | x :: xs, _, _, _, r, ru, e, hs, hz => by
  obtain ⟨v, vs, rfl, r1, r2⟩ := r.inv
  obtain ⟨d, ds, rfl, h1, h2⟩ := toEs_cons e
  cases ru with
  | cons u1 u2 =>
   have hs' : d.showable = true ∧ PyData.showableAll ds = true := by simpa [PyData.showableAll] using hs
   rw [PyData.shownAll] at hz
   exact ShownAll.cons (Rep.shown I x v _ d r1 u1 h1 hs'.1 (hz _ List.mem_cons_self)) (Reps.shown I xs vs _ ds r2 u2 h2 hs'.2 fun t ht => hz t (List.mem_cons_of_mem _ ht))
end
end
section
variable {X : Cx}
def rReprE : R1p := fun ps P => match ps with
 | [x] => ∃ d, toE x = some d ∧ d.showable = true ∧ d.depth ≤ 60 ∧ d.shown.length ≤ sizeLine ∧ P (.str d.shown)
 | _ => False
theorem zc_reprE (hg : X.A.guards = some []) (hu : X.A.units + 64 < cLine) : CallR X (.builtin "repr") (r1 X.K rReprE) := by
 intro pins s σ H xs us Q I r h
 obtain ⟨O, ps, P, tr, hx, h, k⟩ := h
 unfold rReprE at h
 split at h
 case h_2 => cases h
 rename_i x
 obtain ⟨d, h1, h2, h4, h5, h⟩ := h
 obtain ⟨v, rfl, rp⟩ := hx.one
 obtain ⟨u, rfl, ru⟩ := vals1 r
 have q : Q (.str d.shown) H := k.str h
 have fin : ∀ h' tk tk', (∀ b o, s.heap.get? b = some o → h'.get? b = some o) → EP X pins σ Q (.str d.shown tk) { s with heap := h', toks := tk' } := fun h' tk tk' kp => ⟨.str d.shown, H, I.kept kp, ⟨_, rfl⟩, q⟩
 have flat : toD x = some d → d.hasDict = false → wpAny (model X.prog X.w) X.A (call (.builtin "repr") [u]) (EP X pins σ Q) X.xe s := fun td hn =>
  zc_repr hg hu pins s σ H [v] [u] Q I r ⟨O, [x], P, tr, hx, ⟨d, td, h2, hn, h4, h5, h⟩, k⟩
 cases x with
 | non => unfold toE at h1; cases h1; exact flat (by unfold toD; rfl) (by simp only [PyData.hasDict])
 | bl b => unfold toE at h1; cases h1; exact flat (by unfold toD; rfl) (by simp only [PyData.hasDict])
 | int b => unfold toE at h1; cases h1; exact flat (by unfold toD; rfl) (by simp only [PyData.hasDict])
 | str b => unfold toE at h1; cases h1; exact flat (by unfold toD; rfl) (by simp only [PyData.hasDict])
 | lst xs =>
  unfold toE at h1
  obtain ⟨ds, q1, rfl⟩ := Option.map_eq_some_iff.mp h1
  obtain ⟨a, vs, rfl, n, t, rr⟩ := rp.lst_
  cases ru
  obtain ⟨its, rv, ⟨o, n', ho, hc, _, hd⟩, _⟩ := I.list (SqL.of t)
  rw [PyData.shown] at h5
  simp only [PyData.shown] at fin
  rw [PyData.depth] at h4
  have sa := Reps.shown I xs vs its ds rr rv q1 (by simpa [PyData.showable] using h2) fun t ht => Nat.le_trans (listText_mem_le ht) h5
  obtain ⟨as, bs, r2, m, kk⟩ := sa.ex
  have rr2 : Reads s.heap (.ref a) (.list ds) (a :: as) := .list ho hc hd r2
  have lt : PyData.depthAll ds < (PyData.list ds).depth := by simp only [PyData.depth]; omega
  have nin := not_mem_of_deeper rr2 lt m
  refine call_repr_slot (by omega) ⟨o, ho, hc⟩ F.slot_list_repr.toG ?_
  cases its with
  | nil =>
   cases r2
   simp only [PyData.shownAll, listText_nil] at fin
   exact call_list_repr_empty ⟨o, ho, hc⟩ ho hd ⟨_, _, rfl, fin s.heap _ _ fun _ _ e => e⟩
  | cons y l =>
   exact call_list_reprK (A := X.A.in1) ho hc hd nin (by rw [kk.length_eq]; rfl) (fun i y e => kk.item i y (by simpa using e)) hg (fun b _ => Clear.nil b) (by show X.A.units + 1 + _ < cLine; omega) (fun _ _ e => e) (fun h' u tk hk => ⟨_, _, rfl, fin h' _ _ hk⟩) h5
 | tup xs =>
  unfold toE at h1
  obtain ⟨ds, q1, rfl⟩ := Option.map_eq_some_iff.mp h1
  obtain ⟨a, vs, rfl, t, rr⟩ := rp.tup_
  cases ru
  obtain ⟨its, rv, ⟨o, ho, hc, n', hd⟩, _⟩ := I.tuple t.sq
  rw [PyData.shown] at h5
  simp only [PyData.shown] at fin
  rw [PyData.depth] at h4
  have sa := Reps.shown I xs vs its ds rr rv q1 (by simpa [PyData.showable] using h2) fun t ht => Nat.le_trans (tupleText_mem_le ht) h5
  obtain ⟨as, bs, r2, m, kk⟩ := sa.ex
  have rr2 : Reads s.heap (.ref a) (.tuple ds) as := .tuple ho hc hd r2
  have lt : PyData.depthAll ds < (PyData.tuple ds).depth := by simp only [PyData.depth]; omega
  refine call_repr_slot (by omega) ⟨o, ho, hc⟩ F.slot_tuple_repr ?_
  exact call_tuple_reprK (A := X.A.in1) ho hc hd (not_mem_of_deeper rr2 lt m) kk hg (fun b _ => Clear.nil b) (by show X.A.units + 1 + _ < cLine; omega) (fun _ _ e => e) (fun h' u tk hk => ⟨_, _, rfl, fin h' _ _ hk⟩) h5
 | pln xs =>
  unfold toE at h1
  obtain ⟨ds, q1, rfl⟩ := Option.map_eq_some_iff.mp h1
  have h' := rp.wkV
  unfold wkV at h'
  obtain ⟨a, vs, rfl, t, rr⟩ := h'.tup_
  cases ru
  obtain ⟨its, rv, ⟨o, ho, hc, n', hd⟩, _⟩ := I.tuple t.sq
  rw [PyData.shown] at h5
  simp only [PyData.shown] at fin
  rw [PyData.depth] at h4
  have sa := Reps.shown I xs vs its ds rr rv q1 (by simpa [PyData.showable] using h2) fun t ht => Nat.le_trans (tupleText_mem_le ht) h5
  obtain ⟨as, bs, r2, m, kk⟩ := sa.ex
  have rr2 : Reads s.heap (.ref a) (.tuple ds) as := .tuple ho hc hd r2
  have lt : PyData.depthAll ds < (PyData.tuple ds).depth := by simp only [PyData.depth]; omega
  refine call_repr_slot (by omega) ⟨o, ho, hc⟩ F.slot_tuple_repr ?_
  exact call_tuple_reprK (A := X.A.in1) ho hc hd (not_mem_of_deeper rr2 lt m) kk hg (fun b _ => Clear.nil b) (by show X.A.units + 1 + _ < cLine; omega) (fun _ _ e => e) (fun h' u tk hk => ⟨_, _, rfl, fin h' _ _ hk⟩) h5
 | dic kvs =>
  unfold toE at h1
  obtain ⟨ds, q1, rfl⟩ := Option.map_eq_some_iff.mp h1
  rw [PyData.shown] at h5
  simp only [PyData.shown] at fin
  rw [PyData.depth] at h4
  obtain ⟨a, o, es, n, rfl, ho, hc, hd, hsys, ⟨as, bs, cs, r1, r2, m, kk⟩⟩ := dic_obj I rp ru q1 (by simpa [PyData.showable] using h2) h5
  have rr2 : Reads s.heap (.ref a) (.dict ds) _ := .dict ho hc hd r1 r2
  have lt : PyData.depthKv ds < (PyData.dict ds).depth := by simp only [PyData.depth]; omega
  refine call_repr_slot (by omega) ⟨o, ho, hc⟩ F.slot_dict_repr ?_
  exact call_dict_reprK (A := X.A.in1) ho hc hd hsys (not_mem_of_deeper rr2 lt m) kk hg (fun b _ => Clear.nil b) (by show X.A.units + 1 + _ < cLine; omega) (fun _ _ e => e) (fun h' u tk hk => ⟨_, _, rfl, fin h' _ _ hk⟩) h5
 | scr _ => unfold toE at h1; cases h1
 | ins _ _ => unfold toE at h1; cases h1
 | raw _ => unfold toE at h1; cases h1
 | exn _ _ _ => unfold toE at h1; cases h1
end
section
variable {X : Cx} {σ : L2.St} {W : Hp → Prop}
def ItemI (X : Cx) (σ : L2.St) (W : Hp → Prop) (bs : List Addr) (n : Nat) (v : V) (t : Str) : Prop :=
 ∀ (base : Nat) (A : Around) (g : List Code) (E : Value → Shared → Prop) (pins : List (Addr × Obj)) (s : Shared) (H : Hp) (u : Value) (Q : Str → Shared → Prop), base + t.length ≤ sizeLine → A.guards = some g → (∀ b ∈ bs, Clear g b) → A.frames = X.A.frames → Room n A →
  Inv X pins σ H s → W H → RelV v u → (∀ H' s', Inv X pins σ H' s' → W H' → Q t s') → wpAny (model X.prog X.w) A (pyReprUnder base u) Q E s
theorem ItemI.more {bs cs : List Addr} {n m : Nat} {v : V} {t : Str} (h : ItemI X σ W bs n v t) (hb : ∀ b ∈ bs, b ∈ cs) (hn : n ≤ m) : ItemI X σ W cs m v t :=
 fun base A g E pins s H u Q z hg hc hf hr I w r q => h base A g E pins s H u Q z hg (fun b hb' => hc b (hb b hb')) hf (hr.mono hn) I w r q
structure PartAt (X : Cx) (pins : List (Addr × Obj)) (H : Hp) (s : Shared) (P : Addr) (acc : Array Value) (c : Nat) : Prop where
 get : s.heap.get? P = some { cls := .type "list", dict := none, data := .seq acc c, slots := #[] }
 fr : H P = none
 nl : P ≠ X.env.locals
 nf : P ∉ X.fs
 nc : ∀ x c, X.env.cells.lookup x = some c → c ≠ P
 s0 : X.s_0.heap.objs.size ≤ P
 np : ∀ p ∈ X.pn ++ pins, p.1 ≠ P
theorem PartAt.pin {pins : List (Addr × Obj)} {H : Hp} {s : Shared} {P : Addr} {acc : Array Value} {c : Nat} (p : PartAt X pins H s P acc c) (I : Inv X pins σ H s) : Inv X ((P, { cls := .type "list", dict := none, data := .seq acc c, slots := #[] }) :: pins) σ H s :=
 ⟨I.ok, I.os, I.bare, I.base, I.loc, I.cell, I.free, I.freeC, fun q hq => by
  rcases List.mem_append.mp hq with h | h
  ·exact I.pin q (List.mem_append.mpr (.inl h))
  ·rcases List.mem_cons.mp h with rfl | h
   ·exact ⟨p.get, p.fr, p.nl, p.nf, fun v e => by cases e⟩
   ·exact I.pin q (List.mem_append.mpr (.inr h)), I.hok, I.len⟩
theorem PartAt.back {pins : List (Addr × Obj)} {H H' : Hp} {s s' : Shared} {P : Addr} {acc : Array Value} {c : Nat} (p : PartAt X pins H s P acc c) (I : Inv X ((P, { cls := .type "list", dict := none, data := .seq acc c, slots := #[] }) :: pins) σ H' s') : PartAt X pins H' s' P acc c :=
 have q := I.pin _ (List.mem_append.mpr (.inr List.mem_cons_self))
 ⟨q.1, q.2.1, p.nl, p.nf, p.nc, p.s0, p.np⟩
theorem PartAt.fresh {pins : List (Addr × Obj)} {H : Hp} {s : Shared} (I : Inv X pins σ H s) : Inv X pins σ H { s with heap := s.heap.push { cls := .type "list", dict := none, data := .seq #[] 0, slots := #[] } } ∧
  PartAt X pins H { s with heap := s.heap.push { cls := .type "list", dict := none, data := .seq #[] 0, slots := #[] } } s.heap.objs.size #[] 0 := by
 refine ⟨I.kept (t' := s.toks) fun b u e => Heap.get?_push_of_some _ e, Heap.get?_push_size _ rfl, I.hok.fresh (Nat.le_refl _), fun e => ?_, I.nofs (Nat.le_refl _), fun x c e z => ?_, I.sz, fun p hp z => ?_⟩
 ·exact absurd I.lt (by rw [← e]; exact Nat.lt_irrefl _)
 ·obtain ⟨v, o, ho, _⟩ := I.cell x c e
  exact absurd (Heap.lt_size ho) (by rw [z]; exact Nat.lt_irrefl _)
 ·exact absurd (Heap.lt_size (I.pin p hp).1) (by rw [z]; exact Nat.lt_irrefl _)
end
section
variable {P : Program} {w : World} {K : PySem.W.Frag} {mg : Str → Option Value} {base : Heap} {T : List (Addr × Str)}
theorem okGRC {x qual : Str} {st : Stmt} {c f : Addr} {fd : FuncData} {nm : Str} {N ps : List Str} {k : Nat} {sp : SpR} (Fn : FunC K x qual st c f fd) (S : FnScope (nm :: N) (nm :: ps) (defScope st)) (hl : ∀ o args P, sp o args P → args.length = ps.length) (hn : ps.length ≤ N.length)
  (hbody : ∀ (A : Around) (outer : List Env) (s : Shared) (H : Hp) (E : XK), A.guards = some [] → Room k (A.deeper (envOfC qual (defScope st) s.heap.objs.size f (.ref c))) →
   ∃ ts, PSs (cxOf CX0 P w K mg base (nm :: N) qual (defScope st) f (.ref c) A outer s H E).nox (defBody st) (upS K T ts) ∧
    ∀ o args P, sp o args P → ts { nx := fun η' => ∃ o', η'[0]? = some (Sl.ow o') ∧ P .non o', rt := fun x η' => ∃ o', η'[0]? = some (Sl.ow o') ∧ P x o' } (startR (N.length + 1) o args)) :
  FnG P w K mg base (k + 1) f fd (nm :: ps) (upSpR K T sp) := by
 obtain ⟨oc, od, kV, doc, pm, an, ct, osl, rfl, lk, hcd⟩ := Fn.ex
 refine ⟨len_spR hl, fun A outer s H args us vs Q E hg hr e0 hb rv hs => ?_⟩
 refine LamX.run_ofS lk hcd S hr e0 hb rv (len_spR hl _ _ _ _ hs) fun hr' => ?_
 obtain ⟨ts, d, rd⟩ := hbody A outer s H E hg hr'
 exact ⟨_, d.nox, body_spR hs (fun o args P hs => by rw [hl _ _ _ hs]; exact hn) rd⟩
end
theorem SqT.gr {K : PySem.W.Frag} {H H' : Hp} {b : Addr} {vs : List V} (g : Gr H H') (h : SqT K H b vs) : SqT K H' b vs := by
 rcases h with (h | ⟨o, h⟩) | h
 ·exact .inl (.inl (g.keep b _ h nofun))
 ·exact .inl (.inr ⟨o, g.keep b _ h nofun⟩)
 ·exact .inr h
section
variable {prog : Program} {w : World} {A : Around} {E : Value → Shared → Prop} {s : Shared}
theorem lam_item {f r : Addr} {c' : Addr} {name qual nm : Str} {params : Arguments} {scope : Scope} {pm ctv : Value} {items : Array Value} {i : Int} {ki : Nat} {u : Value} {k1 p1 p2 p3} {Q : Value → Shared → Prop}
  (L : Lam1 nm scope) (hroom : A.depth < recursionLimit)
  (ho : s.heap.get? f = some (PySem.W.kla_obj name qual params (.Subscript (.Name nm p1) (.Constant (.int i) k1 p2) p3) scope [] pm c' ctv))
  (hcd : s.heap.CodeRec (.ref c') qual) (hlim : s.heap.NoLimit)
  (hb : bindArgs (PySem.W.kla_fn name qual params (.Subscript (.Name nm p1) (.Constant (.int i) k1 p2) p3) scope [] pm (.ref c') ctv) ⟨[.ref r], []⟩ = pure [(nm, .ref r)])
  (ht : IsTup s.heap r items) (bi : -(2 ^ 63) ≤ i ∧ i < 2 ^ 63 ∧ seqIndex? i items.size = some ki ∧ items[ki]? = some u)
  (hd : (nm == ("__debug__" : Str)) = false)
  (q : ∀ h' tk, (∀ b o, s.heap.get? b = some o → h'.get? b = some o) → Q u { s with heap := h', toks := tk }) :
  wpAny (model prog w) A (call (.ref f) [.ref r]) Q E s := by
 refine wpAny_call (PySem.W.kla_callFunE hroom ho rfl L.co L.gen rfl hcd ?_)
 rw [hb]
 refine wpAny_pure (wpAny_newFunctionEnv L.own (fun y hy => ?_) (fun h1 hns hsb => ⟨hlim.fresh _ hsb, ?_⟩) L.kind)
 ·have e : y = (nm, .ref r) := by simpa using hy
  rw [e]; exact L.loc
 refine PySem.W.kla_codeExpr ?_
 have kp : ∀ b o, s.heap.get? b = some o → h1.get? b = some o := fun b o e => hsb.extBut b o (Nat.ne_of_lt (Heap.lt_size e)) (Heap.get?_push_of_some _ e)
 have ht1 : IsTup h1 r items := ht.keeps kp
 have nml : (fun y => ([(nm, Value.ref r)] : List (Str × Value)).reverse.lookup y) nm = some (.ref r) := by
  show ([(nm, Value.ref r)] : List (Str × Value)).lookup nm = _
  simp
 refine Subscript_ (wpAny_Name (wpAny_loadName_local L.kind L.loc hns nml ?_) hd)
 refine wpAny_Constant_int (item_tuple (ht1) bi.1 bi.2.1 bi.2.2.1 bi.2.2.2 ?_)
 exact q _ _ kp
end
section
variable {X : Cx} {T : List (Addr × Str)} {e : Expr} {te : TEp}
def keyP1 (i : Int) : PV → PyData
 | .tup xs => match atI xs i with
  | some a => encD a
  | _ => .none
 | _ => .none
def tSortL1P (i : Int) (te : TEp) : TEp := fun η P => te η fun x η1 => match x with
 | .tup xs => (∀ y ∈ xs, ∃ ys a, y = .tup ys ∧ atI ys i = some a ∧ flatD a = true) ∧ PySem.W.AllAlike (xs.map (keyP1 i)) ∧ xs.length ≤ sizeLine ∧ P (.lst (xs.mergeSort (PySem.W.dataLe false (keyP1 i)))) η1
 | _ => False
theorem z_sortL1 {i : Int} {nm : Str} {x : Str} {p lpos pos kpos : Pos} {params : Arguments} {scope : Scope} {c P : Addr} {k1 p1 p2 p3} {k : Nat}
  (hg : Gl X "sorted") (hm : X.mg "sorted" = none) (he : PE X e (up X.K T te)) (hr : Room k X.A) (L : Lam1 nm scope) (hdef : defaultsOf params X.env = ([], [])) (TB : LamX.TabB X.base X.mg c P) (hcode : X.env.code = .ref c) (hmT : (P, X.env.qual ++ "<lambda>") ∈ T) (huT : ∀ p ∈ T, p.1 = P → p.2 = X.env.qual ++ "<lambda>")
  (hfree : ∀ y ∈ scope.names, y.2 ≠ .free)
  (hcl : cloFrom X.env.cells scope.names [] = [])
  (hb : ∀ (r : Addr) (q : Str) (pm cv ctv : Value), bindArgs (PySem.W.kla_fn "<lambda>" q params (.Subscript (.Name nm p1) (.Constant (.int i) k1 p2) p3) scope [] pm cv ctv) ⟨[.ref r], []⟩ = pure [(nm, .ref r)])
  (bi : -(2 ^ 63) ≤ i ∧ i < 2 ^ 63) (hd : (nm == ("__debug__" : Str)) = false)
  (hs : starEach [e] X.env = [(false, eval e X.env)] := by rfl) (h5 : backTo pos (starEach [e] X.env) = (false, eval e X.env) :: backTo pos (starEach [] X.env) := by rfl) (h6 : (backTo pos (starEach [e] X.env)).any (·.1) = false := by rfl) :
  PE X (.Call (.Name "sorted" p) [e] [⟨some "key", .Lambda params (.Subscript (.Name nm p1) (.Constant (.int i) k1 p2) p3) scope lpos, kpos⟩] pos) (up X.K T (tSortL1P i te)) := by
 constructor
 intro pins s σ H Q I h
 obtain ⟨F, η, PP, R, h, kk⟩ := h
 apply wpAny_Call_Name_kw
 refine ld_blt (u := .builtin "sorted") I hg hm (by decide +kernel) ?_
 refine PyProof.Rows.callWith_kw (thn ((pa_cons he pa_nil hs).run pos pins s σ H (fun vs H1 => ∃ xs η1 a us, vs = [V.ref a] ∧ TupAt X.K (Oof F σ η1) H1 a us ∧ Reps X.K (Oof F σ η1) H1 xs us ∧ Rs X.K T F σ η1 H1 ∧ Ext σ η σ η1 H H1 ∧
  (∀ y ∈ xs, ∃ ys a, y = .tup ys ∧ atI ys i = some a ∧ flatD a = true) ∧ PySem.W.AllAlike (xs.map (keyP1 i)) ∧ xs.length ≤ sizeLine ∧ PP (.lst (xs.mergeSort (PySem.W.dataLe false (keyP1 i)))) η1) I ?_) fun us s1 hA => ?_) ?_ ?_ ?_ ?_
 ·refine ⟨F, η, _, R, h, fun x η1 v H1 h1 e1 R1 r1 => ?_⟩
  split at h1
  ·obtain ⟨a, us, rfl, t, rr⟩ := r1.tup_
   exact ⟨_, η1, a, us, rfl, t, rr, R1, e1, h1⟩
  ·cases h1
 ·obtain ⟨vs, H1, I1, r1, xs, η1, a, us', rfl, tA, rr, R1, e1, hx, hal, hz, hP⟩ := hA
  obtain ⟨u0, rfl, ru⟩ := vals1 r1
  cases ru
  show wpAny _ _ (evalAll [do let v ← eval (.Lambda params (.Subscript (.Name nm p1) (.Constant (.int i) k1 p2) p3) scope lpos) X.env; standAt pos; pure v]) _ _ s1
  refine wpAny_evalAll_cons (wpAny_bind (LamX.lam_make2 I1 TB hcode hmT huT R1.tb hdef (fun y hy e => absurd e (hfree y hy)) fun f c' pm ctv H2 s2 I2 eN T2 hf hfn hfr hco => wpAny_bind (wpAny_standAt (wpAny_pure (wpAny_evalAll_nil ?_)))))
  have g : Gr H1 H2 := ⟨eN, fun b n q => n fun o ho => Classical.byContradiction fun nt => q.no (eN b o ho fun ps z => nt ⟨ps, z⟩) fun ps z => nt ⟨ps, z⟩⟩
  have R2 := R1.gr g T2
  have c12 : Car (Oof F σ η1) (Oof F σ η1) H1 H2 := g.car
  have tA2 := tA.car c12
  have rr2 := rr.car c12
  obtain ⟨its, rits, p, hz2⟩ := I2.tuple tA2.sq
  rw [hcl] at hf
  obtain ⟨⟨oc, vs, tq, hoc, hdc, hvc⟩, _, _⟩ := I2.hok c' _ hco
  have hu := hr.un
  have hdp := hr.dp
  have hmem : ∀ y ∈ xs, (keyP1 i y).depth ≤ 1 ∧ ∃ ys a, y = .tup ys ∧ atI ys i = some a ∧ flatD a = true := fun y hy => by
   obtain ⟨ys, a, rfl, ha, fa⟩ := hx y hy
   refine ⟨?_, ys, a, rfl, ha, fa⟩
   unfold keyP1
   simp only [ha]
   cases a <;> first | cases fa | skip
   all_goals (simp [encD, toD, PyData.depth, PyData.depthAll])
  refine sorted_key_tup (R := ValR X.K (Oof F σ η1) H2) (bs := xs) (f := .ref f) (keyP1 i) p (each_val rr2 rits) hal ?_ hz (fun y hy => by have := (hmem y hy).1; omega) (ksk_s1 _ _) (fun x => ?_) (fun x => ksk_t1 f x) ?_ ?_
  ·refine .inr fun d hd => ?_
   obtain ⟨y, hy, rfl⟩ := List.mem_map.mp hd
   obtain ⟨_, ys, a, rfl, ha, fa⟩ := hmem y hy
   have e : keyP1 i (.tup ys) = encD a := by unfold keyP1; simp only [ha]
   rw [e]
   cases a <;> first | cases fa | skip
   all_goals (exact ⟨by simp [encD, toD], fun xs => by simp [encD, toD]⟩)
  ·exact ksk_l1 _ _
  ·rintro v y ⟨w, rw', rep⟩ hy h tk kp
   obtain ⟨_, ys, a, rfl, ha, fa⟩ := hmem y hy
   obtain ⟨r, ws, rfl, t, rw2⟩ := rep.tup_
   cases rw'
   obtain ⟨its2, r3, p3, _⟩ := I2.tuple t.sq
   have lens : its2.length = ys.length := by rw [← r3.length]; exact rw2.len
   have item : ∀ {k : Int} {z : PV}, atI ys k = some z → flatD z = true → ∃ kk uu, seqIndex? k its2.toArray.size = some kk ∧ its2.toArray[kk]? = some uu ∧ ∀ h', Reads h' uu (encD z) [] := fun {k z} hk fz => by
    obtain ⟨kk, q1, q2, _⟩ := atI_get hk
    obtain ⟨v', q3, q4⟩ := rw2.get q2
    obtain ⟨uu, q5, q6⟩ := r3.get q3
    refine ⟨kk, uu, by rw [List.size_toArray, lens]; exact q1, by simpa using q5, fun h' => flat_reads fz q4 q6⟩
   obtain ⟨ki, ui, i1, i2, i3⟩ := item ha fa
   refine lam_item (c' := c') (items := its2.toArray) L ?_ (kp _ _ hf) ⟨c', oc, vs, tq, rfl, kp _ _ hoc, hdc, hvc⟩ (I2.nolimit.keeps kp) (hb _ _ _ _ _) (p3.keeps kp) ⟨bi.1, bi.2, i1, i2⟩ hd fun h' tk' kp' => ?_
   ·show X.A.depth < recursionLimit
    omega
   ·refine ⟨h', tk', rfl, kp', ?_⟩
    have e : keyP1 i (.tup ys) = encD a := by unfold keyP1; simp only [ha]
    rw [e]
    exact i3 h'
  ·intro out cc h' tk kp hD ho eo
   obtain ⟨ys, r3, r4⟩ := val_each eo
   have fr : H2 (s2.heap.objs.size + 1) = none := I2.hok.fresh (Nat.le_succ _)
   refine ⟨.ref (s2.heap.objs.size + 1), upd H2 (s2.heap.objs.size + 1) (.lst ys), I2.laid (t' := tk) kp (Nat.le_succ _) ⟨?_, out, cc, r4, hD⟩, rfl, ?_⟩
   ·rw [r3.len, List.length_mergeSort]; exact hz
   ·exact kk _ η1 _ _ hP ((e1.trans g.ext).trans (.same (Same.new fr))) (R2.same (Same.new fr)) (rep_newL R2.trO fr r3)
 ·exact h5
 ·exact h6
 all_goals rfl
end
def upSpX2 (K : PySem.W.Frag) (T : List (Addr × Str)) (sp : SpX) : Sp := fun vs H Q E => ∃ F x y rest P Zw, Trk F H ∧ LamX.Tabs T H ∧ Reps K F H (x :: y :: rest) vs ∧ rest.length ≤ 1000 ∧ sp [x, y, .tup rest] P Zw ∧
 (∀ z v H', P z → Gr H H' → LamX.Tabs T H' → Rep K F H' z v → Q v H') ∧ (∀ C fs d H', Zw C fs → Gr H H' → LamX.Tabs T H' → XAt K F H' d fs → E (.ref C) d H')
theorem upSpX2_raw {K : PySem.W.Frag} {T : List (Addr × Str)} {sp : SpX} {vs : List V} {H : Hp} {Q : VK} {E : XK} (h : upSpX2 K T sp vs H Q E) :
  ∃ ws rest, vs = ws ++ rest ∧ ws.length = 2 ∧ rest.length ≤ 1000 ∧ ∀ p, H p = none → upSpX K T sp (ws ++ [.ref p]) (upd H p (.tup rest)) Q E := by
 obtain ⟨F, x, y, rest, P, Zw, tr, tb, r, hl, hs, k, kx⟩ := h
 obtain ⟨v, us, rfl, r1, r2⟩ := r.inv
 obtain ⟨v2, us, rfl, r3, r4⟩ := r2.inv
 refine ⟨[v, v2], us, rfl, rfl, by rw [r4.len]; exact hl, fun p hp => ?_⟩
 have sm : Same H (upd H p (.tup us)) := Same.new hp
 have gg : ∀ {H'}, Gr (upd H p (.tup us)) H' → Gr H H' := fun g => ⟨fun b o e t => g.keep b o (sm b o e) t, fun b n => g.live b fun q => n fun o e => q o (sm b o e)⟩
 exact ⟨F, [x, y, .tup rest], P, Zw, tr.same sm, tb.ext sm, .cons (r1.car (Car.same sm)) (.cons (r3.car (Car.same sm)) (.cons (rep_newT tr hp r4) .nil)), hs, fun z w H' pz g tb' rz => k z w H' pz (gg g) tb' rz, fun C fs d H' z g tb' xa => kx C fs d H' z (gg g) tb' xa⟩
section
variable {P : Program} {w : World} {K : PySem.W.Frag} {mg : Str → Option Value} {base : Heap} {T : List (Addr × Str)}
theorem bnd_star {CX : CXT} {fd : FuncData} {args : Args} {ps : List Str} {pv : Str} {A : Around} {outer : List Env} {s : Shared} {H : Hp} {E : XK} {us rest : List Value} {ws rs : List V} (cu : StX.CXUp CX)
  (hb : bindArgs fd args = (newTuple rest >>= fun t => pure (ps.zip us ++ [(pv, t)]))) (e0 : Env0 P w K mg base A outer s H) (hl : us.length = ps.length) (r1 : Vals ws us) (r2 : Vals rs rest) (hr : rest.length ≤ sizeLine) :
  StX.Bnd CX P w K mg base fd args (ps ++ [pv]) A outer s H E (fun vs H2 => ∃ p, H p = none ∧ vs = ws ++ [.ref p] ∧ H2 = upd H p (.tup rs)) := by
 intro A' Ex Q h
 rw [hb]
 have hn : H s.heap.objs.size = none := e0.hok.fresh (Nat.le_refl _)
 refine wpAny_bind (wpAny_newTuple (wpAny_pure ?_) hr)
 have ez : ps.zip us ++ [(pv, Value.ref s.heap.objs.size)] = (ps ++ [pv]).zip (us ++ [.ref s.heap.objs.size]) := by
  rw [List.zip_append hl.symm]; rfl
 rw [ez]
 have un := StX.un_laid (s := s) (H := H) (fs := frs outer) (o := { cls := Value.type "tuple", data := Data.seq rest.toArray }) (u := .tup rs) hn
 refine h _ (upd H s.heap.objs.size (.tup rs)) (ws ++ [.ref s.heap.objs.size]) (us ++ [.ref s.heap.objs.size]) (StX.env0_laid e0 ?_) un rfl (fun e s' hx => ?_) (r1.append (show Vals [V.ref s.heap.objs.size] [Value.ref s.heap.objs.size] from .cons rfl .nil)) ?_ ⟨_, hn, rfl, rfl⟩
 ·show rs.length ≤ sizeLine ∧ ∃ its, Vals rs its ∧ IsTup _ _ its.toArray
  exact ⟨by rw [r2.length]; exact hr, rest, r2, IsTup.new _ _⟩
 ·refine cu outer s H _ _ E e s' ?_ ?_ ?_ hx
  ·exact un
  ·exact fun b o e => Heap.get?_push_of_some _ e
  ·rfl
 ·have := r1.length
  rw [List.length_append, List.length_append, this, hl]; rfl
def FnA (P : Program) (w : World) (K : PySem.W.Frag) (mg : Str → Option Value) (base : Heap) (k : Nat) (f : Addr) (fd : FuncData) (ps : List Str) (pv : Str) (sp : Sp) : Prop :=
 ∀ (A : Around) (outer : List Env) (s : Shared) (H : Hp) (args : Args) (us rest : List Value) (ws rs : List V) (Q : VK) (E : XK), Room k A → Env0 P w K mg base A outer s H →
  bindArgs fd args = (newTuple rest >>= fun t => pure (ps.zip us ++ [(pv, t)])) → us.length = ps.length → Vals ws us → Vals rs rest → rest.length ≤ sizeLine → (∀ p, H p = none → sp (ws ++ [.ref p]) (upd H p (.tup rs)) Q E) →
  codeAny (model P w) A (Code.call (Value.ref f) args) (CR (L2.CX P w) outer P w H s Q E) s
theorem okXAC {x qual : Str} {st : Stmt} {c f : Addr} {fd : FuncData} {N ps : List Str} {pv : Str} {k : Nat} {sp : SpX} (Fn : FunC K x qual st c f fd) (S : FnScope N (ps ++ [pv]) (defScope st)) (hl : ∀ args P Zw, sp args P Zw → args.length = (ps ++ [pv]).length) (hn : (ps ++ [pv]).length ≤ N.length)
  (hbody : ∀ (A : Around) (outer : List Env) (s : Shared) (H : Hp) (E : XK), Room k (A.deeper (envOfC qual (defScope st) s.heap.objs.size f (.ref c))) → L2.Takes (cxOf (L2.CX P w) P w K mg base N qual (defScope st) f (.ref c) A outer s H E) (fun cls d _ H' => E cls d H') →
   PassesOwn (model P w) (cxOf (L2.CX P w) P w K mg base N qual (defScope st) f (.ref c) A outer s H E).A (cxOf (L2.CX P w) P w K mg base N qual (defScope st) f (.ref c) A outer s H E).env (cxOf (L2.CX P w) P w K mg base N qual (defScope st) f (.ref c) A outer s H E).xe →
   (∀ hd : Option Value, PassesOwnAt (model P w) ((cxOf (L2.CX P w) P w K mg base N qual (defScope st) f (.ref c) A outer s H E).A.mark hd) (cxOf (L2.CX P w) P w K mg base N qual (defScope st) f (.ref c) A outer s H E).A (cxOf (L2.CX P w) P w K mg base N qual (defScope st) f (.ref c) A outer s H E).env (cxOf (L2.CX P w) P w K mg base N qual (defScope st) f (.ref c) A outer s H E).xe) →
   ∃ ts, PSs (cxOf (L2.CX P w) P w K mg base N qual (defScope st) f (.ref c) A outer s H E) (defBody st) (upSX K T (fun cls d _ H' => E cls d H') ts) ∧
    ∀ args P Zw, sp args P Zw → ts { nx := fun _ => P .non, rt := fun x _ => P x } (fun C fs _ => Zw C fs) (startP N.length args)) :
  FnA P w K mg base (k + 1) f fd ps pv (upSpX K T sp) := by
 obtain ⟨oc, od, kV, doc, pm, an, ct, osl, rfl, lk, hcd⟩ := Fn.ex
 intro A outer s H args us rest ws rs Q E hr e0 hb hlu r1 r2 hre hsp
 refine StX.run_bnd lk hcd S hr e0 (bnd_star StX.cxUp hb e0 hlu r1 r2 hre) fun s2 H2 vs h hr2 => ?_
 obtain ⟨p, hp, rfl, rfl⟩ := h
 have hs := hsp p hp
 obtain ⟨ts, d, rd⟩ := hbody A outer s2 (upd H p (.tup rs)) E hr2 (L2.takes_of rfl rfl rfl rfl) PassesOwn.leaving (fun _ => PassesOwnAt.leaving)
 exact ⟨_, d, body_spX hs (fun args P Zw hs => by rw [hl _ _ _ hs]; exact hn) rd⟩
theorem fnR_A {f : Addr} {fd : FuncData} {p1 p2 pv : Str} {k : Nat} {sp : SpX} (F : FnA P w K mg base k f fd [p1, p2] pv (upSpX K T sp))
  (hb : ∀ (u v : Value) (rest : List Value), bindArgs fd ⟨u :: v :: rest, []⟩ = (newTuple rest >>= fun t => pure [(p1, u), (p2, v), (pv, t)])) : FnR P w K mg base (L2.CX P w) k f (upSpX2 K T sp) := by
 intro A outer s H us vs Q E hr e0 r h
 obtain ⟨ws, rest, rfl, hl, hrl, hsp⟩ := upSpX2_raw h
 match ws, hl with
 | [a, b], _ =>
  match us, r with
  | u :: v :: us', .cons ru (.cons rv rr) =>
   have sz : 1000 ≤ sizeLine := by decide
   exact F A outer s H ⟨u :: v :: us', []⟩ [u, v] us' [a, b] rest Q E hr e0 (hb u v us') rfl (.cons ru (.cons rv .nil)) rr (by have h9 := rr.length; simp at h9; have h8 : rest.length ≤ 1000 := hrl; omega) hsp
end
section
variable {X : Cx} {T : List (Addr × Str)} {k : Nat} {C g q : Addr} {mc : Value} {sp : SpX} {o e : Expr} {es : List Expr} {m : Str} {pos apos : Pos} {ta : TEp} {t : TAp} {E : XK} {pl : Sem Bool}
def tCMetV (C : Addr) (sp : SpX) (ta : TEp) (t : TAp) : TXp := fun η P Zw => ta η fun x η1 => x = .raw (.ref C) ∧ t η1 fun args η2 => ∃ y rest, args = y :: rest ∧ rest.length ≤ 1000 ∧ sp [.raw (.ref C), y, .tup rest] (fun z => P z η2) fun C' fs => Zw C' fs η2
theorem zx_cmetV (he : PE X o (up X.K T ta)) (r : ClX.CRead X.K C mc) (c : ClX.CMet X.K C mc m q g) (Fn : FnR X.prog X.w X.K X.mg X.base (L2.CX X.prog X.w) k g (upSpX2 X.K T sp)) (tk : L2.Takes X (fun cls d _ H => E cls d H)) (hr : Room k X.A)
  (ha : PA X (e :: es) (upA X.K T t)) (hst : starEach (e :: es) X.env = (false, eval e X.env) :: starEach es X.env := by rfl) (hpl : (backTo pos (starEach es X.env)).any (·.1) = false := by rfl)
  (ht : eval (.Call (.Attribute o m apos) (e :: es) [] pos) X.env = (do
   let ov ← eval o X.env
   standAt apos.atName
   let (f, first) ← holding [ov] (getMethod ov m pl)
   callWith pos f first (backTo pos (starEach (e :: es) X.env)) (backToKw pos (keywordEach [] X.env))) := by rfl) :
  PE X (.Call (.Attribute o m apos) (e :: es) [] pos) (upX X.K T (fun cls d _ H => E cls d H) (tCMetV C sp ta t)) := by
 refine PE.weak (ClX.pe_cmeth (E := E) he r c Fn hr (L2.passes_call tk fun _ _ _ _ h => h) ha hst hpl ht) fun σ H Q qq => ?_
 obtain ⟨F, η, P, Zw, R, h, k, kx⟩ := qq
 refine ⟨F, η, _, R, h, fun x η1 v H1 h1 e1 R1 r1 => ?_⟩
 obtain ⟨rfl, h1⟩ := h1
 unfold Rep at r1
 subst r1
 refine ⟨rfl, F, η1, _, R1, h1, fun args η2 vs H2 h2 e2 R2 r2 => ?_⟩
 obtain ⟨y, rest, rfl, hl, h2⟩ := h2
 have E2 := e1.trans e2
 refine ⟨Oof F σ η2, _, _, _, _, _, R2.trO, R2.tb, ?_, hl, h2, fun z v H3 pz g tb rz => k z η2 v H3 pz (E2.trans g.ext) (R2.gr g tb) rz, fun C' fs d H3 z g tb xa => kx C' fs η2 d σ H3 z (E2.trans g.ext) (R2.gr g tb) xa⟩
 unfold Reps
 exact ⟨_, vs, rfl, by unfold Rep; rfl, r2⟩
def tIMetV (C : Addr) (m : Str) (sp : SpX) (ta : TEp) (t : TAp) : TXp := fun η P Zw => ta η fun x η1 => (∃ fs, x = .ins C fs ∧ fs.lookup m = none) ∧ t η1 fun args η2 => ∃ y rest, args = y :: rest ∧ rest.length ≤ 1000 ∧ sp [.raw (.ref C), y, .tup rest] (fun z => P z η2) fun C' fs => Zw C' fs η2
theorem zx_imetV (he : PE X o (up X.K T ta)) (c : ClX.CInst X.K C m q g) (Fn : FnR X.prog X.w X.K X.mg X.base (L2.CX X.prog X.w) k g (upSpX2 X.K T sp)) (tk : L2.Takes X (fun cls d _ H => E cls d H)) (hr : Room k X.A) (ha : PA X (e :: es) (upA X.K T t))
  (hst : starEach (e :: es) X.env = (false, eval e X.env) :: starEach es X.env := by rfl) (hpl : (backTo pos (starEach es X.env)).any (·.1) = false := by rfl)
  (ht : eval (.Call (.Attribute o m apos) (e :: es) [] pos) X.env = (do
   let ov ← eval o X.env
   standAt apos.atName
   let (f, first) ← holding [ov] (getMethod ov m pl)
   callWith pos f first (backTo pos (starEach (e :: es) X.env)) (backToKw pos (keywordEach [] X.env))) := by rfl) :
  PE X (.Call (.Attribute o m apos) (e :: es) [] pos) (upX X.K T (fun cls d _ H => E cls d H) (tIMetV C m sp ta t)) := by
 refine PE.weak (ClX.pe_imethD (E := E) he c Fn hr (L2.passes_call tk fun _ _ _ _ h => h) ha hst hpl ht) fun σ H Q qq => ?_
 obtain ⟨F, η, P, Zw, R, h, k, kx⟩ := qq
 refine ⟨F, η, _, R, h, fun x η1 v H1 h1 e1 R1 r1 => ?_⟩
 obtain ⟨⟨fs, rfl, hm⟩, h1⟩ := h1
 obtain ⟨a, dx, ws, rfl, na, q, rr⟩ := r1.ins_
 refine ⟨a, dx, ws, rfl, q, (rr.look m).2 hm, F, η1, _, R1, h1, fun args η2 vs H2 h2 e2 R2 r2 => ?_⟩
 obtain ⟨y, rest, rfl, hl, h2⟩ := h2
 have E2 := e1.trans e2
 refine ⟨Oof F σ η2, _, _, _, _, _, R2.trO, R2.tb, ?_, hl, h2, fun z v H3 pz g tb rz => k z η2 v H3 pz (E2.trans g.ext) (R2.gr g tb) rz, fun C' fs d H3 z g tb xa => kx C' fs η2 d σ H3 z (E2.trans g.ext) (R2.gr g tb) xa⟩
 unfold Reps
 exact ⟨_, vs, rfl, by unfold Rep; rfl, r2⟩
def tCMetKA (C : Addr) (S : Sp) (E : XK) (ta : TE) (tk : TA) : TE := fun σ H Q => ta σ H fun x H1 => x = .ref C ∧ tk σ H1 fun zs H2 => ∃ z, zs = [z] ∧ ∀ p, H2 p = none → S [.ref C, z, .ref p] (upd H2 p (.tup [])) Q E
theorem pe_cmetKA {S : Sp} {ta : TE} {tk : TA} {fd : FuncData} {p1 p2 pv : Str} {kws : List Keyword} (he : PE X o ta) (r : ClX.CRead X.K C mc) (c : ClX.CMet X.K C mc m q g) (F : FnA X.prog X.w X.K X.mg X.base k g fd [p1, p2] pv S) (hr : Room k X.A)
  (hb : ∀ (u v : Value), bindArgs fd ⟨[u], [(p2, v)]⟩ = (newTuple [] >>= fun t => pure [(p1, u), (p2, v), (pv, t)])) (hx : Passes (L2.CX X.prog X.w) X E) (hkw : PK X kws tk)
  (hall : (backToKw pos (keywordEach kws X.env)).all (·.1.isSome) = true := by rfl) (hks : (backToKw pos (keywordEach kws X.env)).filterMap (·.1) = [p2] := by rfl)
  (hpl : ((backTo pos (starEach [] X.env)).any (·.1) || (backToKw pos (keywordEach kws X.env)).any (·.1.isNone)) = false := by rfl)
  (ht : eval (.Call (.Attribute o m apos) [] kws pos) X.env = (do
   let ov ← eval o X.env
   standAt apos.atName
   let (f, first) ← holding [ov] (getMethod ov m pl)
   callWith pos f first (backTo pos (starEach [] X.env)) (backToKw pos (keywordEach kws X.env))) := by rfl) :
  PE X (.Call (.Attribute o m apos) [] kws pos) (tCMetKA C S E ta tk) := by
 constructor
 intro pins s σ H Q I h
 refine PySem.W.methodCall_KW (pl := pl) (thn (he.run pins s σ H _ I h) fun u s1 hq => ?_) ht
 obtain ⟨x, H1, I1, rx, ex, qq⟩ := hq
 subst ex
 obtain rfl : u = Value.ref C := rx
 refine ClX.getmethcm_ok I1 r c fun s2 I2 => ?_
 refine PySem.W.callWith_of hpl (PySem.W.keeps_M (self := .ref C) c.fi) (PyProof.Rows.evalArgs_kw2_nil hall (thn (hkw.run pos _ s2 σ H1 _ I2 qq) fun ws s3 hq3 => ?_))
 obtain ⟨zs, H2, I3, rz, z, rfl, q2⟩ := hq3
 refine ⟨⟨ClX.pin_at I3, I3.kIn⟩, ?_⟩
 rw [hks]
 match ws, rz with
 | [w], .cons rw .nil =>
  have zz : wpAny (model X.prog X.w) X.A (call (.ref s1.heap.objs.size) [] ([p2].zip [w])) (EP X ((s1.heap.objs.size, PySem.W.methodObj (.ref g) (.ref C)) :: pins) σ Q) X.xe s3 := by
   refine wpAny_call (PySem.W.method_call (ClX.pin_at I3) (codeAny_mono (F X.A X.stack s3 H2 ⟨[.ref C], [p2].zip [w]⟩ [.ref C, w] [] [.ref C, z] [] Q E hr I3.env0 (hb _ _) rfl (.cons rfl (.cons rw .nil)) .nil (Nat.zero_le _) q2) fun r s' hq => ?_))
   cases r with
   | error e => exact hx _ σ H2 s3 e s' I3 hq
   | ok fl =>
    cases fl with
    | ret u => exact I3.after hq
    | next => exact False.elim hq
    | brk => exact False.elim hq
    | cont => exact False.elim hq
  exact thn zz fun _ _ y => ClX.unpinE y
def tCMetVK (C : Addr) (sp : SpX) (ta : TEp) (t : TAp) : TXp := fun η P Zw => ta η fun x η1 => x = .raw (.ref C) ∧ t η1 fun args η2 => ∃ y, args = [y] ∧ sp [.raw (.ref C), y, .tup []] (fun z => P z η2) fun C' fs => Zw C' fs η2
theorem zx_cmetVK {fd : FuncData} {p1 p2 pv : Str} {kws : List Keyword} (he : PE X o (up X.K T ta)) (r : ClX.CRead X.K C mc) (c : ClX.CMet X.K C mc m q g) (F : FnA X.prog X.w X.K X.mg X.base k g fd [p1, p2] pv (upSpX X.K T sp)) (hr : Room k X.A)
  (hb : ∀ (u v : Value), bindArgs fd ⟨[u], [(p2, v)]⟩ = (newTuple [] >>= fun t => pure [(p1, u), (p2, v), (pv, t)])) (tk : L2.Takes X (fun cls d _ H => E cls d H)) (hkw : PK X kws (upA X.K T t))
  (hall : (backToKw pos (keywordEach kws X.env)).all (·.1.isSome) = true := by rfl) (hks : (backToKw pos (keywordEach kws X.env)).filterMap (·.1) = [p2] := by rfl)
  (hpl : ((backTo pos (starEach [] X.env)).any (·.1) || (backToKw pos (keywordEach kws X.env)).any (·.1.isNone)) = false := by rfl)
  (ht : eval (.Call (.Attribute o m apos) [] kws pos) X.env = (do
   let ov ← eval o X.env
   standAt apos.atName
   let (f, first) ← holding [ov] (getMethod ov m pl)
   callWith pos f first (backTo pos (starEach [] X.env)) (backToKw pos (keywordEach kws X.env))) := by rfl) :
  PE X (.Call (.Attribute o m apos) [] kws pos) (upX X.K T (fun cls d _ H => E cls d H) (tCMetVK C sp ta t)) := by
 refine PE.weak (pe_cmetKA (E := E) he r c F hr hb (L2.passes_call tk fun _ _ _ _ h => h) hkw hall hks hpl ht) fun σ H Q qq => ?_
 obtain ⟨F, η, P, Zw, R, h, k, kx⟩ := qq
 refine ⟨F, η, _, R, h, fun x η1 v H1 h1 e1 R1 r1 => ?_⟩
 obtain ⟨rfl, h1⟩ := h1
 unfold Rep at r1
 subst r1
 refine ⟨rfl, F, η1, _, R1, h1, fun args η2 vs H2 h2 e2 R2 r2 => ?_⟩
 obtain ⟨y, rfl, h2⟩ := h2
 have E2 := e1.trans e2
 have hr2 : upSpX2 X.K T sp (.ref C :: vs) H2 (Q) (fun cls d H' => E cls d H') := by
  refine ⟨Oof F σ η2, .raw (.ref C), y, [], _, _, R2.trO, R2.tb, ?_, Nat.zero_le _, h2, fun z v H3 pz g tb rz => k z η2 v H3 pz (E2.trans g.ext) (R2.gr g tb) rz, fun C' fs d H3 z g tb xa => kx C' fs η2 d σ H3 z (E2.trans g.ext) (R2.gr g tb) xa⟩
  unfold Reps
  exact ⟨_, vs, rfl, by unfold Rep; rfl, r2⟩
 obtain ⟨z, us, rfl, rz, r3⟩ := r2.inv
 cases r3.inv0
 obtain ⟨ws, rest, ee, hl, _, hsp⟩ := upSpX2_raw hr2
 match ws, hl with
 | [a, b], _ =>
  have e3 : (V.ref C) = a ∧ z = b ∧ [] = rest := by
   injection ee with h1 h2
   injection h2 with h3 h4
   exact ⟨h1, h3, h4⟩
  obtain ⟨rfl, rfl, rfl⟩ := e3
  exact ⟨z, rfl, hsp⟩
end
def Kn (K : PySem.W.Frag) (x : PV) : Prop := (tyN x).isSome = true ∨ ∃ C fs, x = .ins C fs ∧ ClsT K C
def isInt : PV → Bool
 | .int _ => true
 | _ => false
def isStn : PV → Bool
 | .int i => decide (0 ≤ i)
 | _ => false
def isLat (s : Int) : PV → Bool
 | .int i => decide (s < i)
 | _ => false
def abc : Str := ("abcdefghijklmnopqrstuvwxyz" : Str)
def isNm : PV → Bool
 | .str z => decide (1 ≤ z.length) && (decide (z.length ≤ 8) && z.cps.toList.all fun c => decide (c ∈ abc.cps.toList))
 | _ => false
abbrev Trip := Str × Int × Int
def rowP (r : Trip) : PV := .tup [.str r.1, .int r.2.1, .int r.2.2]
def rowsP (rs : List Trip) : PV := .tup (rs.map rowP)
structure Rw (rs : List Trip) : Prop where
 len : rs.length ≤ 24
 each : ∀ r ∈ rs, isNm (.str r.1) = true ∧ 0 ≤ r.2.1 ∧ r.2.1 < r.2.2
 asc : rs.Pairwise fun a b => a.1.cps.toList < b.1.cps.toList
def queueP (rs : List Trip) : PV := .tup ((rs.map rowP).mergeSort (PySem.W.dataLe false (keyP 1 0)))
def lineF (n : Int) (rs : List Trip) : List (Str × PV) := [(("seat_count" : Str), .int n), (("rows" : Str), rowsP rs), (("queue" : Str), queueP rs)]
def lineP (C : Addr) (n : Int) (rs : List Trip) : PV := .ins C (lineF n rs)
abbrev PrP := PySem.W.Frag → Addr → SpP
def sp_is_integer : PrP := fun K _ args P => ∃ x, args = [x] ∧ Kn K x ∧ P (.bl (isInt x))
def sp_is_station : PrP := fun K _ args P => ∃ x, args = [x] ∧ Kn K x ∧ P (.bl (isStn x))
def sp_is_later : PrP := fun K _ args P => ∃ x s, args = [x, .int s] ∧ Kn K x ∧ P (.bl (isLat s x))
def sp_is_trip_name : PrP := fun K _ args P => ∃ x, args = [x] ∧ Kn K x ∧ (∀ z, x = .str z → z.length ≤ sizeLine) ∧ P (.bl (isNm x))
def sp_Line_trips : PrP := fun K C args P => ∃ n rs, args = [lineP C n rs] ∧ P (rowsP rs)
def sp_law_cell : PrP := fun K _ args P => ∃ ns k, args = [.scr ns, .int k] ∧ 0 ≤ k ∧ k < 100 ∧ ∀ c, P (.int c)
def sp_law_pool : PySem.W.Frag → Addr → SpF := fun K _ args P => ∃ c, args = [.int c] ∧ ∀ s d, 0 ≤ s → s < 1000000007 → 0 ≤ d → P [.int s, .int d, .int 0]
def Pool (o : Ow) : Prop := ∃ s d c, o = .l [.int s, .int d, .int c] ∧ 0 ≤ s ∧ s < 1000000007 ∧ 0 ≤ d
abbrev PrR := PySem.W.Frag → Addr → SpR
def sp_law_draw : PrR := fun K _ o args P => ∃ m : Int, Pool o ∧ args = [.int m] ∧ 0 < m ∧ m < 10 ^ 40 ∧ ∀ o' (k : Int), Pool o' → 0 ≤ k → k < m → P (.int k) o'
def Nms (ws : List Str) : Prop := (∀ w ∈ ws, isNm (.str w) = true) ∧ ws.Nodup
def sp_law_words : PrR := fun K _ o args P => ∃ m : Int, Pool o ∧ args = [.int m] ∧ 0 ≤ m ∧ m ≤ 24 ∧ ∀ o' ws, Pool o' → ws.length = m.toNat → Nms ws → P (.lst (ws.map .str)) o'
def sp_law_far : PrR := fun K _ o args P => ∃ h : Int, Pool o ∧ args = [.int h] ∧ 0 ≤ h ∧ h ≤ 30 ∧ ∀ o' (xs : List Int), Pool o' → xs.length = (h + 1).toNat → xs.Pairwise (· < ·) → (∀ x ∈ xs, 0 ≤ x ∧ x < 10 ^ 40) → P (.lst (xs.map .int)) o'
def sp_law_rides : PrR := fun K _ o args P => ∃ ws h, Pool o ∧ args = [.lst (ws.map .str), .int h] ∧ Nms ws ∧ ws.length ≤ 24 ∧ 1 ≤ h ∧ h ≤ 30 ∧ ∀ o' rs, Pool o' → Rw rs → rs.length = ws.length → (∀ r ∈ rs, r.1 ∈ ws ∧ r.2.2 < 10 ^ 40) → P (rowsP rs) o'
def ts_is_integer (K : PySem.W.Frag) (CLine : Addr) : TSp := tRetP (tAndVP (tCBP (rIsI K) (tConsP (tVarP 0) (tConsP (tConP (.raw (.ty "int"))) (tNilP)))) (tNotVP (tCBP (rIsI K) (tConsP (tVarP 0) (tConsP (tConP (.raw (.ty "bool"))) (tNilP))))))
def ts_is_station (K : PySem.W.Frag) (CLine : Addr) : TSp := tRetP (tAndVP (tCallP (sp_is_integer K CLine) [] (tConsP (tVarP 0) (tNilP))) (tOpP rGe (tVarP 0) (tConP (.int 0))))
def ts_is_later (K : PySem.W.Frag) (CLine : Addr) : TSp := tRetP (tAndVP (tCallP (sp_is_integer K CLine) [] (tConsP (tVarP 0) (tNilP))) (tOpP rGt (tVarP 0) (tVarP 1)))
def ts_is_trip_name (K : PySem.W.Frag) (CLine : Addr) : TSp := tSeqP (tIfSP (tOrP (tNotP (tBlP (tCBP (rIsI K) (tConsP (tVarP 0) (tConsP (tConP (.raw (.ty "str"))) (tNilP)))))) (tNotP (tBlP (tChainP rLe rLe (tConP (.int 1)) (tCBP rLen (tConsP (tVarP 0) (tNilP))) (tConP (.int 8)))))) (tRetP (tConP (.bl false))) (tNextP)) (tRetP (tCBP rAllP (tConsP (tValP (tLcP (iStrP (tVarP 0)) (gNameP 1) (tYesP) (tOpP (rInS false) (tVarP 1) (tConP (.str ("abcdefghijklmnopqrstuvwxyz" : Str)))) [1])) (tNilP))))
def ts_Line_trips (K : PySem.W.Frag) (CLine : Addr) : TSp := tRetP (tFldP CLine ("rows" : Str) (tVarP 0))
def ts_law_cell (K : PySem.W.Frag) (CLine : Addr) : TSp := tSeqP (tIfSP (tBlP (tOpP rLt (tVarP 1) (tCBP rLen (tConsP (tVarP 0) (tNilP))))) (tRetP (tOpP rIxP (tVarP 0) (tVarP 1))) (tNextP)) (tSeqP (tSetP 2 (tOpP rMod (tOpP rMulA (tConP (.int 50021)) (tOpP rAdd (tOpP rAdd (tOpP rMulA (tVarP 1) (tVarP 1)) (tOpP rMulA (tConP (.int 7)) (tVarP 1))) (tConP (.int 3)))) (tConP (.int 1000000007)))) (tSeqP (tForP (iListP (tSliceP (tVarP 0) (tNoPartP) (tPartP (tConP (.int 3))))) (gNameP 3) (tSetP 2 (tOpP rMod (tOpP rAdd (tOpP rMulA (tVarP 2) (tConP (.int 30011))) (tVarP 3)) (tConP (.int 1000000007))))) (tRetP (tVarP 2))))
def ts_law_pool (K : PySem.W.Frag) (CLine : Addr) : TFp := tSeqFP (tSetP 1 (tConP (.int 0))) (tSeqFP (tIfSP (tOrP (tBlP (tOpP rLt (tVarP 0) (tConP (.int 0)))) (tBlP (tOpP rGe (tVarP 0) (tOpP rPow (tConP (.int 10)) (tConP (.int 18)))))) (tSetP 1 (tCBP rAbs (tConsP (tVarP 0) (tNilP)))) (tNextP)) (tLstFP (tConsP (tOpP rMod (tVarP 0) (tConP (.int 1000000007))) (tConsP (tVarP 1) (tConsP (tConP (.int 0)) (tNilP))))))
def ts_law_draw (K : PySem.W.Frag) (CLine : Addr) : TSp := tSeqP (tAsgP (tOpP rAdd (tIxOP 0 (tConP (.int 2))) (tConP (.int 1))) (gSubP 0 (tConP (.int 2)))) (tSeqP (tSetP 2 (tIxOP 0 (tConP (.int 0)))) (tSeqP (tAsgP (tOpP rMod (tOpP rAdd (tOpP rAdd (tOpP rMulA (tVarP 2) (tOpP rAdd (tOpP rMod (tVarP 2) (tConP (.int 46007))) (tConP (.int 20011)))) (tOpP rMulA (tConP (.int 60013)) (tIxOP 0 (tConP (.int 2))))) (tConP (.int 5))) (tConP (.int 1000000007))) (gSubP 0 (tConP (.int 0)))) (tSeqP (tIfSP (tBlP (tOpP rGt (tIxOP 0 (tConP (.int 1))) (tConP (.int 0)))) (tSeqP (tAsgP (tCBP rDivmodW (tConsP (tIxOP 0 (tConP (.int 1))) (tConsP (tVarP 1) (tNilP)))) (gTupP 2 (gConsP (gSubP 0 (tConP (.int 1))) (gConsP (gNameP 3) (gNilP))))) (tRetP (tVarP 3))) (tNextP)) (tRetP (tOpP rMod (tOpP rDiv (tIxOP 0 (tConP (.int 0))) (tConP (.int 32))) (tVarP 1))))))
def ts_law_words (K : PySem.W.Frag) (CLine : Addr) : TSp := tSeqP (tSetP 2 (tConP (.str ("abcdefghijklmnopqrstuvwxyz" : Str)))) (tSeqP (tSetP 3 (tLstP (tConsP (tConP (.str ("book" : Str))) (tConsP (tConP (.str ("cancel" : Str))) (tConsP (tConP (.str ("exchange" : Str))) (tConsP (tConP (.str ("shift" : Str))) (tConsP (tConP (.str ("seats" : Str))) (tConsP (tConP (.str ("undo" : Str))) (tConsP (tConP (.str ("show" : Str))) (tConsP (tConP (.str ("line" : Str))) (tConsP (tConP (.str ("count" : Str))) (tConsP (tConP (.str ("number" : Str))) (tConsP (tConP (.str ("load" : Str))) (tConsP (tConP (.str ("trip" : Str))) (tNilP))))))))))))))) (tSeqP (tSetP 3 (tOpP rAdd (tVarP 3) (tLstP (tConsP (tConP (.str ("none" : Str))) (tConsP (tConP (.str ("cut" : Str))) (tConsP (tConP (.str ("overfull" : Str))) (tConsP (tConP (.str ("a" : Str))) (tConsP (tConP (.str ("b" : Str))) (tConsP (tConP (.str ("x" : Str))) (tConsP (tConP (.str ("plan" : Str))) (tConsP (tConP (.str ("route" : Str))) (tConsP (tConP (.str ("fixed" : Str))) (tConsP (tConP (.str ("full" : Str))) (tConsP (tConP (.str ("goal" : Str))) (tConsP (tConP (.str ("name" : Str))) (tNilP)))))))))))))))) (tSeqP (tAsgP (tTupP (tConsP (tCallRP 0 (sp_law_draw K CLine) (tConsP (tConP (.int 3)) (tNilP))) (tConsP (tCallRP 0 (sp_law_draw K CLine) (tConsP (tConP (.int 24)) (tNilP))) (tNilP)))) (gTupP 2 (gConsP (gNameP 4) (gConsP (gNameP 5) (gNilP))))) (tSeqP (tIfSP (tBlP (tOpP (rEqP false) (tVarP 4) (tConP (.int 0)))) (tRetP (tValP (tLcP (iRng1P (tVarP 1)) (gNameP 8) (tYesP) (tOpP rIxP (tVarP 3) (tOpP rMod (tOpP rAdd (tVarP 5) (tOpP rMulA (tConP (.int 5)) (tVarP 8))) (tConP (.int 24)))) [8]))) (tNextP)) (tSeqP (tIfSP (tBlP (tOpP (rEqP false) (tVarP 4) (tConP (.int 1)))) (tRetP (tValP (tLcP (iRng1P (tVarP 1)) (gNameP 8) (tYesP) (tOpP rMulA (tOpP rIxP (tVarP 2) (tOpP rMod (tOpP rAdd (tVarP 5) (tOpP rMulA (tConP (.int 7)) (tVarP 8))) (tConP (.int 26)))) (tOpP rAdd (tConP (.int 1)) (tOpP rMod (tVarP 8) (tConP (.int 8))))) [8]))) (tNextP)) (tSeqP (tSetP 6 (tJoinP (tConP (.str ("" : Str))) (tValP (tLcP (iRng1P (tCallRP 0 (sp_law_draw K CLine) (tConsP (tConP (.int 8)) (tNilP)))) (gNameP 8) (tYesP) (tOpP rIxP (tVarP 2) (tCallRP 0 (sp_law_draw K CLine) (tConsP (tConP (.int 26)) (tNilP)))) [8])))) (tSeqP (tSetP 7 (tCallRP 0 (sp_law_draw K CLine) (tConsP (tOpP rAdd (tCBP rLen (tConsP (tVarP 6) (tNilP))) (tConP (.int 1))) (tNilP)))) (tRetP (tValP (tLcP (iRng1P (tVarP 1)) (gNameP 8) (tYesP) (tOpP rAdd (tOpP rAdd (tSliceP (tVarP 6) (tNoPartP) (tPartP (tVarP 7))) (tOpP rIxP (tVarP 2) (tOpP rMod (tOpP rAdd (tVarP 5) (tOpP rMulA (tConP (.int 5)) (tVarP 8))) (tConP (.int 26))))) (tSliceP (tVarP 6) (tPartP (tVarP 7)) (tNoPartP))) [8]))))))))))
def ts_law_far (K : PySem.W.Frag) (CLine : Addr) : TSp := tSeqP (tParP [2, 3, 4] (tConsF (tLstFP (tNilP)) (tConsV (tCallRP 0 (sp_law_draw K CLine) (tConsP (tConP (.int 3)) (tNilP))) (tConsV (tCallRP 0 (sp_law_draw K CLine) (tConsP (tConP (.int 3)) (tNilP))) (tNilAr))))) (tSeqP (tForP (iRng1P (tOpP rAdd (tVarP 1) (tConP (.int 1)))) (gNameP 5) (tSeqP (tAppP 2 (tIfP (tBlP (tOpP rGt (tVarP 4) (tConP (.int 0)))) (tVarP 5) (tVarP 3))) (tSetP 3 (tOpP rAdd (tOpP rAdd (tVarP 3) (tConP (.int 1))) (tOpP rIxP (tLstP (tConsP (tConP (.int 0)) (tConsP (tCallRP 0 (sp_law_draw K CLine) (tConsP (tConP (.int 9)) (tNilP))) (tConsP (tOpP rPow (tConP (.int 10)) (tConP (.int 29))) (tNilP))))) (tCallRP 0 (sp_law_draw K CLine) (tConsP (tConP (.int 3)) (tNilP)))))))) (tRetP (tVarP 2)))
def ts_law_rides (K : PySem.W.Frag) (CLine : Addr) : TSp := tSeqP (tParP [3, 4, 5] (tConsV (tCallRP 0 (sp_law_far K CLine) (tConsP (tVarP 2) (tNilP))) (tConsF (tLstFP (tNilP)) (tConsV (tConP (.int 0)) (tNilAr))))) (tSeqP (tForP (iListP (tVarP 1)) (gNameP 6) (tSeqP (tSetP 7 (tCallRP 0 (sp_law_draw K CLine) (tConsP (tConP (.int 4)) (tNilP)))) (tSeqP (tSetP 8 (tIfP (tAndP (tBlP (tOpP (rEqP false) (tVarP 7) (tConP (.int 0)))) (tBlP (tOpP rLt (tVarP 5) (tVarP 2)))) (tVarP 5) (tCallRP 0 (sp_law_draw K CLine) (tConsP (tVarP 2) (tNilP))))) (tSeqP (tSetP 5 (tOpP rAdd (tOpP rAdd (tVarP 8) (tConP (.int 1))) (tCallRP 0 (sp_law_draw K CLine) (tConsP (tIfP (tBlP (tOpP rGt (tOpP rSub (tVarP 2) (tVarP 8)) (tConP (.int 1)))) (tOpP rIxP (tLstP (tConsP (tConP (.int 1)) (tConsP (tConP (.int 2)) (tConsP (tOpP rSub (tVarP 2) (tVarP 8)) (tConsP (tOpP rSub (tVarP 2) (tVarP 8)) (tNilP)))))) (tVarP 7)) (tConP (.int 1))) (tNilP))))) (tSeqP (tSetP 5 (tCBP rMin2 (tConsP (tVarP 5) (tConsP (tVarP 2) (tNilP))))) (tAppP 4 (tTupP (tConsP (tVarP 6) (tConsP (tOpP rIxP (tVarP 3) (tVarP 8)) (tConsP (tOpP rIxP (tVarP 3) (tVarP 5)) (tNilP))))))))))) (tRetP (tCBP rTuple (tConsP (tCBP rSortD (tConsP (tVarP 4) (tNilP))) (tNilP)))))
section
variable {K : PySem.W.Frag} {C : Addr} {args : List PV} {P : PV → Prop} {PR : PV → Ow → Prop} {PF : List PV → Prop} {o : Ow}
theorem len_is_integer (h : sp_is_integer K C args P) : args.length = 1 := by
 unfold sp_is_integer at h
 first | (obtain ⟨_, rfl, _⟩ := h; rfl) | (obtain ⟨_, _, rfl, _⟩ := h; rfl)
theorem len_is_station (h : sp_is_station K C args P) : args.length = 1 := by
 unfold sp_is_station at h
 first | (obtain ⟨_, rfl, _⟩ := h; rfl) | (obtain ⟨_, _, rfl, _⟩ := h; rfl)
theorem len_is_later (h : sp_is_later K C args P) : args.length = 2 := by
 unfold sp_is_later at h
 first | (obtain ⟨_, rfl, _⟩ := h; rfl) | (obtain ⟨_, _, rfl, _⟩ := h; rfl)
theorem len_is_trip_name (h : sp_is_trip_name K C args P) : args.length = 1 := by
 unfold sp_is_trip_name at h
 first | (obtain ⟨_, rfl, _⟩ := h; rfl) | (obtain ⟨_, _, rfl, _⟩ := h; rfl)
theorem len_Line_trips (h : sp_Line_trips K C args P) : args.length = 1 := by
 unfold sp_Line_trips at h
 first | (obtain ⟨_, rfl, _⟩ := h; rfl) | (obtain ⟨_, _, rfl, _⟩ := h; rfl)
theorem len_law_cell (h : sp_law_cell K C args P) : args.length = 2 := by
 unfold sp_law_cell at h
 first | (obtain ⟨_, rfl, _⟩ := h; rfl) | (obtain ⟨_, _, rfl, _⟩ := h; rfl)
theorem len_law_pool (h : sp_law_pool K C args PF) : args.length = 1 := by
 unfold sp_law_pool at h
 first | (obtain ⟨_, rfl, _⟩ := h; rfl) | (obtain ⟨_, _, rfl, _⟩ := h; rfl)
theorem len_law_draw (h : sp_law_draw K C o args PR) : args.length = 1 := by
 unfold sp_law_draw at h
 first | (obtain ⟨_, _, rfl, _⟩ := h; rfl) | (obtain ⟨_, _, _, rfl, _⟩ := h; rfl)
theorem len_law_words (h : sp_law_words K C o args PR) : args.length = 1 := by
 unfold sp_law_words at h
 first | (obtain ⟨_, _, rfl, _⟩ := h; rfl) | (obtain ⟨_, _, _, rfl, _⟩ := h; rfl)
theorem len_law_far (h : sp_law_far K C o args PR) : args.length = 1 := by
 unfold sp_law_far at h
 first | (obtain ⟨_, _, rfl, _⟩ := h; rfl) | (obtain ⟨_, _, _, rfl, _⟩ := h; rfl)
theorem len_law_rides (h : sp_law_rides K C o args PR) : args.length = 2 := by
 unfold sp_law_rides at h
 first | (obtain ⟨_, _, rfl, _⟩ := h; rfl) | (obtain ⟨_, _, _, rfl, _⟩ := h; rfl)
theorem rIsI_ty {x : PV} {n : String} {Q : PV → Prop} : rIsI K [x, .raw (.ty n)] Q = (match tyN x with
  | some t => ∃ b, kitB t n = some b ∧ Q (.bl b)
  | none => match x with
   | .ins C _ => ClsT K C ∧ n ∈ ["int", "bool", "str", "tuple", "list", "dict"] ∧ Q (.bl false)
   | _ => False) := rfl
theorem isi_ty {x : PV} {n : String} {Q : PV → Prop} (h : Kn K x) (hn : n ∈ ["int", "bool", "str", "tuple", "list", "dict"]) (q : ∀ b, (∀ t, tyN x = some t → kitB t n = some b) → (tyN x = none → b = false) → Q (.bl b)) : rIsI K [x, .raw (.ty n)] Q := by
 rw [rIsI_ty]
 split
 ·rename_i t e
  have : ∃ b, kitB t n = some b := by
   have ht : t ∈ ["NoneType", "int", "bool", "str", "tuple", "list", "dict"] := by cases x <;> simp [tyN] at e <;> subst e <;> decide
   simp only [List.mem_cons, List.not_mem_nil, or_false] at hn ht
   rcases hn with rfl | rfl | rfl | rfl | rfl | rfl <;> rcases ht with rfl | rfl | rfl | rfl | rfl | rfl | rfl <;> first | exact ⟨true, by decide +kernel⟩ | exact ⟨false, by decide +kernel⟩
  obtain ⟨b, hb⟩ := this
  exact ⟨b, hb, q b (fun t' z => by cases e.symm.trans z; exact hb) fun z => by rw [z] at e; cases e⟩
 ·rename_i e
  rcases h with h | ⟨D, fs, rfl, cl⟩
  ·rw [e] at h; cases h
  ·exact ⟨cl, hn, q false (fun t z => nomatch z) fun _ => rfl⟩
theorem isi_is {x : PV} {n : String} {f : PV → Bool} {Q : PV → Prop} (h : Kn K x) (hn : n ∈ ["int", "bool", "str", "tuple", "list", "dict"]) (hf : ∀ x t, tyN x = some t → kitB t n = some (f x)) (h0 : ∀ x, tyN x = none → f x = false) (q : Q (.bl (f x))) : rIsI K [x, .raw (.ty n)] Q := by
 refine isi_ty h hn fun b h1 h2 => ?_
 cases e : tyN x with
 | some t =>
  have := (h1 t e).symm.trans (hf x t e)
  cases this
  exact q
 | none => rw [h2 e, ← h0 x e]; exact q
def isIb : PV → Bool
 | .int _ => true
 | .bl _ => true
 | _ => false
def isBl : PV → Bool
 | .bl _ => true
 | _ => false
def isSt : PV → Bool
 | .str _ => true
 | _ => false
def isTu : PV → Bool
 | .tup _ => true
 | _ => false
theorem isi_int {x : PV} {Q : PV → Prop} (h : Kn K x) (q : Q (.bl (isIb x))) : rIsI K [x, .raw (.ty "int")] Q :=
 isi_is h (by decide) (fun x t e => by cases x <;> simp [tyN] at e <;> subst e <;> first | (show kitB _ _ = some true; decide +kernel) | (show kitB _ _ = some false; decide +kernel)) (fun x e => by cases x <;> simp [tyN] at e <;> rfl) q
theorem isi_bool {x : PV} {Q : PV → Prop} (h : Kn K x) (q : Q (.bl (isBl x))) : rIsI K [x, .raw (.ty "bool")] Q :=
 isi_is h (by decide) (fun x t e => by cases x <;> simp [tyN] at e <;> subst e <;> first | (show kitB _ _ = some true; decide +kernel) | (show kitB _ _ = some false; decide +kernel)) (fun x e => by cases x <;> simp [tyN] at e <;> rfl) q
theorem isi_str {x : PV} {Q : PV → Prop} (h : Kn K x) (q : Q (.bl (isSt x))) : rIsI K [x, .raw (.ty "str")] Q :=
 isi_is h (by decide) (fun x t e => by cases x <;> simp [tyN] at e <;> subst e <;> first | (show kitB _ _ = some true; decide +kernel) | (show kitB _ _ = some false; decide +kernel)) (fun x e => by cases x <;> simp [tyN] at e <;> rfl) q
theorem isi_tuple {x : PV} {Q : PV → Prop} (h : Kn K x) (q : Q (.bl (isTu x))) : rIsI K [x, .raw (.ty "tuple")] Q :=
 isi_is h (by decide) (fun x t e => by cases x <;> simp [tyN] at e <;> subst e <;> first | (show kitB _ _ = some true; decide +kernel) | (show kitB _ _ = some false; decide +kernel)) (fun x e => by cases x <;> simp [tyN] at e <;> rfl) q
theorem rd_is_integer (h : sp_is_integer K C args P) : ts_is_integer K C { nx := fun _ => P .non, rt := fun x _ => P x } (startP 1 args) := by
 obtain ⟨x, rfl, hk, hp⟩ := h
 have e : startP 1 [x] = [.va x] := rfl
 simp only [ts_is_integer, e, tLcP, tForP, iStrP, iListP, iTupP, iRng1P, iRng2P, iEnumP, wipeP, tAppP, tJoinP, tSeqP, tRetP, tRetNP, tIfSP, tNextP, tNevP, tSetP, tSetFP, tDropP, tAsgP, gNameP, gNilP, gConsP, gTupP, tAndVP, tNotVP, tOrVP, tCBP, tConsP, tNilP, tVarP, tConP, tBlP, tOrP, tAndP, tNotP, tOpP, tChainP, tCallP, tCallFP, tTupP, tLstP, tLstFP, tValP, tIfP, tNegP, tSliceP, tNoPartP, tPartP, tSeqFP, tYesP, frz, List.getElem?_cons_zero, List.getElem?_cons_succ, List.set_cons_zero, List.set_cons_succ, List.append_nil, List.length_cons, List.length_nil, Nat.zero_add]
 refine isi_int hk ?_
 cases x <;> first | exact isi_bool hk hp | exact hp
theorem rd_is_station (h : sp_is_station K C args P) : ts_is_station K C { nx := fun _ => P .non, rt := fun x _ => P x } (startP 1 args) := by
 obtain ⟨x, rfl, hk, hp⟩ := h
 have e : startP 1 [x] = [.va x] := rfl
 simp only [ts_is_station, e, tLcP, tForP, iStrP, iListP, iTupP, iRng1P, iRng2P, iEnumP, wipeP, tAppP, tJoinP, tSeqP, tRetP, tRetNP, tIfSP, tNextP, tNevP, tSetP, tSetFP, tDropP, tAsgP, gNameP, gNilP, gConsP, gTupP, tAndVP, tNotVP, tOrVP, tCBP, tConsP, tNilP, tVarP, tConP, tBlP, tOrP, tAndP, tNotP, tOpP, tChainP, tCallP, tCallFP, tTupP, tLstP, tLstFP, tValP, tIfP, tNegP, tSliceP, tNoPartP, tPartP, tSeqFP, tYesP, frz, List.getElem?_cons_zero, List.getElem?_cons_succ, List.set_cons_zero, List.set_cons_succ, List.append_nil, List.length_cons, List.length_nil, Nat.zero_add]
 refine ⟨x, rfl, hk, ?_⟩
 cases x <;> exact hp
theorem rd_is_later (h : sp_is_later K C args P) : ts_is_later K C { nx := fun _ => P .non, rt := fun x _ => P x } (startP 2 args) := by
 obtain ⟨x, s, rfl, hk, hp⟩ := h
 have e : startP 2 [x, .int s] = [.va x, .va (.int s)] := rfl
 simp only [ts_is_later, e, tLcP, tForP, iStrP, iListP, iTupP, iRng1P, iRng2P, iEnumP, wipeP, tAppP, tJoinP, tSeqP, tRetP, tRetNP, tIfSP, tNextP, tNevP, tSetP, tSetFP, tDropP, tAsgP, gNameP, gNilP, gConsP, gTupP, tAndVP, tNotVP, tOrVP, tCBP, tConsP, tNilP, tVarP, tConP, tBlP, tOrP, tAndP, tNotP, tOpP, tChainP, tCallP, tCallFP, tTupP, tLstP, tLstFP, tValP, tIfP, tNegP, tSliceP, tNoPartP, tPartP, tSeqFP, tYesP, frz, List.getElem?_cons_zero, List.getElem?_cons_succ, List.set_cons_zero, List.set_cons_succ, List.append_nil, List.length_cons, List.length_nil, Nat.zero_add]
 refine ⟨x, rfl, hk, ?_⟩
 cases x <;> exact hp
theorem blsOf_map {α : Type} (f : α → Bool) : ∀ xs : List α, blsOf (xs.map fun c => PV.bl (f c)) = some (xs.map f)
 | [] => rfl
 | x :: xs => by rw [List.map_cons, blsOf, blsOf_map f xs]; rfl
theorem rd_is_trip_name (h : sp_is_trip_name K C args P) : ts_is_trip_name K C { nx := fun _ => P .non, rt := fun x _ => P x } (startP 2 args) := by
 obtain ⟨x, rfl, hk, hz, hp⟩ := h
 have e : startP 2 [x] = [.va x, .no] := rfl
 simp only [ts_is_trip_name, e, tLcP, tForP, iStrP, iListP, iTupP, iRng1P, iRng2P, iEnumP, wipeP, tAppP, tJoinP, tSeqP, tRetP, tRetNP, tIfSP, tNextP, tNevP, tSetP, tSetFP, tDropP, tAsgP, gNameP, gNilP, gConsP, gTupP, tAndVP, tNotVP, tOrVP, tCBP, tConsP, tNilP, tVarP, tConP, tBlP, tOrP, tAndP, tNotP, tOpP, tChainP, tCallP, tCallFP, tTupP, tLstP, tLstFP, tValP, tIfP, tNegP, tSliceP, tNoPartP, tPartP, tSeqFP, tYesP, frz, List.getElem?_cons_zero, List.getElem?_cons_succ, List.set_cons_zero, List.set_cons_succ, List.append_nil, List.length_cons, List.length_nil, Nat.zero_add]
 refine isi_str hk ?_
 cases x <;> try exact hp
 rename_i z
 have hz := hz z rfl
 simp only [isSt, rLe, rLen, rAllP, Bool.not_true, Bool.false_eq_true, if_false, tLcP, tForP, iStrP, iListP, iTupP, iRng1P, iRng2P, iEnumP, wipeP, tAppP, tJoinP, tSeqP, tRetP, tRetNP, tIfSP, tNextP, tNevP, tSetP, tSetFP, tDropP, tAsgP, gNameP, gNilP, gConsP, gTupP, tAndVP, tNotVP, tOrVP, tCBP, tConsP, tNilP, tVarP, tConP, tBlP, tOrP, tAndP, tNotP, tOpP, tChainP, tCallP, tCallFP, tTupP, tLstP, tLstFP, tValP, tIfP, tNegP, tSliceP, tNoPartP, tPartP, tSeqFP, tYesP, frz, List.getElem?_cons_zero, List.getElem?_cons_succ, List.set_cons_zero, List.set_cons_succ, List.append_nil, List.length_cons, List.length_nil, Nat.zero_add]
 refine ⟨hz, _, rfl, ?_⟩
 by_cases h1 : (1 : Int) ≤ z.length
 ·rw [decide_eq_true h1]
  by_cases h2 : (z.length : Int) ≤ 8
  ·simp only [decide_eq_true h2, if_true, Bool.not_true, Bool.false_eq_true, if_false, tLcP, tForP, iStrP, iListP, iTupP, iRng1P, iRng2P, iEnumP, wipeP, tAppP, tJoinP, tSeqP, tRetP, tRetNP, tIfSP, tNextP, tNevP, tSetP, tSetFP, tDropP, tAsgP, gNameP, gNilP, gConsP, gTupP, tAndVP, tNotVP, tOrVP, tCBP, tConsP, tNilP, tVarP, tConP, tBlP, tOrP, tAndP, tNotP, tOpP, tChainP, tCallP, tCallFP, tTupP, tLstP, tLstFP, tValP, tIfP, tNegP, tSliceP, tNoPartP, tPartP, tSeqFP, tYesP, frz, List.getElem?_cons_zero, List.getElem?_cons_succ, List.set_cons_zero, List.set_cons_succ, List.append_nil, List.length_cons, List.length_nil, Nat.zero_add]
   refine ⟨fun i acc η => acc = (z.cps.toList.take i).map (fun c => .bl (decide (c ∈ abc.cps.toList))) ∧ η = [.va (.str z), .no], ⟨rfl, rfl⟩, ?_, ?_⟩
   ·rintro i y acc η hi ⟨rfl, rfl⟩
    rw [List.getElem?_map] at hi
    cases q : z.cps.toList[i]? with
    | none => rw [q] at hi; cases hi
    | some c =>
     rw [q] at hi; cases hi
     have hil : i < z.cps.toList.length := (List.getElem?_eq_some_iff.mp q).1
     simp only [rInS, if_true, tLcP, tForP, iStrP, iListP, iTupP, iRng1P, iRng2P, iEnumP, wipeP, tAppP, tJoinP, tSeqP, tRetP, tRetNP, tIfSP, tNextP, tNevP, tSetP, tSetFP, tDropP, tAsgP, gNameP, gNilP, gConsP, gTupP, tAndVP, tNotVP, tOrVP, tCBP, tConsP, tNilP, tVarP, tConP, tBlP, tOrP, tAndP, tNotP, tOpP, tChainP, tCallP, tCallFP, tTupP, tLstP, tLstFP, tValP, tIfP, tNegP, tSliceP, tNoPartP, tPartP, tSeqFP, tYesP, frz, List.getElem?_cons_zero, List.getElem?_cons_succ, List.set_cons_zero, List.set_cons_succ, List.append_nil, List.length_cons, List.length_nil, Nat.zero_add]
     refine ⟨c, rfl, ?_, ?_, trivial⟩
     ·rw [List.length_map, List.length_take]
      have : sizeLine > 100 := by decide
      have : z.length = z.cps.toList.length := by simp [Str.length]
      omega
     ·simp only [Bool.false_eq_true, if_false]
      rw [List.take_succ, q]
      simp [abc]
   ·rintro acc η ⟨rfl, rfl⟩
    rw [List.length_map, List.take_length]
    refine ⟨_, blsOf_map _ _, ?_⟩
    have : (isNm (.str z)) = ((z.cps.toList.map fun c => decide (c ∈ abc.cps.toList)).all id) := by
     have h1' : 1 ≤ z.length := by omega
     have h2' : z.length ≤ 8 := by omega
     simp [isNm, h1', h2']
    rw [← this]
    exact hp
  ·simp only [decide_eq_false h2, if_true, Bool.not_false]
   have : isNm (.str z) = false := by
    have h2' : ¬ z.length ≤ 8 := by omega
    simp [isNm, h2']
   rw [this] at hp
   exact hp
 ·simp only [decide_eq_false h1, Bool.false_eq_true, if_false, if_true, Bool.not_false]
  have : isNm (.str z) = false := by
   have h2' : ¬ 1 ≤ z.length := by omega
   simp only [isNm, decide_eq_false h2', Bool.false_and]
  rw [this] at hp
  exact hp
theorem Kn.i {i : Int} : Kn K (.int i) := .inl rfl
theorem Kn.s {i : Str} : Kn K (.str i) := .inl rfl
theorem Kn.t {xs : List PV} : Kn K (.tup xs) := .inl rfl
theorem rd_Line_trips (h : sp_Line_trips K C args P) : ts_Line_trips K C { nx := fun _ => P .non, rt := fun x _ => P x } (startP 1 args) := by
 obtain ⟨n, rs, rfl, hp⟩ := h
 exact ⟨rfl, _, rfl, hp⟩
end
section
variable {K : PySem.W.Frag} {P : PV → Prop} {i j : Int} {x y : PV} {xs ys : List PV} {a b : Str} {η : EP'} {Q : PV → EP' → Prop} {R : EP' → Prop} {n : Nat}
theorem q_add (h : P (.int (i + j))) : rAdd (.int i) (.int j) P := h
theorem q_addS (l : a.length + b.length ≤ sizeLine) (h : P (.str (a ++ b))) : rAdd (.str a) (.str b) P := ⟨l, h⟩
theorem q_addL (l : xs.length + ys.length ≤ sizeLine) (h : P (.lst (xs ++ ys))) : rAdd (.lst xs) (.lst ys) P := ⟨l, h⟩
theorem q_sub (h : P (.int (i - j))) : rSub (.int i) (.int j) P := h
theorem q_mul (c : CMul i j) (h : P (.int (i * j))) : rMulA (.int i) (.int j) P := .inl ⟨c, h⟩
theorem q_mulS (h1 : 1 ≤ j) (h2 : j ≤ 1000) (l : a.length ≤ 1000) (h : P (.str (strRep a j.toNat))) : rMulA (.str a) (.int j) P := .inr ⟨h1, h2, l, h⟩
theorem q_div (c : CDiv i j) (h : P (.int (i / j))) : rDiv (.int i) (.int j) P := ⟨c, h⟩
theorem q_mod (c : 0 < j) (h : P (.int (i % j))) : rMod (.int i) (.int j) P := ⟨c, h⟩
theorem q_pow (c : CPow i j) (h : P (.int (i ^ j.toNat))) : rPow (.int i) (.int j) P := ⟨c, h⟩
theorem q_lt (h : P (.bl (decide (i < j)))) : rLt (.int i) (.int j) P := h
theorem q_gt (h : P (.bl (decide (j < i)))) : rGt (.int i) (.int j) P := h
theorem q_ge (h : P (.bl (decide (j ≤ i)))) : rGe (.int i) (.int j) P := h
theorem q_le (h : P (.bl (decide (i ≤ j)))) : rLe (.int i) (.int j) P := h
theorem q_leS (h : P (.bl (!decide (b.cps.toList < a.cps.toList)))) : rLe (.str a) (.str b) P := h
theorem beq_int : (i == j) = decide (i = j) := by by_cases h : i = j <;> simp [h]
theorem q_eq (h : P (.bl (decide (i = j)))) : rEqP false (.int i) (.int j) P := ⟨.int i, .int j, rfl, rfl, rfl, rfl, by
 have e : PyData.eqv (.int i) (.int j) = decide (i = j) := by rw [show PyData.eqv (.int i) (.int j) = (i == j) by simp [PyData.eqv]]; exact beq_int
 simpa [e] using h⟩
theorem q_inS {c : Nat} (h : P (.bl (decide (c ∈ b.cps.toList)))) : rInS false (.str ⟨#[c]⟩) (.str b) P := ⟨c, rfl, by simpa using h⟩
theorem q_lenS (l : a.length ≤ sizeLine) (h : P (.int a.length)) : rLen [.str a] P := ⟨l, h⟩
theorem q_len (h : P (.int xs.length)) : rLen [.lst xs] P := h
theorem q_lenT (h : P (.int xs.length)) : rLen [.tup xs] P := h
theorem q_lenC {ns : List Int} (h : P (.int ns.length)) : rLen [.scr ns] P := h
theorem q_ix (e : atI xs i = some x) (h : P x) : rIxP (.lst xs) (.int i) P := ⟨x, e, h⟩
theorem q_ixT (e : atI xs i = some x) (h : P x) : rIxP (.tup xs) (.int i) P := ⟨x, e, h⟩
theorem q_ixC {ns : List Int} (e : atI ns i = some j) (h : P (.int j)) : rIxP (.scr ns) (.int i) P := ⟨j, e, h⟩
theorem q_ixS {c : Nat} (l : a.length ≤ sizeLine) (e : atI a.cps.toList i = some c) (h : P (.str ⟨#[c]⟩)) : rIxP (.str a) (.int i) P := ⟨l, c, e, h⟩
theorem q_max (h : P (.int (if j > i then j else i))) : rMax2 [.int i, .int j] P := h
theorem q_min (h : P (.int (if j < i then j else i))) : rMin2 [.int i, .int j] P := h
theorem q_abs (h : P (.int (if i < 0 then -i else i))) : rAbs [.int i] P := h
theorem q_all {bs : List Bool} (e : blsOf xs = some bs) (h : P (.bl (bs.all id))) : rAllP [.lst xs] P := ⟨bs, e, h⟩
theorem q_ite {p : Prop} [Decidable p] {A B : Prop} (h1 : p → A) (h2 : ¬ p → B) : if decide p = true then A else B := by
 by_cases h : p
 ·rw [if_pos (decide_eq_true h)]; exact h1 h
 ·rw [if_neg (by simp [h])]; exact h2 h
theorem q_iteT {A B : Prop} (h : A) : if true = true then A else B := h
theorem q_iteF {A B : Prop} (h : B) : if false = true then A else B := h
theorem q_it {A B : Prop} [Decidable True] (h : A) : if True then A else B := by rw [if_pos trivial]; exact h
theorem q_ixO {s : Nat} (e : η[s]? = some (.ow (.l xs))) (e1 : atI xs i = some x) (h : Q x η) : tIxOP s (fun η P => P (.int i) η) η Q := by
 refine ⟨⟨_, e⟩, ?_⟩
 show (match η[s]? with
 | some (.ow (.l xs)) => ∃ kk v, PV.int i = .int kk ∧ atI xs kk = some v ∧ Q v η
 | _ => False)
 rw [e]
 exact ⟨i, x, rfl, e1, h⟩
theorem q_setO {s : Nat} (e : η[s]? = some (.ow (.l xs))) (e1 : ixN xs.length i = some n) (h : R (η.set s (.ow (.l (xs.set n x))))) : gSubP s (fun η P => P (.int i) η) x η R := by
 refine ⟨⟨_, e⟩, ?_⟩
 show (match η[s]? with
 | some (.ow (.l xs)) => ∃ kk j, PV.int i = .int kk ∧ ixN xs.length kk = some j ∧ R (η.set s (.ow (.l (xs.set j x))))
 | _ => False)
 rw [e]
 exact ⟨i, n, rfl, e1, h⟩
theorem q_draw {s : Nat} {o : Ow} {C : Addr} {m : Int} {ta : TAp} (e : η[s]? = some (.ow o)) (ha : ta = fun η P => P [.int m] η) (hp : Pool o) (h0 : 0 < m) (h1 : m < 10 ^ 40) (h : ∀ o' (k : Int), Pool o' → 0 ≤ k → k < m → Q (.int k) (η.set s (.ow o'))) : tCallRP s (sp_law_draw K C) ta η Q := by
 subst ha
 refine ⟨⟨_, e⟩, ?_⟩
 show (match η[s]? with
 | some (.ow o) => sp_law_draw K C o [.int m] fun z o' => Q z (η.set s (.ow o'))
 | _ => False)
 rw [e]
 exact ⟨m, hp, rfl, h0, h1, fun o' k p a b => h o' k p a b⟩
variable {D : EndsP} {t u : TSp} {te ta tb : TEp} {tx : TAp} {tf : TFp} {s : Nat} {o : Ow} {r : R2p} {r1 : R1p} {tc td : TTp} {QA : List PV → EP' → Prop} {QB : Bool → EP' → Prop} {g : TGp} {ti : TIp}
theorem w_seq (h : t { D with nx := fun η' => u D η' } η) : tSeqP t u D η := h
theorem w_set (h : te η fun x η1 => D.nx (η1.set s (.va x))) : tSetP s te D η := h
theorem w_if (h : tc η fun b η1 => if b = true then t D η1 else u D η1) : tIfSP tc t u D η := h
theorem w_ret (h : te η D.rt) : tRetP te D η := h
theorem w_next (h : D.nx η) : tNextP D η := h
theorem w_asg (h : te η fun x η1 => g x η1 D.nx) : tAsgP te g D η := h
theorem w_con (h : Q x η) : tConP x η Q := h
theorem w_var (e : η[s]? = some (.va x)) (h : Q x η) : tVarP s η Q := by unfold tVarP; rw [e]; exact h
theorem w_varO (e : η[s]? = some (.ow o)) (h : Q (frz o) (η.set s (.va (frz o)))) : tVarP s η Q := by unfold tVarP; rw [e]; exact h
theorem w_op (h : ta η fun x η1 => tb η1 fun y η2 => r x y fun z => Q z η2) : tOpP r ta tb η Q := h
theorem w_cb (h : tx η fun xs η1 => r1 xs fun z => Q z η1) : tCBP r1 tx η Q := h
theorem w_nil (h : QA [] η) : tNilP η QA := h
theorem w_cons (h : te η fun x η1 => tx η1 fun xs η2 => QA (x :: xs) η2) : tConsP te tx η QA := h
theorem w_tup (h : tx η fun xs η1 => xs.length ≤ sizeLine ∧ Q (.tup xs) η1) : tTupP tx η Q := h
theorem w_lst (h : tx η fun xs η1 => xs.length ≤ sizeLine ∧ Q (.lst xs) η1) : tLstP tx η Q := h
theorem w_lstF (h : tx η fun xs η1 => xs.length ≤ sizeLine ∧ QA xs η1) : tLstFP tx η QA := h
theorem w_val (h : tf η fun xs η1 => Q (.lst xs) η1) : tValP tf η Q := h
theorem w_bl (h : te η fun x η1 => match x with | .bl b => QB b η1 | _ => False) : tBlP te η QB := h
theorem w_or (h : tc η fun c η1 => if c = true then QB true η1 else td η1 QB) : tOrP tc td η QB := h
theorem w_and (h : tc η fun c η1 => if c = true then td η1 QB else QB false η1) : tAndP tc td η QB := h
theorem w_not (h : tc η fun c η1 => QB (!c) η1) : tNotP tc η QB := h
theorem w_ife (h : tc η fun c η1 => if c = true then ta η1 Q else tb η1 Q) : tIfP tc ta tb η Q := h
theorem w_call {sp : SpP} {dps : List PV} (h : tx η fun args η1 => sp (args ++ dps) fun z => Q z η1) : tCallP sp dps tx η Q := h
theorem w_lc {tt : TTp} {vs : List Nat} (h : ti η fun xs η1 => ∃ Inv : Nat → List PV → EP' → Prop, Inv 0 [] (wipeP η1 vs) ∧
 (∀ i x acc η2, xs[i]? = some x → Inv i acc η2 → g x (wipeP η2 vs) fun η3 => tt η3 fun b η4 => if b = true then te η4 fun y η5 => acc.length < sizeLine ∧ Inv (i + 1) (acc ++ [y]) (wipeP η5 vs) else Inv (i + 1) acc (wipeP η4 vs)) ∧
 (∀ acc η2, Inv xs.length acc η2 → QA acc η2)) : tLcP ti g tt te vs η QA := h
theorem w_for (h : ti η fun xs η1 => ∃ Inv : Nat → EP' → Prop, Inv 0 η1 ∧
 (∀ i x η2, xs[i]? = some x → Inv i η2 → g x η2 fun η3 => t { D with nx := Inv (i + 1), ct := Inv (i + 1), bk := D.nx } η3) ∧ (∀ η2, Inv xs.length η2 → D.nx η2)) : tForP ti g t D η := h
theorem w_rng1 (h : te η fun x η1 => match x with
 | .int j => -(2 ^ 62) ≤ j ∧ j < 2 ^ 62 ∧ QA (rangeP 0 j.toNat) η1
 | _ => False) : iRng1P te η QA := h
theorem rangeP_get {lo : Int} {n i : Nat} {x : PV} (h : (rangeP lo n)[i]? = some x) : i < n ∧ x = .int (lo + i) := by
 unfold rangeP at h
 rw [List.getElem?_map] at h
 by_cases hi : i < n
 ·rw [List.getElem?_range hi] at h
  cases h
  exact ⟨hi, rfl⟩
 ·rw [List.getElem?_eq_none (by simpa using hi)] at h; cases h
theorem rangeP_len {lo : Int} {n : Nat} : (rangeP lo n).length = n := by simp [rangeP]
theorem sz2 {a b : PV} : [a, b].length ≤ sizeLine := by show 2 ≤ sizeLine; decide
theorem sz3 {a b c : PV} : [a, b, c].length ≤ sizeLine := by show 3 ≤ sizeLine; decide
theorem w_gname {R : EP' → Prop} {x : PV} {η : EP'} {s : Nat} (h : R (η.set s (.va x))) : gNameP s x η R := h
theorem w_yes {QB : Bool → EP' → Prop} {η : EP'} (h : QB true η) : tYesP η QB := h
theorem w_join {ta tb : TEp} {η : EP'} {Q : PV → EP' → Prop} (h : ta η fun x η1 => (∃ z, x = .str z) ∧ tb η1 fun y η2 => match x, y with
 | .str z, .lst xs => ∃ ys, strsOf xs = some ys ∧ (ys.map (·.length)).sum + ys.length * z.length ≤ 16777216 ∧ Q (.str (Txt.join z ys)) η2
 | _, _ => False) : tJoinP ta tb η Q := h
theorem w_slice {te : TEp} {tl th : TOp} {η : EP'} {Q : PV → EP' → Prop} (h : te η fun x η1 => tl η1 fun l η2 => th η2 fun u η3 => rSlP x l u fun z => Q z η3) : tSliceP te tl th η Q := h
theorem w_nop {η : EP'} {P : Option Int → EP' → Prop} (h : P none η) : tNoPartP η P := h
theorem w_part {te : TEp} {η : EP'} {P : Option Int → EP' → Prop} (h : te η fun x η1 => match x with
 | .int i => P (some i) η1
 | _ => False) : tPartP te η P := h
theorem q_slS {z : Str} {lo hi : Option Int} {P : PV → Prop} (l : z.length ≤ sizeLine) (h : P (.str (cutS z lo hi))) : rSlP (.str z) lo hi P := ⟨l, h⟩
def callM (s : Nat) (sr : SpR) (args : List PV) (η : EP') (Q : PV → EP' → Prop) : Prop := match η[s]? with
 | some (.ow o) => sr o args fun z o' => Q z (η.set s (.ow o'))
 | _ => False
theorem w_callR {s : Nat} {sr : SpR} {tx : TAp} {η : EP'} {Q : PV → EP' → Prop} {o : Ow} (e : η[s]? = some (.ow o)) (h : tx η fun args η1 => callM s sr args η1 Q) : tCallRP s sr tx η Q := ⟨⟨o, e⟩, h⟩
theorem q_callM {s : Nat} {sr : SpR} {args : List PV} {η : EP'} {Q : PV → EP' → Prop} {o : Ow} (e : η[s]? = some (.ow o)) (h : sr o args fun z o' => Q z (η.set s (.ow o'))) : callM s sr args η Q := by unfold callM; rw [e]; exact h
def tStrs : List Str → TAp
 | [] => tNilP
 | w :: ws => tConsP (tConP (.str w)) (tStrs ws)
theorem w_strs {QA : List PV → EP' → Prop} {η : EP'} : ∀ {ws : List Str}, QA (ws.map .str) η → tStrs ws η QA
 | [], h => h
 | w :: ws, h => w_strs (ws := ws) (QA := fun xs η2 => QA (.str w :: xs) η2) h
end
section
variable {K : PySem.W.Frag} {C : Addr} {args : List PV} {P : PV → Prop} {PR : PV → Ow → Prop} {PF : List PV → Prop} {o : Ow}
theorem cmul_l {i j : Int} (h : 0 ≤ i) (h' : i < 1000000007) : CMul i j := .inl ⟨by omega, by omega⟩
theorem mod_lo {i : Int} : 0 ≤ i % 1000000007 := Int.emod_nonneg _ (by decide)
theorem mod_hi {i : Int} : i % 1000000007 < 1000000007 := Int.emod_lt_of_pos _ (by decide)
theorem rd_law_draw (h : sp_law_draw K C o args PR) : ts_law_draw K C { nx := fun η' => ∃ o', η'[0]? = some (Sl.ow o') ∧ PR .non o', rt := fun x η' => ∃ o', η'[0]? = some (Sl.ow o') ∧ PR x o' } (startR 4 o args) := by
 obtain ⟨m, ⟨s, d, c, rfl, h1, h2, h3⟩, rfl, m1, m2, hp⟩ := h
 have e : startR 4 (.l [.int s, .int d, .int c]) [.int m] = [.ow (.l [.int s, .int d, .int c]), .va (.int m), .no, .no] := rfl
 simp only [ts_law_draw, e, tLcP, tForP, iStrP, iListP, iTupP, iRng1P, iRng2P, iEnumP, wipeP, tAppP, tJoinP, tSeqP, tRetP, tRetNP, tIfSP, tNextP, tNevP, tSetP, tSetFP, tDropP, tAsgP, gNameP, gNilP, gConsP, gTupP, tAndVP, tNotVP, tOrVP, tCBP, tConsP, tNilP, tVarP, tConP, tBlP, tOrP, tAndP, tNotP, tOpP, tChainP, tCallP, tCallFP, tTupP, tLstP, tLstFP, tValP, tIfP, tNegP, tSliceP, tNoPartP, tPartP, tSeqFP, tYesP, frz, List.getElem?_cons_zero, List.getElem?_cons_succ, List.set_cons_zero, List.set_cons_succ, List.append_nil, List.length_cons, List.length_nil, Nat.zero_add]
 refine q_ixO rfl rfl (q_add (q_setO rfl rfl (q_ixO rfl rfl (q_mod (by decide) (q_add (q_mul (cmul_l h1 h2) ?_))))))
 refine q_ixO rfl rfl (q_mul (.inl ⟨by decide, by decide⟩) (q_add (q_add (q_mod (by decide) (q_setO rfl rfl ?_)))))
 refine q_ixO rfl rfl (q_gt (q_ite (fun hd => ?_) fun hd => ?_))
 ·refine q_ixO rfl rfl (q_divmodW (cdivW m1 m2) ⟨rfl, q_setO rfl rfl ⟨rfl, _, rfl, ?_⟩⟩)
  exact hp _ _ ⟨_, _, _, rfl, mod_lo, mod_hi, Int.ediv_nonneg h3 (by omega)⟩ (Int.emod_nonneg _ (by omega)) (Int.emod_lt_of_pos _ m1)
 ·refine q_ixO rfl rfl ?_
  refine q_div ⟨by decide, by decide⟩ ?_
  refine q_mod m1 ⟨_, rfl, ?_⟩
  exact hp _ _ ⟨_, _, _, rfl, mod_lo, mod_hi, h3⟩ (Int.emod_nonneg _ (by omega)) (Int.emod_lt_of_pos _ m1)
theorem rd_law_pool (h : sp_law_pool K C args PF) : ts_law_pool K C (startP 2 args) (fun xs _ => PF xs) := by
 obtain ⟨c, rfl, hp⟩ := h
 have e : startP 2 [.int c] = [.va (.int c), .no] := rfl
 simp only [ts_law_pool, e, tLcP, tForP, iStrP, iListP, iTupP, iRng1P, iRng2P, iEnumP, wipeP, tAppP, tJoinP, tSeqP, tRetP, tRetNP, tIfSP, tNextP, tNevP, tSetP, tSetFP, tDropP, tAsgP, gNameP, gNilP, gConsP, gTupP, tAndVP, tNotVP, tOrVP, tCBP, tConsP, tNilP, tVarP, tConP, tBlP, tOrP, tAndP, tNotP, tOpP, tChainP, tCallP, tCallFP, tTupP, tLstP, tLstFP, tValP, tIfP, tNegP, tSliceP, tNoPartP, tPartP, tSeqFP, tYesP, frz, List.getElem?_cons_zero, List.getElem?_cons_succ, List.set_cons_zero, List.set_cons_succ, List.append_nil, List.length_cons, List.length_nil, Nat.zero_add]
 have hz : 10 ≤ sizeLine := by decide
 have key : ∀ d : Int, 0 ≤ d → PF [.int (c % 1000000007), .int d, .int 0] := fun d hd => hp _ _ mod_lo mod_hi hd
 refine q_lt (q_ite (fun hc => ?_) fun hc => ?_)
 ·refine q_it ?_
  refine q_abs ?_
  refine q_mod (by decide) ?_
  exact ⟨by omega, key _ (by split <;> omega)⟩
 ·refine q_pow ⟨by decide, by decide, by decide⟩ ?_
  refine q_ge (q_ite (fun hd => ?_) fun hd => ?_)
  ·refine q_abs ?_
   refine q_mod (by decide) ?_
   exact ⟨by omega, key _ (by split <;> omega)⟩
  ·refine q_mod (by decide) ?_
   exact ⟨by omega, key 0 (by decide)⟩
theorem atI_in {α : Type} {xs : List α} {k : Int} (h0 : 0 ≤ k) (h1 : k < xs.length) : ∃ v, atI xs k = some v ∧ xs[k.toNat]? = some v := by
 have h : k.toNat < xs.length := by omega
 refine ⟨xs[k.toNat], ?_, by simp [h]⟩
 have := atI_nat (xs := xs) (j := k.toNat) (v := xs[k.toNat]) (by simp [h])
 rwa [Int.toNat_of_nonneg h0] at this
theorem rd_law_cell (h : sp_law_cell K C args P) : ts_law_cell K C { nx := fun _ => P .non, rt := fun x _ => P x } (startP 4 args) := by
 obtain ⟨ns, k, rfl, hk, hk', hp⟩ := h
 have e : startP 4 [.scr ns, .int k] = [.va (.scr ns), .va (.int k), .no, .no] := rfl
 simp only [ts_law_cell, e, tLcP, tForP, iStrP, iListP, iTupP, iRng1P, iRng2P, iEnumP, wipeP, tAppP, tJoinP, tSeqP, tRetP, tRetNP, tIfSP, tNextP, tNevP, tSetP, tSetFP, tDropP, tAsgP, gNameP, gNilP, gConsP, gTupP, tAndVP, tNotVP, tOrVP, tCBP, tConsP, tNilP, tVarP, tConP, tBlP, tOrP, tAndP, tNotP, tOpP, tChainP, tCallP, tCallFP, tTupP, tLstP, tLstFP, tValP, tIfP, tNegP, tSliceP, tNoPartP, tPartP, tSeqFP, tYesP, frz, List.getElem?_cons_zero, List.getElem?_cons_succ, List.set_cons_zero, List.set_cons_succ, List.append_nil, List.length_cons, List.length_nil, Nat.zero_add]
 refine q_lenC (q_lt (q_ite (fun h1 => ?_) fun h1 => ?_))
 ·obtain ⟨v, hv, _⟩ := atI_in (xs := ns) hk h1
  exact q_ixC hv (hp v)
 ·refine q_mul (.inr ⟨by omega, by omega⟩) ?_
  refine q_mul (.inr ⟨by omega, by omega⟩) ?_
  refine q_add ?_
  refine q_add ?_
  refine q_mul (.inl ⟨by decide, by decide⟩) ?_
  refine q_mod (by decide) ?_
  refine ⟨fun i η => ∃ (c : Int) (t : Sl), η = [.va (.scr ns), .va (.int k), .va (.int c), t] ∧ 0 ≤ c ∧ c < 1000000007, ⟨_, _, rfl, mod_lo, mod_hi⟩, ?_, ?_⟩
  ·rintro i x η hi ⟨c, t, rfl, c1, c2⟩
   rw [List.getElem?_map] at hi
   cases q : (cutP ns none (some 3))[i]? with
   | none => rw [q] at hi; cases hi
   | some z =>
    rw [q] at hi; cases hi
    refine q_mul (cmul_l c1 c2) ?_
    refine q_add ?_
    refine q_mod (by decide) ?_
    exact ⟨_, _, rfl, mod_lo, mod_hi⟩
  ·rintro η ⟨c, t, rfl, _, _⟩
   exact hp c
def menu1 : List Str := [("book" : Str), ("cancel" : Str), ("exchange" : Str), ("shift" : Str), ("seats" : Str), ("undo" : Str), ("show" : Str), ("line" : Str), ("count" : Str), ("number" : Str), ("load" : Str), ("trip" : Str)]
def menu2 : List Str := [("none" : Str), ("cut" : Str), ("overfull" : Str), ("a" : Str), ("b" : Str), ("x" : Str), ("plan" : Str), ("route" : Str), ("fixed" : Str), ("full" : Str), ("goal" : Str), ("name" : Str)]
def menuL : List Str := menu1 ++ menu2
theorem at_map {α : Type} {f : α → PV} {xs : List α} {j : Int} (d : α) (h0 : 0 ≤ j) (h1 : j < xs.length) : atI (xs.map f) j = some (f (xs.getD j.toNat d)) := by
 have h : j.toNat < xs.length := by omega
 have e : (xs.map f)[j.toNat]? = some (f (xs.getD j.toNat d)) := by
  rw [List.getElem?_map, List.getElem?_eq_getElem h, List.getD_eq_getElem?_getD, List.getElem?_eq_getElem h]; rfl
 have := atI_nat e
 rwa [Int.toNat_of_nonneg h0] at this
theorem at_get {α : Type} {xs : List α} {j : Int} (d : α) (h0 : 0 ≤ j) (h1 : j < xs.length) : atI xs j = some (xs.getD j.toNat d) := by
 have h : j.toNat < xs.length := by omega
 have e : xs[j.toNat]? = some (xs.getD j.toNat d) := by
  rw [List.getElem?_eq_getElem h, List.getD_eq_getElem?_getD, List.getElem?_eq_getElem h]; rfl
 have := atI_nat e
 rwa [Int.toNat_of_nonneg h0] at this
def W0 (b n : Nat) : List Str := (List.range n).map fun k => menuL.getD ((b + 5 * k) % 24) Str.empty
def W1 (b n : Nat) : List Str := (List.range n).map fun k => strRep ⟨#[abc.cps.toList.getD ((b + 7 * k) % 26) 0]⟩ (1 + k % 8)
theorem Nms.take {ws : List Str} (n : Nat) (h : Nms ws) : Nms (ws.take n) := ⟨fun w hw => h.1 w (List.mem_of_mem_take hw), h.2.sublist (List.take_sublist n ws)⟩
theorem W0_nms : ∀ b < 24, Nms (W0 b 24) := by
 have : ∀ b < 24, ((W0 b 24).all fun w => isNm (.str w)) = true ∧ (W0 b 24).Nodup := by decide +kernel
 exact fun b hb => ⟨fun w hw => List.all_eq_true.mp (this b hb).1 w hw, (this b hb).2⟩
theorem W1_nms : ∀ b < 24, Nms (W1 b 24) := by
 have : ∀ b < 24, ((W1 b 24).all fun w => isNm (.str w)) = true ∧ (W1 b 24).Nodup := by decide +kernel
 exact fun b hb => ⟨fun w hw => List.all_eq_true.mp (this b hb).1 w hw, (this b hb).2⟩
theorem map_take {α : Type} {f : Nat → α} {n m : Nat} (h : n ≤ m) : (List.range n).map f = ((List.range m).map f).take n := by
 rw [← List.map_take, List.take_range, Nat.min_eq_left h]
theorem W0_n {b n : Nat} (hb : b < 24) (hn : n ≤ 24) : Nms (W0 b n) := by
 unfold W0; rw [map_take hn]; exact (W0_nms b hb).take n
theorem W1_n {b n : Nat} (hb : b < 24) (hn : n ≤ 24) : Nms (W1 b n) := by
 unfold W1; rw [map_take hn]; exact (W1_nms b hb).take n
theorem joinL_nil : ∀ ps : List (List Nat), TL.joinL [] ps = ps.flatten
 | [] => rfl
 | [p] => by simp [TL.joinL]
 | p :: q :: r => by
  show p ++ ([] ++ TL.joinL [] (q :: r)) = _
  rw [joinL_nil (q :: r)]; simp
theorem flat_ones : ∀ cs : List Nat, (cs.map fun c => [c]).flatten = cs
 | [] => rfl
 | c :: cs => by rw [List.map_cons, List.flatten_cons, flat_ones cs]; rfl
theorem join_ones (cs : List Nat) : Txt.join Str.empty (cs.map fun c => (⟨#[c]⟩ : Str)) = ⟨cs.toArray⟩ := by
 have h : TL.tl (Txt.join Str.empty (cs.map fun c => (⟨#[c]⟩ : Str))) = cs := by
  rw [TL.join_eq, TL.tl_join, show TL.tl Str.empty = [] from rfl, joinL_nil, List.map_map]
  exact flat_ones cs
 have : ∀ a : Str, a = ⟨(TL.tl a).toArray⟩ := fun a => by cases a; simp
 rw [this (Txt.join _ _), h]
theorem strsOf_map {α : Type} (f : α → Str) : ∀ cs : List α, strsOf (cs.map fun c => PV.str (f c)) = some (cs.map f)
 | [] => rfl
 | c :: cs => by rw [List.map_cons, strsOf, strsOf_map f cs]; rfl
def W2 (st : List Nat) (p b n : Nat) : List Str := (List.range n).map fun k => ⟨(st.take p ++ (abc.cps.toList.getD ((b + 5 * k) % 26) 0 :: st.drop p)).toArray⟩
theorem lets_nd : ∀ b < 24, ((List.range 24).map fun k => abc.cps.toList.getD ((b + 5 * k) % 26) 0).Nodup := by decide +kernel
theorem lets_in : ∀ j < 26, abc.cps.toList.getD j 0 ∈ abc.cps.toList := by decide +kernel
theorem W2_n {st : List Nat} {p b n : Nat} (hs : ∀ c ∈ st, c ∈ abc.cps.toList) (hl : st.length ≤ 7) (hb : b < 24) (hn : n ≤ 24) : Nms (W2 st p b n) := by
 refine ⟨fun w hw => ?_, ?_⟩
 ·unfold W2 at hw
  obtain ⟨k, hk, rfl⟩ := List.mem_map.mp hw
  have e : (st.take p).length + (st.drop p).length = st.length := by rw [← List.length_append, List.take_append_drop]
  have e1 : (⟨(st.take p ++ (abc.cps.toList.getD ((b + 5 * k) % 26) 0 :: st.drop p)).toArray⟩ : Str).length = st.length + 1 := by
   show ((st.take p ++ (abc.cps.toList.getD ((b + 5 * k) % 26) 0 :: st.drop p)).toArray).size = _
   rw [List.size_toArray, List.length_append, List.length_cons]; omega
  show (decide (1 ≤ _) && (decide (_ ≤ 8) && List.all _ _)) = true
  rw [e1, decide_eq_true (by omega), decide_eq_true (by omega), Bool.true_and, Bool.true_and]
  refine List.all_eq_true.mpr fun c hc => decide_eq_true ?_
  have hc : c ∈ st.take p ++ (abc.cps.toList.getD ((b + 5 * k) % 26) 0 :: st.drop p) := by simpa using hc
  rcases List.mem_append.mp hc with h | h
  ·exact hs c (List.mem_of_mem_take h)
  ·rcases List.mem_cons.mp h with h | h
   ·rw [h]; exact lets_in _ (Nat.mod_lt _ (by decide))
   ·exact hs c (List.mem_of_mem_drop h)
 ·have : (W2 st p b 24).Nodup := by
   have h := lets_nd b hb
   unfold W2
   rw [show (fun k => (⟨(st.take p ++ (abc.cps.toList.getD ((b + 5 * k) % 26) 0 :: st.drop p)).toArray⟩ : Str)) = (fun c : Nat => (⟨(st.take p ++ (c :: st.drop p)).toArray⟩ : Str)) ∘ (fun k => abc.cps.toList.getD ((b + 5 * k) % 26) 0) from rfl, ← List.map_map]
   refine List.Pairwise.map _ (fun c d hcd e => ?_) h
   have e' : st.take p ++ (c :: st.drop p) = st.take p ++ (d :: st.drop p) := by simpa using congrArg (fun s : Str => s.cps.toList) e
   exact hcd (List.cons.inj (List.append_cancel_left e')).1
  unfold W2 at this ⊢
  rw [map_take hn]
  exact this.sublist (List.take_sublist _ _)
theorem rd_law_words (h : sp_law_words K C o args PR) : ts_law_words K C { nx := fun η' => ∃ o', η'[0]? = some (Sl.ow o') ∧ PR .non o', rt := fun x η' => ∃ o', η'[0]? = some (Sl.ow o') ∧ PR x o' } (startR 9 o args) := by
 obtain ⟨m, po, rfl, m0, m1, hp⟩ := h
 have e : startR 9 o [.int m] = [.ow o, .va (.int m), .no, .no, .no, .no, .no, .no, .no] := rfl
 rw [e]
 have z24 : 24 < sizeLine := by decide
 refine w_seq (w_set (w_con ?_))
 dsimp only
 refine w_seq (w_set (w_lst (w_strs (ws := menu1) ⟨by decide, ?_⟩)))
 dsimp only
 refine w_seq (w_set (w_op (w_var rfl (w_lst (w_strs (ws := menu2) ⟨by decide, q_addL (by decide) ?_⟩)))))
 dsimp only
 rw [← List.map_append]
 refine w_seq (w_asg (w_tup (w_cons (q_draw rfl rfl po (by decide) (by decide) fun o1 wy p1 wy0 wy1 => ?_))))
 refine w_cons (q_draw rfl rfl p1 (by decide) (by decide) fun o2 b p2 b0 b1 => ?_)
 refine w_nil ⟨sz2, rfl, rfl, ?_⟩
 obtain ⟨b, rfl⟩ := Int.eq_ofNat_of_zero_le b0
 have hb : b < 24 := by omega
 simp only [List.set_cons_zero, List.set_cons_succ]
 refine w_seq (w_if (w_bl (w_op (w_var rfl (w_con (q_eq ?_))))))
 simp only [List.set_cons_zero, List.set_cons_succ]
 refine q_ite (fun hw => ?_) fun hw => ?_
 ·refine w_ret (w_val (w_lc (w_rng1 (w_var rfl ⟨by omega, by omega, ?_⟩))))
  refine ⟨fun i acc η => acc = (W0 b i).map .str ∧ η = [.ow o2, .va (.int m), .va (.str abc), .va (.lst (menuL.map .str)), .va (.int wy), .va (.int b), .no, .no, .no], ⟨rfl, rfl⟩, ?_, ?_⟩
  ·rintro i x acc η hi ⟨rfl, rfl⟩
   obtain ⟨hn, rfl⟩ := rangeP_get hi
   have hz : ((W0 b i).map PV.str).length < sizeLine := by simp [W0]; omega
   refine w_gname (w_yes (q_iteT ?_))
   refine w_op (w_var rfl (w_op (w_op (w_var rfl (w_op (w_con (w_var rfl (q_mul (.inl ⟨by decide, by decide⟩) (q_add (w_con (q_mod (by decide) ?_)))))))))))
   have ej : ((b : Int) + 5 * (0 + (i : Int))) % 24 = (((b + 5 * i) % 24 : Nat) : Int) := by omega
   refine q_ix (x := .str (menuL.getD ((b + 5 * i) % 24) Str.empty)) ?_ ⟨hz, ?_, rfl⟩
   ·rw [ej]
    exact at_map Str.empty (by omega) (by show _ < ((24 : Nat) : Int); omega)
   ·unfold W0; rw [List.range_succ, List.map_append, List.map_append]; rfl
  ·rintro acc η ⟨rfl, rfl⟩
   rw [rangeP_len]
   exact ⟨o2, rfl, hp o2 _ p2 (by simp [W0]) (W0_n hb (by omega))⟩
 refine w_next ?_
 simp only [List.set_cons_zero, List.set_cons_succ]
 refine w_seq (w_if (w_bl (w_op (w_var rfl (w_con (q_eq ?_))))))
 simp only [List.set_cons_zero, List.set_cons_succ]
 refine q_ite (fun hw => ?_) fun hw => ?_
 ·refine w_ret (w_val (w_lc (w_rng1 (w_var rfl ⟨by omega, by omega, ?_⟩))))
  refine ⟨fun i acc η => acc = (W1 b i).map .str ∧ η = [.ow o2, .va (.int m), .va (.str abc), .va (.lst (menuL.map .str)), .va (.int wy), .va (.int b), .no, .no, .no], ⟨rfl, rfl⟩, ?_, ?_⟩
  ·rintro i x acc η hi ⟨rfl, rfl⟩
   obtain ⟨hn, rfl⟩ := rangeP_get hi
   have hz : ((W1 b i).map PV.str).length < sizeLine := by simp [W1]; omega
   refine w_gname (w_yes (q_iteT ?_))
   refine w_op (w_op (w_var rfl (w_op (w_op (w_var rfl (w_op (w_con (w_var rfl (q_mul (.inl ⟨by decide, by decide⟩) (q_add (w_con (q_mod (by decide) ?_))))))))))))
   have ej : ((b : Int) + 7 * (0 + (i : Int))) % 26 = (((b + 7 * i) % 26 : Nat) : Int) := by omega
   refine q_ixS (by decide) (by rw [ej]; exact at_get 0 (by omega) (by show _ < ((26 : Nat) : Int); omega)) ?_
   refine w_op (w_con (w_op (w_var rfl (w_con (q_mod (by decide) (q_add ?_))))))
   refine q_mulS (by omega) (by omega) (by show 1 ≤ 1000; decide) ⟨hz, ?_, rfl⟩
   have e8 : ((1 : Int) + (0 + (i : Int)) % 8).toNat = 1 + i % 8 := by omega
   have e7 : (((b + 7 * i) % 26 : Nat) : Int).toNat = (b + 7 * i) % 26 := by omega
   unfold W1; rw [List.range_succ, List.map_append, List.map_append, e8, e7]; rfl
  ·rintro acc η ⟨rfl, rfl⟩
   rw [rangeP_len]
   exact ⟨o2, rfl, hp o2 _ p2 (by simp [W1]) (W1_n hb (by omega))⟩
 refine w_next ?_
 simp only [List.set_cons_zero, List.set_cons_succ]
 refine w_seq (w_set (w_join (w_con ⟨⟨_, rfl⟩, w_val (w_lc (w_rng1 (q_draw rfl rfl p2 (by decide) (by decide) fun o3 l p3 l0 l1 => ?_)))⟩)))
 refine ⟨by omega, by omega, ?_⟩
 refine ⟨fun i acc η => ∃ cs : List Nat, acc = cs.map (fun c => .str ⟨#[c]⟩) ∧ cs.length = i ∧ (∀ c ∈ cs, c ∈ abc.cps.toList) ∧ ∃ o', Pool o' ∧ η = [.ow o', .va (.int m), .va (.str abc), .va (.lst (menuL.map .str)), .va (.int wy), .va (.int b), .no, .no, .no], ⟨[], rfl, rfl, fun _ h => (by cases h), o3, p3, rfl⟩, ?_, ?_⟩
 ·rintro i x acc η hi ⟨cs, rfl, hcl, hcs, o', p', rfl⟩
  obtain ⟨hn, rfl⟩ := rangeP_get hi
  refine w_gname (w_yes (q_iteT ?_))
  refine w_op (w_var rfl (q_draw rfl rfl p' (by decide) (by decide) fun o'' j p'' j0 j1 => ?_))
  refine q_ixS (by decide) (at_get 0 j0 (by show _ < ((26 : Nat) : Int); omega)) ⟨by rw [List.length_map]; omega, ?_⟩
  refine ⟨cs ++ [abc.cps.toList.getD j.toNat 0], by rw [List.map_append]; rfl, by simp [hcl], fun c hc => ?_, o'', p'', rfl⟩
  rcases List.mem_append.mp hc with h | h
  ·exact hcs c h
  ·rw [List.mem_singleton.mp h]; exact lets_in _ (by omega)
 rintro acc η ⟨cs, rfl, hcl, hcs, o4, p4, rfl⟩
 rw [rangeP_len] at hcl
 refine ⟨cs.map fun c => ⟨#[c]⟩, strsOf_map _ cs, ?_, ?_⟩
 ·have : ((cs.map fun c => (⟨#[c]⟩ : Str)).map (·.length)).sum = cs.length := by
   rw [List.map_map]
   have : ∀ cs : List Nat, (cs.map ((·.length) ∘ fun c => (⟨#[c]⟩ : Str))).sum = cs.length := fun cs => by
    induction cs with
    | nil => rfl
    | cons c cs ih => rw [List.map_cons, List.sum_cons, ih, List.length_cons]; show 1 + _ = _; omega
   exact this cs
  rw [this, show (Str.ofString "").length = 0 from rfl]
  omega
 rw [show (Str.ofString "" : Str) = Str.empty from rfl, join_ones]
 simp only [List.set_cons_zero, List.set_cons_succ]
 have hst : (⟨cs.toArray⟩ : Str).length = cs.length := by show cs.toArray.size = _; simp
 refine w_seq (w_set (w_callR rfl (w_cons (w_op (w_cb (w_cons (w_var rfl (w_nil (q_lenS (by rw [hst]; omega) (w_con (q_add (w_nil (q_callM rfl ?_)))))))))))))
 refine ⟨_, p4, rfl, by omega, by rw [hst]; omega, fun o5 pI p5 pi0 pi1 => ?_⟩
 rw [hst] at pi1
 obtain ⟨p, rfl⟩ := Int.eq_ofNat_of_zero_le pi0
 have hpl : p ≤ cs.length := by omega
 simp only [List.set_cons_zero, List.set_cons_succ]
 refine w_ret (w_val (w_lc (w_rng1 (w_var rfl ⟨by omega, by omega, ?_⟩))))
 refine ⟨fun i acc η => acc = (W2 cs p b i).map .str ∧ η = [.ow o5, .va (.int m), .va (.str abc), .va (.lst (menuL.map .str)), .va (.int wy), .va (.int b), .va (.str ⟨cs.toArray⟩), .va (.int p), .no], ⟨rfl, rfl⟩, ?_, ?_⟩
 ·rintro i x acc η hi ⟨rfl, rfl⟩
  obtain ⟨hn, rfl⟩ := rangeP_get hi
  have hz : ((W2 cs p b i).map PV.str).length < sizeLine := by simp [W2]; omega
  have ej : ((b : Int) + 5 * (0 + (i : Int))) % 26 = (((b + 5 * i) % 26 : Nat) : Int) := by omega
  have hs8 : 100 < sizeLine := by decide
  refine w_gname (w_yes (q_iteT ?_))
  refine w_op (w_op (w_slice (w_var rfl (w_nop (w_part (w_var rfl (q_slS (by rw [hst]; omega) ?_)))))))
  refine w_op (w_var rfl (w_op (w_op (w_var rfl (w_op (w_con (w_var rfl (q_mul (.inl ⟨by decide, by decide⟩) (q_add (w_con (q_mod (by decide) ?_)))))))))))
  refine q_ixS (by decide) (by rw [ej]; exact at_get 0 (by omega) (by show _ < ((26 : Nat) : Int); omega)) ?_
  have l1 := cutS_length ⟨cs.toArray⟩ none (some (p : Int))
  have l2 := cutS_length ⟨cs.toArray⟩ (some (p : Int)) none
  refine q_addS (by rw [hst] at l1; show _ + 1 ≤ _; omega) ?_
  refine w_slice (w_var rfl (w_part (w_var rfl (w_nop (q_slS (by rw [hst]; omega) ?_)))))
  refine q_addS (by rw [hst] at l1 l2; rw [Str.length_append]; show _ + 1 + _ ≤ _; omega) ⟨hz, ?_, rfl⟩
  unfold W2
  rw [List.range_succ, List.map_append, List.map_append]
  have e7 : (((b + 5 * i) % 26 : Nat) : Int).toNat = (b + 5 * i) % 26 := by omega
  have ec1 : cutS ⟨cs.toArray⟩ none (some (p : Int)) = ⟨(cs.take p).toArray⟩ := by
   unfold cutS
   rw [HT.sIx_nat, HT.sIx_none, hst, Nat.min_eq_left hpl]; simp
  have ec2 : cutS ⟨cs.toArray⟩ (some (p : Int)) none = ⟨(cs.drop p).toArray⟩ := by
   unfold cutS
   rw [HT.sIx_nat, HT.sIx_none, hst, Nat.min_eq_left hpl, List.take_of_length_le (by simp)]
  rw [ec1, ec2, e7]
  have : (⟨(cs.take p).toArray⟩ : Str) ++ (⟨#[abc.cps.toList.getD ((b + 5 * i) % 26) 0]⟩ : Str) ++ (⟨(cs.drop p).toArray⟩ : Str) = ⟨(cs.take p ++ (abc.cps.toList.getD ((b + 5 * i) % 26) 0 :: cs.drop p)).toArray⟩ := by
   show (⟨_ ++ _ ++ _⟩ : Str) = _
   congr 1
   simp
  rw [this]; rfl
 ·rintro acc η ⟨rfl, rfl⟩
  rw [rangeP_len]
  exact ⟨o5, rfl, hp o5 _ p5 (by simp [W2]) (W2_n hcs (by omega) hb (by omega))⟩
theorem w_par {is : List Nat} {tr : TArp} {D : EndsP} {η : EP'} (h : tr η fun ars η1 => ars.length = is.length ∧ okIx η1.length is ars ∧ D.nx (storesP is ars η1)) : tParP is tr D η := h
theorem w_arF {tf : TFp} {tr : TArp} {η : EP'} {Q : List Ar → EP' → Prop} (h : tf η fun xs η1 => tr η1 fun ars η2 => Q (.f xs :: ars) η2) : tConsF tf tr η Q := h
theorem w_arV {te : TEp} {tr : TArp} {η : EP'} {Q : List Ar → EP' → Prop} (h : te η fun x η1 => tr η1 fun ars η2 => Q (.v x :: ars) η2) : tConsV te tr η Q := h
theorem w_arN {η : EP'} {Q : List Ar → EP' → Prop} (h : Q [] η) : tNilAr η Q := h
def appM (s : Nat) (x : PV) (η : EP') (R : EP' → Prop) : Prop := match η[s]? with
 | some (.ow (.l xs)) => xs.length < sizeLine ∧ R (η.set s (.ow (.l (xs ++ [x]))))
 | _ => False
theorem w_app {s : Nat} {te : TEp} {D : EndsP} {η : EP'} {xs : List PV} (e : η[s]? = some (.ow (.l xs))) (h : te η fun x η1 => appM s x η1 D.nx) : tAppP s te D η := ⟨⟨xs, e⟩, h⟩
theorem q_appM {s : Nat} {x : PV} {η : EP'} {R : EP' → Prop} {xs : List PV} (e : η[s]? = some (.ow (.l xs))) (l : xs.length < sizeLine) (h : R (η.set s (.ow (.l (xs ++ [x]))))) : appM s x η R := by unfold appM; rw [e]; exact ⟨l, h⟩
theorem pw_snoc {α : Type} {r : α → α → Prop} {xs : List α} {x : α} (h : xs.Pairwise r) (h' : ∀ y ∈ xs, r y x) : (xs ++ [x]).Pairwise r := List.pairwise_append.mpr ⟨h, List.pairwise_singleton _ _, fun a ha b hb => by rw [List.mem_singleton.mp hb]; exact h' a ha⟩
theorem rd_law_far (h : sp_law_far K C o args PR) : ts_law_far K C { nx := fun η' => ∃ o', η'[0]? = some (Sl.ow o') ∧ PR .non o', rt := fun x η' => ∃ o', η'[0]? = some (Sl.ow o') ∧ PR x o' } (startR 6 o args) := by
 obtain ⟨hh, po, rfl, h0, h30, hp⟩ := h
 have e : startR 6 o [.int hh] = [.ow o, .va (.int hh), .no, .no, .no, .no] := rfl
 rw [e]
 refine w_seq (w_par (w_arF (w_lstF (w_nil ⟨Nat.zero_le _, ?_⟩))))
 refine w_arV (q_draw rfl rfl po (by decide) (by decide) fun o1 he p1 he0 he1 => ?_)
 refine w_arV (q_draw rfl rfl p1 (by decide) (by decide) fun o2 wy p2 wy0 wy1 => ?_)
 refine w_arN ⟨rfl, ⟨by decide, by show 2 < 6; decide, trivial⟩, ?_⟩
 simp only [storesP, List.set_cons_zero, List.set_cons_succ]
 refine w_seq (w_for (w_rng1 (w_op (w_var rfl (w_con (q_add ⟨by omega, by omega, ?_⟩))))))
 refine ⟨fun i η => ∃ (o' : Ow) (xs : List Int) (here : Int) (t : Sl), Pool o' ∧ xs.length = i ∧ η = [.ow o', .va (.int hh), .ow (.l (xs.map .int)), .va (.int here), .va (.int wy), t] ∧ xs.Pairwise (· < ·) ∧ (∀ x ∈ xs, 0 ≤ x ∧ x < 10 ^ 40 ∧ (0 < wy → x < i) ∧ (¬ 0 < wy → x < here)) ∧ 0 ≤ here ∧ here ≤ 3 + i * (2 * 10 ^ 29), ?_, ?_, ?_⟩
 ·exact ⟨o2, [], he, .no, p2, rfl, rfl, .nil, fun _ h => (by cases h), he0, by omega⟩
 ·rintro i x η hi ⟨o', xs, here, t, p', hl, rfl, pw, hx, g0, g1⟩
  obtain ⟨hn, rfl⟩ := rangeP_get hi
  have hz : (xs.map PV.int).length < sizeLine := by have : 100 < sizeLine := (by decide); rw [List.length_map]; omega
  have hi31 : (i : Int) ≤ 30 := by omega
  have key : ∀ x : Int, (if 0 < wy then x = 0 + i else x = here) → ∃ η', (xs ++ [x]).Pairwise (· < ·) ∧ (∀ y ∈ xs ++ [x], 0 ≤ y ∧ y < 10 ^ 40 ∧ (0 < wy → y < ((i + 1 : Nat) : Int)) ∧ (¬ 0 < wy → y < here + 1)) ∧ η' = (0 : Nat) := by
   intro x hxe
   refine ⟨0, pw_snoc pw fun y hy => ?_, fun y hy => ?_, rfl⟩
   ·obtain ⟨a1, a2, a3, a4⟩ := hx y hy
    by_cases hw : 0 < wy
    ·rw [if_pos hw] at hxe; have := a3 hw; omega
    ·rw [if_neg hw] at hxe; have := a4 hw; omega
   ·rcases List.mem_append.mp hy with h | h
    ·obtain ⟨a1, a2, a3, a4⟩ := hx y h
     refine ⟨a1, a2, fun hw => ?_, fun hw => ?_⟩
     ·have := a3 hw; omega
     ·have := a4 hw; omega
    ·rw [List.mem_singleton.mp h]
     by_cases hw : 0 < wy
     ·rw [if_pos hw] at hxe; refine ⟨by omega, by omega, fun _ => by omega, fun q => absurd hw q⟩
     ·rw [if_neg hw] at hxe; refine ⟨by omega, by omega, fun q => absurd q hw, fun _ => by omega⟩
  have rest : ∀ x : Int, (if 0 < wy then x = 0 + i else x = here) → tSetP 3 (tOpP rAdd (tOpP rAdd (tVarP 3) (tConP (.int 1))) (tOpP rIxP (tLstP (tConsP (tConP (.int 0)) (tConsP (tCallRP 0 (sp_law_draw K C) (tConsP (tConP (.int 9)) (tNilP))) (tConsP (tOpP rPow (tConP (.int 10)) (tConP (.int 29))) (tNilP))))) (tCallRP 0 (sp_law_draw K C) (tConsP (tConP (.int 3)) (tNilP)))))
    { nx := fun η => ∃ (o' : Ow) (xs : List Int) (here : Int) (t : Sl), Pool o' ∧ xs.length = i + 1 ∧ η = [.ow o', .va (.int hh), .ow (.l (xs.map .int)), .va (.int here), .va (.int wy), t] ∧ xs.Pairwise (· < ·) ∧ (∀ x ∈ xs, 0 ≤ x ∧ x < 10 ^ 40 ∧ (0 < wy → x < ((i + 1 : Nat) : Int)) ∧ (¬ 0 < wy → x < here)) ∧ 0 ≤ here ∧ here ≤ 3 + ((i + 1 : Nat) : Int) * (2 * 10 ^ 29), rt := fun x η' => ∃ o', η'[0]? = some (Sl.ow o') ∧ PR x o' }
    [.ow o', .va (.int hh), .ow (.l ((xs ++ [x]).map .int)), .va (.int here), .va (.int wy), .va (.int (0 + i))] := by
   intro x hxe
   obtain ⟨_, k1, k2, _⟩ := key x hxe
   refine w_set (w_op (w_op (w_var rfl (w_con (q_add ?_)))))
   refine w_op (w_lst (w_cons (w_con (w_cons (q_draw rfl rfl p' (by decide) (by decide) fun o3 d p3 d0 d1 => ?_)))))
   refine w_cons (w_op (w_con (w_con (q_pow ⟨by decide, by decide, by decide⟩ (w_nil ⟨sz3, ?_⟩)))))
   refine q_draw rfl rfl p3 (by decide) (by decide) fun o4 j p4 j0 j1 => ?_
   have fin : ∀ v : Int, 0 ≤ v → v ≤ 10 ^ 29 → ∃ (o' : Ow) (xs' : List Int) (here' : Int) (t : Sl), Pool o' ∧ xs'.length = i + 1 ∧ [Sl.ow o4, .va (.int hh), .ow (.l ((xs ++ [x]).map .int)), .va (.int (here + 1 + v)), .va (.int wy), .va (.int (0 + i))] = [.ow o', .va (.int hh), .ow (.l (xs'.map .int)), .va (.int here'), .va (.int wy), t] ∧ xs'.Pairwise (· < ·) ∧ (∀ x ∈ xs', 0 ≤ x ∧ x < 10 ^ 40 ∧ (0 < wy → x < ((i + 1 : Nat) : Int)) ∧ (¬ 0 < wy → x < here')) ∧ 0 ≤ here' ∧ here' ≤ 3 + ((i + 1 : Nat) : Int) * (2 * 10 ^ 29) := by
    intro v v0 v1
    refine ⟨o4, xs ++ [x], here + 1 + v, _, p4, by simp [hl], rfl, k1, fun y hy => ?_, by omega, by omega⟩
    obtain ⟨a1, a2, a3, a4⟩ := k2 y hy
    exact ⟨a1, a2, a3, fun q => by have := a4 q; omega⟩
   obtain rfl | rfl | rfl : j = 0 ∨ j = 1 ∨ j = 2 := by omega
   ·exact q_ix (x := .int 0) rfl (q_add (fin 0 (by decide) (by decide)))
   ·exact q_ix (x := .int d) rfl (q_add (fin d d0 (by omega)))
   ·exact q_ix (x := .int (10 ^ 29)) rfl (q_add (fin (10 ^ 29) (by decide) (by decide)))
  refine w_gname ?_
  refine w_seq (w_app (xs := xs.map .int) rfl (w_ife (w_bl (w_op (w_var rfl (w_con (q_gt ?_)))))))
  refine q_ite (fun hw => ?_) fun hw => ?_
  ·refine w_var rfl (q_appM rfl hz ?_)
   have := rest (0 + i) (by rw [if_pos hw])
   rw [List.map_append] at this
   exact this
  ·refine w_var rfl (q_appM rfl hz ?_)
   have := rest here (by rw [if_neg hw])
   rw [List.map_append] at this
   exact this
 ·rintro η ⟨o', xs, here, t, p', hl, rfl, pw, hx, g0, g1⟩
  rw [rangeP_len] at hl
  dsimp only
  refine w_ret ?_
  refine w_varO (o := .l (xs.map .int)) rfl ?_
  exact ⟨o', rfl, hp o' xs p' (by rw [hl]) pw fun x q => ⟨(hx x q).1, (hx x q).2.1⟩⟩
theorem w_varL {xs : List PV} {η : EP'} {s : Nat} {Q : List PV → EP' → Prop} (e : η[s]? = some (.va (.lst xs))) (h : Q xs η) : iListP (tVarP s) η Q := by
 unfold iListP
 exact w_var e h
theorem dlt_rows {a b : Trip} (h : a.1 ≠ b.1) : PySem.W.dataLe false encD (rowP a) (rowP b) = true → a.1.cps.toList < b.1.cps.toList := by
 intro q
 have q' : (!PySem.W.dataLt (.tuple [.str b.1, .int b.2.1, .int b.2.2]) (.tuple [.str a.1, .int a.2.1, .int a.2.2])) = true := q
 rw [PySem.W.dataLt_tuple, PySem.W.dataLt_cons (by simp [PySem.W.alike])] at q'
 have hne : PyData.eqv (.str b.1) (.str a.1) = false := by
  simp only [PyData.eqv]
  exact beq_eq_false_iff_ne.mpr fun z => h z.symm
 rw [hne, if_neg Bool.false_ne_true, PySem.W.dataLt_str] at q'
 have nb : ¬ b.1.cps.toList < a.1.cps.toList := by simpa using q'
 have hl : a.1.cps.toList ≠ b.1.cps.toList := fun z => h (by
  have : a.1.cps = b.1.cps := Array.toList_inj.mp z
  cases ha : a.1; cases hb : b.1; rw [ha, hb] at this; simp at this; rw [this])
 exact Classical.byContradiction fun na => hl (List.le_antisymm (List.not_lt.mp nb) (List.not_lt.mp na))
theorem sort_rows {rows : List Trip} (hn : (rows.map (·.1)).Nodup) : ∃ rs : List Trip, (rows.map rowP).mergeSort (PySem.W.dataLe false encD) = rs.map rowP ∧ rs.Perm rows ∧ rs.Pairwise fun a b => a.1.cps.toList < b.1.cps.toList := by
 have T := PySem.W.sortLe_total (PyProof.Rows.listOrd PyProof.Rows.itemOrd) false fun b : PV => PySem.W.keyToks (encD b)
 refine ⟨rows.mergeSort fun a b => PySem.W.dataLe false encD (rowP a) (rowP b), ?_, List.mergeSort_perm _ _, ?_⟩
 ·exact (List.map_mergeSort (f := rowP) (r := fun a b => PySem.W.dataLe false encD (rowP a) (rowP b)) (s := PySem.W.dataLe false encD) (fun _ _ _ _ => rfl)).symm
 ·have hp := List.mergeSort_perm rows fun a b => PySem.W.dataLe false encD (rowP a) (rowP b)
  have h1 : (rows.mergeSort fun a b => PySem.W.dataLe false encD (rowP a) (rowP b)).Pairwise fun a b => PySem.W.dataLe false encD (rowP a) (rowP b) = true :=
   List.pairwise_mergeSort (le := fun a b => PySem.W.dataLe false encD (rowP a) (rowP b)) (fun a b c p q => T.trans (rowP a) (rowP b) (rowP c) p q) (fun a b => by
    rcases T.total (rowP a) (rowP b) with p | p
    ·exact Bool.or_eq_true_iff.mpr (.inl p)
    ·exact Bool.or_eq_true_iff.mpr (.inr p)) rows
  have h2 : ((rows.mergeSort fun a b => PySem.W.dataLe false encD (rowP a) (rowP b)).map (·.1)).Nodup := (hp.map _).nodup_iff.mpr hn
  have h3 := List.pairwise_map.mp h2
  exact (h1.and h3).imp fun p => dlt_rows p.2 p.1
def rowD (r : Trip) : PyData := .tuple [.str r.1, .int r.2.1, .int r.2.2]
theorem toDs_rows : ∀ rs : List Trip, toDs (rs.map rowP) = some (rs.map rowD)
 | [] => rfl
 | r :: rs => by
  rw [List.map_cons, toDs, toDs_rows rs]
  rfl
theorem alike_rows (rs : List Trip) : PySem.W.AllAlike (rs.map rowD) := fun d hd d' hd' => by
 obtain ⟨a, _, rfl⟩ := List.mem_map.mp hd
 obtain ⟨b, _, rfl⟩ := List.mem_map.mp hd'
 simp [rowD, PySem.W.alike, PySem.W.alikeAll]
theorem q_sort {rows : List Trip} (hn : (rows.map (·.1)).Nodup) (hl : rows.length ≤ 24) (h : ∀ rs : List Trip, rs.Perm rows → (rs.Pairwise fun a b => a.1.cps.toList < b.1.cps.toList) → P (.lst (rs.map rowP))) : rSortD [.lst (rows.map rowP)] P := by
 refine ⟨_, toDs_rows rows, alike_rows rows, .inl fun d hd => ?_, fun x hx => ?_, ?_, ?_⟩
 ·obtain ⟨a, _, rfl⟩ := List.mem_map.mp hd
  exact ⟨_, _, rfl⟩
 ·obtain ⟨a, _, rfl⟩ := List.mem_map.mp hx
  show (PyData.tuple [.str a.1, .int a.2.1, .int a.2.2]).depth ≤ 50
  simp [PyData.depth, PyData.depthAll]
 ·have : 24 ≤ sizeLine := by decide
  rw [List.length_map]; omega
 ·obtain ⟨rs, e, p, s⟩ := sort_rows hn
  rw [e]; exact h rs p s
theorem rd_law_rides (h : sp_law_rides K C o args PR) : ts_law_rides K C { nx := fun η' => ∃ o', η'[0]? = some (Sl.ow o') ∧ PR .non o', rt := fun x η' => ∃ o', η'[0]? = some (Sl.ow o') ∧ PR x o' } (startR 9 o args) := by
 obtain ⟨ws, hh, po, rfl, hw, hwl, h1, h30, hp⟩ := h
 have e : startR 9 o [.lst (ws.map .str), .int hh] = [.ow o, .va (.lst (ws.map .str)), .va (.int hh), .no, .no, .no, .no, .no, .no] := rfl
 rw [e]
 have sz : 100 < sizeLine := by decide
 refine w_seq (w_par (w_arV (w_callR rfl (w_cons (w_var rfl (w_nil (q_callM rfl ⟨hh, po, rfl, by omega, h30, fun o1 ps p1 pl pw pb => ?_⟩)))))))
 refine w_arF (w_lstF (w_nil ⟨Nat.zero_le _, ?_⟩))
 refine w_arV (w_con (w_arN ⟨rfl, ⟨by decide, by show 4 < 9; decide, trivial⟩, ?_⟩))
 simp only [storesP, List.set_cons_zero, List.set_cons_succ]
 refine w_seq (w_for ?_)
 refine w_varL rfl ?_
 refine ⟨fun i η => ∃ (o' : Ow) (rows : List Trip) (last : Int) (a b c : Sl), Pool o' ∧ rows.map (·.1) = ws.take i ∧ η = [.ow o', .va (.lst (ws.map .str)), .va (.int hh), .va (.lst (ps.map .int)), .ow (.l (rows.map rowP)), .va (.int last), a, b, c] ∧ (∀ r ∈ rows, 0 ≤ r.2.1 ∧ r.2.1 < r.2.2 ∧ r.2.2 < 10 ^ 40) ∧ 0 ≤ last ∧ last ≤ hh, ?_, ?_, ?_⟩
 ·exact ⟨o1, [], 0, .no, .no, .no, p1, rfl, rfl, fun _ h => (by cases h), by decide, by omega⟩
 ·rintro i x η hi ⟨o', rows, last, a, b, c, p', hr, rfl, hb, l0, l1⟩
  rw [List.getElem?_map] at hi
  cases q : ws[i]? with
  | none => rw [q] at hi; cases hi
  | some w =>
   rw [q] at hi; cases hi
   have hil : i < ws.length := (List.getElem?_eq_some_iff.mp q).1
   have hrl : rows.length = i := by have := congrArg List.length hr; rw [List.length_map, List.length_take] at this; omega
   refine w_gname ?_
   simp only [List.set_cons_zero, List.set_cons_succ]
   refine w_seq (w_set (q_draw rfl rfl p' (by decide) (by decide) fun o2 wy p2 wy0 wy1 => ?_))
   simp only [List.set_cons_zero, List.set_cons_succ]
   -- behind begin
   have rest : ∀ (o3 : Ow) (bg : Int), Pool o3 → 0 ≤ bg → bg < hh →
    tSeqP (tSetP 5 (tOpP rAdd (tOpP rAdd (tVarP 8) (tConP (.int 1))) (tCallRP 0 (sp_law_draw K C) (tConsP (tIfP (tBlP (tOpP rGt (tOpP rSub (tVarP 2) (tVarP 8)) (tConP (.int 1)))) (tOpP rIxP (tLstP (tConsP (tConP (.int 1)) (tConsP (tConP (.int 2)) (tConsP (tOpP rSub (tVarP 2) (tVarP 8)) (tConsP (tOpP rSub (tVarP 2) (tVarP 8)) (tNilP)))))) (tVarP 7)) (tConP (.int 1))) (tNilP))))) (tSeqP (tSetP 5 (tCBP rMin2 (tConsP (tVarP 5) (tConsP (tVarP 2) (tNilP))))) (tAppP 4 (tTupP (tConsP (tVarP 6) (tConsP (tOpP rIxP (tVarP 3) (tVarP 8)) (tConsP (tOpP rIxP (tVarP 3) (tVarP 5)) (tNilP)))))))
    { nx := fun η => ∃ (o' : Ow) (rows : List Trip) (last : Int) (a b c : Sl), Pool o' ∧ rows.map (·.1) = ws.take (i + 1) ∧ η = [.ow o', .va (.lst (ws.map .str)), .va (.int hh), .va (.lst (ps.map .int)), .ow (.l (rows.map rowP)), .va (.int last), a, b, c] ∧ (∀ r ∈ rows, 0 ≤ r.2.1 ∧ r.2.1 < r.2.2 ∧ r.2.2 < 10 ^ 40) ∧ 0 ≤ last ∧ last ≤ hh, rt := fun x η' => ∃ o', η'[0]? = some (Sl.ow o') ∧ PR x o' }
    [.ow o3, .va (.lst (ws.map .str)), .va (.int hh), .va (.lst (ps.map .int)), .ow (.l (rows.map rowP)), .va (.int last), .va (.str w), .va (.int wy), .va (.int bg)] := by
    intro o3 bg p3 bg0 bg1
    have fin : ∀ (m : Int), 0 < m → m ≤ 100 → callM 0 (sp_law_draw K C) [.int m] [.ow o3, .va (.lst (ws.map .str)), .va (.int hh), .va (.lst (ps.map .int)), .ow (.l (rows.map rowP)), .va (.int last), .va (.str w), .va (.int wy), .va (.int bg)] fun z η2 => rAdd (.int (bg + 1)) z fun z =>
     tSeqP (tSetP 5 (tCBP rMin2 (tConsP (tVarP 5) (tConsP (tVarP 2) (tNilP))))) (tAppP 4 (tTupP (tConsP (tVarP 6) (tConsP (tOpP rIxP (tVarP 3) (tVarP 8)) (tConsP (tOpP rIxP (tVarP 3) (tVarP 5)) (tNilP))))))
      { nx := fun η => ∃ (o' : Ow) (rows : List Trip) (last : Int) (a b c : Sl), Pool o' ∧ rows.map (·.1) = ws.take (i + 1) ∧ η = [.ow o', .va (.lst (ws.map .str)), .va (.int hh), .va (.lst (ps.map .int)), .ow (.l (rows.map rowP)), .va (.int last), a, b, c] ∧ (∀ r ∈ rows, 0 ≤ r.2.1 ∧ r.2.1 < r.2.2 ∧ r.2.2 < 10 ^ 40) ∧ 0 ≤ last ∧ last ≤ hh, rt := fun x η' => ∃ o', η'[0]? = some (Sl.ow o') ∧ PR x o' } (η2.set 5 (.va z)) := by
     intro m m0 m1
     refine q_callM rfl ⟨m, p3, rfl, m0, by omega, fun o4 d p4 d0 d1 => ?_⟩
     refine q_add ?_
     simp only [List.set_cons_zero, List.set_cons_succ]
     refine w_seq (w_set (w_cb (w_cons (w_var rfl (w_cons (w_var rfl (w_nil (q_min ?_))))))))
     simp only [List.set_cons_zero, List.set_cons_succ]
     obtain ⟨nl, hnl, n0, n1⟩ : ∃ nl : Int, (if hh < bg + 1 + d then hh else bg + 1 + d) = nl ∧ bg < nl ∧ nl ≤ hh := ⟨_, rfl, by split <;> omega, by split <;> omega⟩
     rw [hnl]
     refine w_app (xs := rows.map rowP) rfl (w_tup (w_cons (w_var rfl (w_cons (w_op (w_var rfl (w_var rfl ?_)))))))
     have pll : (ps.length : Int) = hh + 1 := by omega
     refine q_ix (at_map 0 bg0 (by omega)) ?_
     refine w_cons (w_op (w_var rfl (w_var rfl ?_)))
     refine q_ix (at_map 0 (by omega) (by omega)) (w_nil ⟨sz3, ?_⟩)
     refine q_appM rfl (by rw [List.length_map]; omega) ?_
     have ib : bg.toNat < ps.length := by omega
     have ie : nl.toNat < ps.length := by omega
     have eb : ps.getD bg.toNat 0 = ps[bg.toNat] := by rw [List.getD_eq_getElem?_getD, List.getElem?_eq_getElem ib]; rfl
     have ee : ps.getD nl.toNat 0 = ps[nl.toNat] := by rw [List.getD_eq_getElem?_getD, List.getElem?_eq_getElem ie]; rfl
     rw [eb, ee]
     refine ⟨o4, rows ++ [(w, ps[bg.toNat], ps[nl.toNat])], nl, .va (.str w), .va (.int wy), .va (.int bg), p4, ?_, ?_, fun r hr => ?_, by omega, n1⟩
     ·rw [List.map_append, hr, List.take_succ, q]; rfl
     ·rw [List.map_append]; rfl
     ·rcases List.mem_append.mp hr with h | h
      ·exact hb r h
      ·rw [List.mem_singleton.mp h]
       refine ⟨(pb _ (List.getElem_mem ib)).1, List.pairwise_iff_getElem.mp pw _ _ ib ie (by omega), (pb _ (List.getElem_mem ie)).2⟩
    refine w_seq (w_set (w_op (w_op (w_var rfl (w_con (q_add ?_))))))
    refine w_callR rfl (w_cons (w_ife (w_bl (w_op (w_op (w_var rfl (w_var rfl (q_sub ?_))))))))
    refine w_con (q_gt (q_ite (fun hg => ?_) fun hg => ?_))
    ·refine w_op (w_lst (w_cons (w_con (w_cons (w_con ?_)))))
     refine w_cons (w_op (w_var rfl (w_var rfl (q_sub ?_))))
     refine w_cons (w_op (w_var rfl (w_var rfl (q_sub (w_nil ⟨?_, ?_⟩)))))
     ·show 4 ≤ sizeLine; omega
     refine w_var rfl ?_
     obtain rfl | rfl | rfl | rfl : wy = 0 ∨ wy = 1 ∨ wy = 2 ∨ wy = 3 := by omega
     ·exact q_ix (x := .int 1) rfl (w_nil (fin 1 (by decide) (by decide)))
     ·exact q_ix (x := .int 2) rfl (w_nil (fin 2 (by decide) (by decide)))
     ·exact q_ix (x := .int (hh - bg)) rfl (w_nil (fin (hh - bg) (by omega) (by omega)))
     ·exact q_ix (x := .int (hh - bg)) rfl (w_nil (fin (hh - bg) (by omega) (by omega)))
    ·exact w_con (w_nil (fin 1 (by decide) (by decide)))
   refine w_seq (w_set (w_ife (w_and (w_bl (w_op (w_var rfl (w_con (q_eq ?_))))))))
   have els : ∀ Q : PV → EP' → Prop, (∀ (o3 : Ow) (bg : Int), Pool o3 → 0 ≤ bg → bg < hh → Q (.int bg) [.ow o3, .va (.lst (ws.map .str)), .va (.int hh), .va (.lst (ps.map .int)), .ow (.l (rows.map rowP)), .va (.int last), .va (.str w), .va (.int wy), c]) → tCallRP 0 (sp_law_draw K C) (tConsP (tVarP 2) (tNilP)) [.ow o2, .va (.lst (ws.map .str)), .va (.int hh), .va (.lst (ps.map .int)), .ow (.l (rows.map rowP)), .va (.int last), .va (.str w), .va (.int wy), c] Q := by
    intro Q k
    exact w_callR rfl (w_cons (w_var rfl (w_nil (q_callM rfl ⟨hh, p2, rfl, by omega, by omega, fun o3 d p3 d0 d1 => k o3 d p3 d0 d1⟩))))
   refine q_ite (fun hwy => ?_) fun hwy => ?_
   ·refine w_bl (w_op (w_var rfl (w_var rfl (q_lt ?_))))
    refine q_ite (fun hlt => ?_) fun hlt => ?_
    ·exact w_var rfl (rest o2 last p2 l0 hlt)
    ·exact els _ fun o3 bg p3 b0 b1 => rest o3 bg p3 b0 b1
   ·refine q_iteF ?_
    exact els _ fun o3 bg p3 b0 b1 => rest o3 bg p3 b0 b1
 ·rintro η ⟨o', rows, last, a, b, c, p', hr, rfl, hb, l0, l1⟩
  rw [List.length_map, List.take_length] at hr
  have hrl : rows.length = ws.length := by rw [← hr, List.length_map]
  dsimp only
  refine w_ret ?_
  refine w_cb (w_cons (w_cb (w_cons (w_varO (o := .l (rows.map rowP)) rfl ?_))))
  refine w_nil (q_sort (by rw [hr]; exact hw.2) (by omega) fun rs pm asc => ?_)
  refine w_nil ?_
  have hmem : ∀ r ∈ rs, r.1 ∈ ws := fun r h => by rw [← hr]; exact List.mem_map.mpr ⟨r, pm.mem_iff.mp h, rfl⟩
  refine ⟨o', rfl, hp o' rs p' ⟨by rw [pm.length_eq]; omega, fun r h => ?_, asc⟩ (by rw [pm.length_eq, hrl]) fun r h => ⟨hmem r h, (hb r (pm.mem_iff.mp h)).2.2⟩⟩
  exact ⟨hw.1 _ (hmem r h), (hb r (pm.mem_iff.mp h)).1, (hb r (pm.mem_iff.mp h)).2.1⟩
theorem w_fldS {s : Nat} {f : Str} {te : TEp} {D : EndsP} {η : EP'} (h : te η fun x η1 => match η1[s]? with
 | some (.ow (.o C' fs)) => C' = C ∧ fs.length < 1000 ∧ D.nx (η1.set s (.ow (.o C (putFP f x fs))))
 | _ => False) : tFldSP C s f te D η := h
theorem w_sortL {i j : Int} {te : TEp} {η : EP'} {Q : PV → EP' → Prop} (h : te η fun x η1 => match x with
 | .tup xs => (∀ y ∈ xs, ∃ ys a b, y = .tup ys ∧ atI ys i = some a ∧ atI ys j = some b ∧ flatD a = true ∧ flatD b = true) ∧ PySem.W.AllAlike (xs.map (keyP i j)) ∧ xs.length ≤ sizeLine ∧ Q (.lst (xs.mergeSort (PySem.W.dataLe false (keyP i j)))) η1
 | _ => False) : tSortLP i j te η Q := h
theorem pf1 {n : Int} : putFP ("seat_count" : Str) (.int n) [] = [(("seat_count" : Str), .int n)] := rfl
theorem pf2 {n : Int} {x : PV} : putFP ("rows" : Str) x [(("seat_count" : Str), .int n)] = [(("seat_count" : Str), .int n), (("rows" : Str), x)] := by
 unfold putFP
 rw [if_neg (by decide)]
 rfl
theorem pf3 {n : Int} {x y : PV} : putFP ("queue" : Str) y [(("seat_count" : Str), .int n), (("rows" : Str), x)] = [(("seat_count" : Str), .int n), (("rows" : Str), x), (("queue" : Str), y)] := by
 unfold putFP
 rw [if_neg (by decide)]
 unfold putFP
 rw [if_neg (by decide)]
 rfl
end
def Near (rs : List Trip) : Prop := ∀ r ∈ rs, r.2.2 < 10 ^ 60
section
variable {K : PySem.W.Frag} {C : Addr} {args : List PV} {P : PV → Prop} {PR : PV → Ow → Prop} {o : Ow}
theorem rw_good {rs : List Trip} (h : Rw rs) : ∀ r ∈ rs, GoodR r := fun r hr => by
 obtain ⟨h1, h2, h3⟩ := h.each r hr
 refine ⟨fun c hc => ?_, h2, by omega⟩
 have e : (decide (1 ≤ r.1.length) && (decide (r.1.length ≤ 8) && r.1.cps.toList.all fun c => decide (c ∈ abc.cps.toList))) = true := h1
 have m := List.all_eq_true.mp (Bool.and_eq_true_iff.mp (Bool.and_eq_true_iff.mp e).2).2 c hc
 have m2 : c ∈ abc.cps.toList := of_decide_eq_true m
 have all : ∀ d ∈ abc.cps.toList, 97 ≤ d ∧ d ≤ 122 := by decide +kernel
 exact all c m2
theorem toD_row (r : Trip) : toD (rowP r) = some (rowE r) := by
 unfold rowP rowE
 simp only [toD, toDs, Option.map]
theorem toDs_rowsE : ∀ rs : List Trip, toDs (rs.map rowP) = some (rs.map rowE)
 | [] => by simp only [List.map_nil, toDs]
 | r :: rs => by
  rw [List.map_cons, List.map_cons, toDs, toD_row, toDs_rowsE rs]
theorem toD_rows (rs : List Trip) : toD (rowsP rs) = some (.tuple (rs.map rowE)) := by
 unfold rowsP
 rw [toD, toDs_rowsE]
 rfl
theorem canLay_row {r : Trip} (h : GoodR r) : PyData.canLay0 (rowE r) = true := by
 unfold rowE
 simp only [PyData.canLay0, PyData.canLayAll0, Bool.and_true]
 unfold PyData.strOk
 rw [← Array.all_toList]
 exact List.all_eq_true.mpr fun c hc => by
  have := h.low c hc
  exact decide_eq_true (by omega)
theorem canLay_rows : ∀ {rs : List Trip}, (∀ r ∈ rs, GoodR r) → PyData.canLayAll0 (rs.map rowE) = true
 | [], _ => rfl
 | r :: rs, h => by
  rw [List.map_cons, PyData.canLayAll0, canLay_row (h r List.mem_cons_self), canLay_rows fun q hq => h q (List.mem_cons_of_mem _ hq)]
  rfl
theorem depth_rows : ∀ rs : List Trip, PyData.depthAll (rs.map rowE) ≤ 1
 | [] => by simp [PyData.depthAll]
 | r :: rs => by
  have e : PyData.depth (rowE r) = 1 := by
   unfold rowE
   simp [PyData.depth, PyData.depthAll]
  have := depth_rows rs
  rw [List.map_cons, PyData.depthAll, e]
  omega
theorem shaped_rows {rs : List Trip} (h : ∀ r ∈ rs, GoodR r) : SeqAt.shaped (.tuple (rs.map rowE)) = true := by
 unfold SeqAt.shaped
 have := depth_rows rs
 rw [PyData.canLay0, canLay_rows h, Bool.true_and]
 refine decide_eq_true ?_
 rw [PyData.depth]
 omega
theorem eqv_row (r u : Trip) : PyData.eqv (rowE r) (rowE u) = decide (r = u) := by
 obtain ⟨x, s, t⟩ := r
 obtain ⟨x', s', t'⟩ := u
 unfold rowE
 simp only [PyData.eqv, PyData.eqvAll, Bool.and_true]
 rw [Bool.eq_iff_iff]
 simp
theorem eqv_rows : ∀ rs us : List Trip, PyData.eqvAll (rs.map rowE) (us.map rowE) = decide (rs = us)
 | [], [] => rfl
 | [], _ :: _ => rfl
 | _ :: _, [] => rfl
 | r :: rs, u :: us => by
  rw [List.map_cons, List.map_cons, PyData.eqvAll, eqv_row, eqv_rows rs us, Bool.eq_iff_iff]
  simp
theorem q_eqRows {rs us : List Trip} (hr : ∀ r ∈ rs, GoodR r) (hu : ∀ r ∈ us, GoodR r) (h : P (.bl (decide (rs = us)))) : rEqP false (rowsP rs) (rowsP us) P :=
 ⟨_, _, toD_rows rs, toD_rows us, shaped_rows hr, shaped_rows hu, by rw [if_neg (by simp), show PyData.eqv (.tuple (rs.map rowE)) (.tuple (us.map rowE)) = PyData.eqvAll (rs.map rowE) (us.map rowE) by simp only [PyData.eqv], eqv_rows]; exact h⟩
theorem log_of {i : Int} (h0 : 0 ≤ i) (h : i < 10 ^ 70) : i.natAbs.log2 < 1920 := by
 obtain ⟨n, rfl⟩ := Int.eq_ofNat_of_zero_le h0
 have h2 : n < 10 ^ 70 := by omega
 show n.log2 < 1920
 by_cases hn : n = 0
 ·subst hn; decide
 ·exact (Nat.log2_lt hn).mpr (Nat.lt_of_lt_of_le h2 (by decide +kernel))
structure ShowR (r : Trip) : Prop where
 g : GoodR r
 l : r.1.length ≤ 8
 s : r.2.1 < 10 ^ 70
 e : r.2.2 < 10 ^ 70
theorem rw_show {rs : List Trip} (h : Rw rs) (hn : Near rs) : ∀ r ∈ rs, ShowR r := fun r hr => by
 obtain ⟨h1, h2, h3⟩ := h.each r hr
 have h4 := hn r hr
 have e : (decide (1 ≤ r.1.length) && (decide (r.1.length ≤ 8) && r.1.cps.toList.all fun c => decide (c ∈ abc.cps.toList))) = true := h1
 exact ⟨rw_good h r hr, of_decide_eq_true (Bool.and_eq_true_iff.mp (Bool.and_eq_true_iff.mp e).2).1, by omega, by omega⟩
theorem w_fld {f : Str} {te : TEp} {η : EP'} {Q : PV → EP' → Prop} (h : te η fun x η1 => match x with
 | .ins C' fs => C' = C ∧ ∃ y, fs.lookup f = some y ∧ Q y η1
 | _ => False) : tFldP C f te η Q := h
theorem w_andV {ta tb : TEp} {η : EP'} {Q : PV → EP' → Prop} (h : ta η fun x η1 => match x with | .bl true => tb η1 Q | .bl false => Q (.bl false) η1 | _ => False) : tAndVP ta tb η Q := h
theorem w_itup {te : TEp} {η : EP'} {Q : List PV → EP' → Prop} (h : te η fun x η1 => match x with
 | .tup xs => Q xs η1
 | _ => False) : iTupP te η Q := h
theorem w_star {te : TEp} {t : TAp} {η : EP'} {Q : List PV → EP' → Prop} (h : te η fun x η1 => match x with
 | .lst xs => t η1 fun ys η2 => Q (xs ++ ys) η2
 | .tup xs => t η1 fun ys η2 => Q (xs ++ ys) η2
 | _ => False) : tStarP te t η Q := h
theorem w_fmt {te : TEp} {η : EP'} {Q : PV → EP' → Prop} (h : te η fun x η1 => match x with
 | .str y => y.length ≤ sizeLine ∧ Q (.str y) η1
 | .int i => i.natAbs.log2 < 1920 ∧ Q (.str (toString i)) η1
 | _ => False) : tFmtP te η Q := h
theorem w_js {ts : List TEp} {η : EP'} {Q : PV → EP' → Prop} (h : tJsP ts Str.empty η fun out η' => Q (.str out) η') : tJoinedP ts η Q := h
theorem w_js0 {acc : Str} {η : EP'} {Q : Str → EP' → Prop} (h : Q acc η) : tJsP [] acc η Q := h
theorem w_js1 {t : TEp} {ts : List TEp} {acc : Str} {η : EP'} {Q : Str → EP' → Prop} (h : t η fun x η1 => ∃ y : Str, x = .str y ∧ (acc ++ y).length ≤ sizeLine ∧ tJsP ts (acc ++ y) η1 Q) : tJsP (t :: ts) acc η Q := h
theorem w_prop' {sp : SpP} {ta : TEp} {η : EP'} {Q : PV → EP' → Prop} (h : ta η fun x η1 => (∃ fs, x = .ins C fs) ∧ sp [x] fun z => Q z η1) : tPropP C sp ta η Q := h
theorem q_neN {a b : Int} (h : P (.bl (!decide (a = b)))) : rEqI true (.int a) (.int b) P := h
theorem q_isC {y : PV} {Q : PV → Prop} (hC : ClsT K C) (ht : (tyN y).isSome = true) (h : Q (.bl false)) : rIsI K [y, .raw (.ref C)] Q := by
 cases y with
 | ins => cases ht
 | raw => cases ht
 | pln => cases ht
 | exn => cases ht
 | _ => exact ⟨hC, by decide, h⟩
theorem len_app (a b : Str) : (a ++ b).length = a.length + b.length := Str.length_append a b
theorem strsOf_mapS : ∀ ys : List Str, strsOf (ys.map .str) = some ys
 | [] => rfl
 | y :: ys => by rw [List.map_cons, strsOf, strsOf_mapS ys]; rfl
theorem sum_le : ∀ {ys : List Str}, (∀ y ∈ ys, y.length ≤ 4000) → (ys.map (·.length)).sum ≤ 4000 * ys.length
 | [], _ => by simp
 | y :: ys, h => by
  have := h y List.mem_cons_self
  have := sum_le (ys := ys) fun z hz => h z (List.mem_cons_of_mem _ hz)
  rw [List.map_cons, List.sum_cons, List.length_cons]
  omega
theorem w_g3 {a b c : PV} {i j k : Nat} {η : EP'} {R : EP' → Prop} (h : R (((η.set i (.va a)).set j (.va b)).set k (.va c))) : gConsP (gNameP i) (gConsP (gNameP j) (gConsP (gNameP k) (gNilP))) [a, b, c] η R := ⟨rfl, h⟩
theorem w_g2 {a b : PV} {i j : Nat} {η : EP'} {R : EP' → Prop} (h : R ((η.set i (.va a)).set j (.va b))) : gConsP (gNameP i) (gConsP (gNameP j) (gNilP)) [a, b] η R := ⟨rfl, h⟩
theorem q_addLL {xs ys : List PV} {Q : PV → Prop} (l : xs.length + ys.length ≤ sizeLine) (h : Q (.lst (xs ++ ys))) : rAdd (.lst xs) (.lst ys) Q := ⟨l, h⟩
theorem q_tupl {xs : List PV} {Q : PV → Prop} (h : Q (.tup xs)) : rTuple [.lst xs] Q := h
end
def passes (st : Int) (r : Trip) : Bool := decide (r.2.1 ≤ st) && decide (st < r.2.2)
def loadN (rs : List Trip) (st : Int) : Int := ((rs.filter (passes st)).length : Int)
def qLe (a b : Trip) : Bool := PySem.W.dataLe false (keyP 1 0) (rowP a) (rowP b)
def queueT (rs : List Trip) : List Trip := rs.mergeSort qLe
theorem queue_eq (rs : List Trip) : queueP rs = .tup ((queueT rs).map rowP) := by
 unfold queueP queueT
 have e := List.map_mergeSort (r := qLe) (s := PySem.W.dataLe false (keyP 1 0)) (f := rowP) (l := rs) fun a _ b _ => rfl
 rw [e]
theorem queue_perm (rs : List Trip) : (queueT rs).Perm rs := List.mergeSort_perm _ _
theorem queue_len (rs : List Trip) : (queueT rs).length = rs.length := (queue_perm rs).length_eq
def rowS (r : Trip) : Str := Str.empty ++ r.1 ++ ((":" : String) : Str) ++ ((toString r.2.1 : String) : Str) ++ (("-" : String) : Str) ++ ((toString r.2.2 : String) : Str)
def textS (n : Int) (rs : List Trip) : Str := Txt.join ((" " : String) : Str) (((toString n : String) : Str) :: rs.map rowS)
def peakI (rs : List Trip) : Int := maxI 0 (rs.map fun r => loadN rs r.2.1)
theorem int_short {i : Int} (h0 : 0 ≤ i) (h : i < 10 ^ 60) : ((toString i : String) : Str).length ≤ 61 := by
 have e := int_text_length_le10 (a := i) (k := 60) (by decide) (by
  obtain ⟨n, rfl⟩ := Int.eq_ofNat_of_zero_le h0
  have : n < 10 ^ 60 := by omega
  exact this)
 rw [PySem.ofString_length]
 exact e
structure Short (r : Trip) : Prop where
 g : GoodR r
 l : r.1.length ≤ 8
 s : r.2.1 < 10 ^ 60
 e : r.2.2 < 10 ^ 60
theorem rw_short {rs : List Trip} (h : Rw rs) (hn : Near rs) : ∀ r ∈ rs, Short r := fun r hr => by
 obtain ⟨g, l, _, _⟩ := rw_show h hn r hr
 obtain ⟨h1, h2, h3⟩ := h.each r hr
 have h4 := hn r hr
 exact ⟨g, l, by omega, h4⟩
theorem rowS_len {r : Trip} (h : Short r) : (rowS r).length ≤ 132 := by
 have b1 := int_short h.g.s0 h.s
 have b2 := int_short h.g.e0 h.e
 have l := h.l
 have c1 : ((":" : String) : Str).length = 1 := rfl
 have c2 : (("-" : String) : Str).length = 1 := rfl
 have c0 : (Str.empty).length = 0 := rfl
 unfold rowS
 rw [len_app, len_app, len_app, len_app, len_app]
 omega
theorem leavesI {i : Int} (h0 : 0 ≤ i) (h : i < 10 ^ 60) : PyData.leavesShort 61 (.int i) = true := by
 rw [PyData.leavesShort]
 exact decide_eq_true (by rw [PyData.shown_int]; exact int_short h0 h)
theorem log_of60 {i : Int} (h0 : 0 ≤ i) (h : i < 10 ^ 60) : i.natAbs.log2 < 1920 := by
 have h2 : (10 : Int) ^ 60 ≤ 10 ^ 70 := by decide
 exact log_of h0 (by omega)
def sp_Line_capacity : PrP := fun K C args P => ∃ n rs, args = [lineP C n rs] ∧ P (.int n)
def sp_Line_len : PrP := fun K C args P => ∃ n rs, args = [lineP C n rs] ∧ P (.int (rs.length : Int))
def sp_Line_str : PrP := fun K C args P => ∃ n rs, args = [lineP C n rs] ∧ 1 ≤ n ∧ n ≤ 20 ∧ Rw rs ∧ Near rs ∧ P (.str (textS n rs))
def sp_Line_eq : PrP := fun K C args P => ∃ n rs y, args = [lineP C n rs, y] ∧ ClsT K C ∧ (∀ r ∈ rs, GoodR r) ∧ (((tyN y).isSome = true ∧ P (.bl false)) ∨ ∃ m us, y = lineP C m us ∧ (∀ r ∈ us, GoodR r) ∧ P (.bl (decide (n = m ∧ rs = us))))
def sp_load_of : PrP := fun K C args P => ∃ rs st, args = [rowsP rs, .int st] ∧ rs.length ≤ 24 ∧ P (.int (loadN rs st))
def sp_Line_order : PrP := fun K C args P => ∃ n rs, args = [lineP C n rs] ∧ rs.length ≤ 24 ∧ P (.tup ((queueT rs).map fun r => .str r.1))
def sp_Line_peak : PrP := fun K C args P => ∃ n rs, args = [lineP C n rs] ∧ rs.length ≤ 24 ∧ P (.int (peakI rs))
def ts_Line_capacity (K : PySem.W.Frag) (CLine : Addr) : TSp := tRetP (tFldP CLine ("seat_count" : Str) (tVarP 0))
def ts_Line_len (K : PySem.W.Frag) (CLine : Addr) : TSp := tRetP (tCBP rLen (tConsP (tFldP CLine ("rows" : Str) (tVarP 0)) (tNilP)))
def ts_Line_str (K : PySem.W.Frag) (CLine : Addr) : TSp := tSeqP (tSetP 1 (tValP (tLcP (iTupP (tFldP CLine ("rows" : Str) (tVarP 0))) (gTupP 3 (gConsP (gNameP 2) (gConsP (gNameP 3) (gConsP (gNameP 4) (gNilP))))) (tYesP) (tJoinedP [tFmtP (tVarP 2), tConP (.str (":" : Str)), tFmtP (tVarP 3), tConP (.str ("-" : Str)), tFmtP (tVarP 4)]) [2, 3, 4]))) (tRetP (tJoinP (tConP (.str (" " : Str))) (tLstP (tConsP (tCBP rStr (tConsP (tFldP CLine ("seat_count" : Str) (tVarP 0)) (tNilP))) (tStarP (tVarP 1) (tNilP))))))
def ts_Line_eq (K : PySem.W.Frag) (CLine : Addr) : TSp := tRetP (tAndVP (tCBP (rIsI K) (tConsP (tVarP 1) (tConsP (tConP (.raw (.ref CLine))) (tNilP)))) (tAndVP (tOpP (rEqP false) (tFldP CLine ("seat_count" : Str) (tVarP 0)) (tFldP CLine ("seat_count" : Str) (tVarP 1))) (tOpP (rEqP false) (tFldP CLine ("rows" : Str) (tVarP 0)) (tFldP CLine ("rows" : Str) (tVarP 1)))))
def ts_load_of (K : PySem.W.Frag) (CLine : Addr) : TSp := tRetP (tCBP rLen (tConsP (tValP (tLcP (iTupP (tVarP 0)) (gTupP 3 (gConsP (gNameP 2) (gConsP (gNameP 3) (gConsP (gNameP 4) (gNilP))))) (tBlP (tChainP rLe rLt (tVarP 3) (tVarP 1) (tVarP 4))) (tVarP 2) [2, 3, 4])) (tNilP)))
def ts_Line_order (K : PySem.W.Frag) (CLine : Addr) : TSp := tRetP (tCBP rTuple (tConsP (tValP (tLcP (iTupP (tFldP CLine ("queue" : Str) (tVarP 0))) (gNameP 1) (tYesP) (tOpP rIxP (tVarP 1) (tConP (.int 0))) [1])) (tNilP)))
def ts_Line_peak (K : PySem.W.Frag) (CLine : Addr) : TSp := tRetP (tMaxDP (tConsP (tValP (tLcP (iTupP (tFldP CLine ("rows" : Str) (tVarP 0))) (gNameP 1) (tYesP) (tCallP (sp_load_of K CLine) [] (tConsP (tFldP CLine ("rows" : Str) (tVarP 0)) (tConsP (tOpP rIxP (tVarP 1) (tConP (.int 1))) (tNilP)))) [1])) (tNilP)) (tConsP (tConP (.int 0)) (tNilP)))
section
variable {K : PySem.W.Frag} {C : Addr} {args : List PV} {P : PV → Prop} {PR : PV → Ow → Prop} {o : Ow}
theorem len_Line_capacity (h : sp_Line_capacity K C args P) : args.length = 1 := by
 obtain ⟨_, _, rfl, _⟩ := h; rfl
theorem len_Line_len (h : sp_Line_len K C args P) : args.length = 1 := by
 obtain ⟨_, _, rfl, _⟩ := h; rfl
theorem len_Line_str (h : sp_Line_str K C args P) : args.length = 1 := by
 obtain ⟨_, _, rfl, _⟩ := h; rfl
theorem len_Line_eq (h : sp_Line_eq K C args P) : args.length = 2 := by
 obtain ⟨_, _, _, rfl, _⟩ := h; rfl
theorem len_load_of (h : sp_load_of K C args P) : args.length = 2 := by
 obtain ⟨_, _, rfl, _⟩ := h; rfl
theorem len_Line_order (h : sp_Line_order K C args P) : args.length = 1 := by
 obtain ⟨_, _, rfl, _⟩ := h; rfl
theorem len_Line_peak (h : sp_Line_peak K C args P) : args.length = 1 := by
 obtain ⟨_, _, rfl, _⟩ := h; rfl
theorem w_chain {r r' : R2p} {ta tb tc : TEp} {η : EP'} {Q : PV → EP' → Prop} (h : ta η fun x η1 => tb η1 fun y η2 => r x y fun z => ∃ k, z = .bl k ∧ if k = true then tc η2 fun w η3 => r' y w fun z' => Q z' η3 else Q (.bl false) η2) : tChainP r r' ta tb tc η Q := h
theorem w_maxD {t tk : TAp} {η : EP'} {Q : PV → EP' → Prop} (h : t η fun xs η1 => tk η1 fun zs η2 => ∃ ys ns d, xs = [.lst ys] ∧ zs = [.int d] ∧ intsOf ys = some ns ∧ Q (.int (maxI d ns)) η2) : tMaxDP t tk η Q := h
theorem take_map {α β : Type} {l : List α} {f : α → β} {i : Nat} {a : α} (h : l[i]? = some a) : (l.take (i + 1)).map f = (l.take i).map f ++ [f a] := by
 rw [List.take_succ, h, List.map_append]
 rfl
theorem take_filter {α : Type} {l : List α} {p : α → Bool} {i : Nat} {a : α} (h : l[i]? = some a) : (l.take (i + 1)).filter p = (l.take i).filter p ++ [a].filter p := by
 rw [List.take_succ, h, List.filter_append]
 rfl
theorem take_filterT {α : Type} {l : List α} {p : α → Bool} {i : Nat} {a : α} (h : l[i]? = some a) (hp : p a = true) : (l.take (i + 1)).filter p = (l.take i).filter p ++ [a] := by
 rw [take_filter h, List.filter_cons_of_pos hp]
 rfl
theorem take_filterF {α : Type} {l : List α} {p : α → Bool} {i : Nat} {a : α} (h : l[i]? = some a) (hp : p a = false) : (l.take (i + 1)).filter p = (l.take i).filter p := by
 rw [take_filter h, List.filter_cons_of_neg (by rw [hp]; decide)]
 exact List.append_nil _
theorem filt_len {α : Type} {l : List α} {p : α → Bool} {i : Nat} (h : l.length ≤ 24) : ((l.take i).filter p).length < sizeLine := by
 have h1 := List.length_filter_le p (l.take i)
 rw [List.length_take] at h1
 have : 1000 < sizeLine := by decide
 omega
theorem rd_Line_capacity (h : sp_Line_capacity K C args P) : ts_Line_capacity K C { nx := fun _ => P .non, rt := fun x _ => P x } (startP 1 args) := by
 obtain ⟨n, rs, rfl, hp⟩ := h
 exact ⟨rfl, _, rfl, hp⟩
theorem rd_Line_len (h : sp_Line_len K C args P) : ts_Line_len K C { nx := fun _ => P .non, rt := fun x _ => P x } (startP 1 args) := by
 obtain ⟨n, rs, rfl, hp⟩ := h
 refine w_ret (w_cb (w_cons (w_fld (w_var rfl ⟨rfl, _, rfl, w_nil (q_lenT ?_)⟩))))
 rw [List.length_map]
 exact hp
theorem rd_Line_eq (h : sp_Line_eq K C args P) : ts_Line_eq K C { nx := fun _ => P .non, rt := fun x _ => P x } (startP 2 args) := by
 obtain ⟨n, rs, y, rfl, hC, hg, hp⟩ := h
 refine w_ret (w_andV (w_cb (w_cons (w_var (x := y) rfl (w_cons (w_con (w_nil ?_)))))))
 rcases hp with ⟨ht, hp⟩ | ⟨m, us, rfl, hu, hp⟩
 ·exact q_isC hC ht hp
 ·refine ⟨rfl, hC, ?_⟩
  refine w_andV (w_op (w_fld (w_var rfl ⟨rfl, _, rfl, w_fld (w_var rfl ⟨rfl, _, rfl, q_eq ?_⟩)⟩)))
  by_cases e : n = m
  ·rw [decide_eq_true e]
   refine w_op (w_fld (w_var rfl ⟨rfl, _, rfl, w_fld (w_var rfl ⟨rfl, _, rfl, ?_⟩)⟩))
   refine q_eqRows hg hu ?_
   rw [show decide (rs = us) = decide (n = m ∧ rs = us) by rw [Bool.eq_iff_iff]; simp [e]]
   exact hp
  ·rw [decide_eq_false e]
   rw [show decide (n = m ∧ rs = us) = false from decide_eq_false fun z => e z.1] at hp
   exact hp
theorem rd_load_of (h : sp_load_of K C args P) : ts_load_of K C { nx := fun _ => P .non, rt := fun x _ => P x } (startP 5 args) := by
 obtain ⟨rs, st, rfl, hl, hp⟩ := h
 have e : startP 5 [rowsP rs, .int st] = [.va (rowsP rs), .va (.int st), .no, .no, .no] := rfl
 rw [e]
 refine w_ret (w_cb (w_cons (w_val (w_lc (w_itup (w_var (x := rowsP rs) rfl ?_))))))
 refine ⟨fun i acc η => acc = ((rs.take i).filter (passes st)).map (fun r => .str r.1) ∧ η = [.va (rowsP rs), .va (.int st), .no, .no, .no], ⟨rfl, rfl⟩, ?_, ?_⟩
 ·rintro i x acc η hi ⟨rfl, rfl⟩
  rw [List.getElem?_map] at hi
  obtain ⟨r, hr, rfl⟩ := Option.map_eq_some_iff.mp hi
  refine ⟨rfl, w_g3 (w_bl (w_chain (w_var (x := .int r.2.1) rfl (w_var (x := .int st) rfl (q_le ⟨_, rfl, ?_⟩)))))⟩
  refine q_ite (fun a1 => w_var (x := .int r.2.2) rfl (q_lt (q_ite (fun a2 => ?_) fun a2 => ?_))) fun a1 => q_iteF ?_
  ·have pp : passes st r = true := by unfold passes; rw [decide_eq_true a1, decide_eq_true a2]; rfl
   refine w_var (x := .str r.1) rfl ⟨by rw [List.length_map]; exact filt_len hl, ?_, rfl⟩
   rw [take_filterT hr pp, List.map_append]
   rfl
  ·have pp : passes st r = false := by unfold passes; rw [decide_eq_true a1, decide_eq_false a2]; rfl
   exact ⟨by rw [take_filterF hr pp], rfl⟩
  ·have pp : passes st r = false := by unfold passes; rw [decide_eq_false a1]; rfl
   exact ⟨by rw [take_filterF hr pp], rfl⟩
 ·rintro acc η ⟨rfl, rfl⟩
  rw [List.length_map, List.take_length]
  refine w_nil (q_len ?_)
  rw [List.length_map]
  exact hp
theorem rd_Line_order (h : sp_Line_order K C args P) : ts_Line_order K C { nx := fun _ => P .non, rt := fun x _ => P x } (startP 2 args) := by
 obtain ⟨n, rs, rfl, hl, hp⟩ := h
 have e : startP 2 [lineP C n rs] = [.va (lineP C n rs), .no] := rfl
 rw [e]
 have ql := queue_len rs
 have sz : 1000 < sizeLine := by decide
 refine w_ret (w_cb (w_cons (w_val (w_lc (w_itup (w_fld (w_var rfl ⟨rfl, .tup ((queueT rs).map rowP), by rw [← queue_eq]; rfl, ?_⟩)))))))
 refine ⟨fun i acc η => acc = ((queueT rs).take i).map (fun r => .str r.1) ∧ η = [.va (lineP C n rs), .no], ⟨rfl, rfl⟩, ?_, ?_⟩
 ·rintro i x acc η hi ⟨rfl, rfl⟩
  rw [List.getElem?_map] at hi
  obtain ⟨r, hr, rfl⟩ := Option.map_eq_some_iff.mp hi
  refine w_gname (w_yes (q_iteT ?_))
  refine w_op (w_var (x := rowP r) rfl (w_con (q_ixT rfl ⟨?_, ?_, rfl⟩)))
  ·rw [List.length_map, List.length_take]
   omega
  ·rw [take_map hr]
 ·rintro acc η ⟨rfl, rfl⟩
  rw [List.length_map, List.take_length]
  exact w_nil (q_tupl hp)
theorem rd_Line_peak (h : sp_Line_peak K C args P) : ts_Line_peak K C { nx := fun _ => P .non, rt := fun x _ => P x } (startP 2 args) := by
 obtain ⟨n, rs, rfl, hl, hp⟩ := h
 have e : startP 2 [lineP C n rs] = [.va (lineP C n rs), .no] := rfl
 rw [e]
 have sz : 1000 < sizeLine := by decide
 refine w_ret (w_maxD (w_cons (w_val (w_lc (w_itup (w_fld (w_var rfl ⟨rfl, _, rfl, ?_⟩)))))))
 refine ⟨fun i acc η => acc = ((rs.take i).map fun r => loadN rs r.2.1).map .int ∧ η = [.va (lineP C n rs), .no], ⟨rfl, rfl⟩, ?_, ?_⟩
 ·rintro i x acc η hi ⟨rfl, rfl⟩
  rw [List.getElem?_map] at hi
  obtain ⟨r, hr, rfl⟩ := Option.map_eq_some_iff.mp hi
  refine w_gname (w_yes (q_iteT ?_))
  refine w_call (w_cons (w_fld (w_var (x := lineP C n rs) rfl ⟨rfl, _, rfl, w_cons (w_op (w_var (x := rowP r) rfl (w_con (q_ixT rfl (w_nil ⟨rs, r.2.1, rfl, hl, ?_, ?_, rfl⟩)))))⟩)))
  ·rw [List.length_map, List.length_map, List.length_take]
   omega
  ·rw [take_map hr, List.map_append]
   rfl
 ·rintro acc η ⟨rfl, rfl⟩
  rw [List.length_map, List.take_length]
  exact w_nil (w_cons (w_con (w_nil ⟨_, _, 0, rfl, rfl, intsOf_map _, hp⟩)))
theorem rd_Line_str (h : sp_Line_str K C args P) : ts_Line_str K C { nx := fun _ => P .non, rt := fun x _ => P x } (startP 5 args) := by
 obtain ⟨n, rs, rfl, h1, h2, hw, hn, hp⟩ := h
 have e : startP 5 [lineP C n rs] = [.va (lineP C n rs), .no, .no, .no, .no] := rfl
 rw [e]
 have hs := rw_short hw hn
 have hl := hw.len
 have sz : 16777216 ≤ sizeLine := by decide
 refine w_seq (w_set (w_val (w_lc (w_itup (w_fld (w_var rfl ⟨rfl, _, rfl, ?_⟩))))))
 refine ⟨fun i acc η => acc = ((rs.take i).map rowS).map .str ∧ η = [.va (lineP C n rs), .no, .no, .no, .no], ⟨rfl, rfl⟩, ?_, ?_⟩
 ·rintro i x acc η hi ⟨rfl, rfl⟩
  rw [List.getElem?_map] at hi
  obtain ⟨r, hr, rfl⟩ := Option.map_eq_some_iff.mp hi
  have hsr := hs r (List.mem_of_getElem? hr)
  have b1 := int_short hsr.g.s0 hsr.s
  have b2 := int_short hsr.g.e0 hsr.e
  have l := hsr.l
  have c1 : ((":" : String) : Str).length = 1 := rfl
  have c2 : (("-" : String) : Str).length = 1 := rfl
  have c0 : (Str.empty).length = 0 := rfl
  refine ⟨rfl, w_g3 (w_yes (q_iteT ?_))⟩
  refine w_js (w_js1 (w_fmt (w_var (x := .str r.1) rfl ⟨by omega, _, rfl, by rw [len_app]; omega, ?_⟩)))
  refine w_js1 (w_con ⟨_, rfl, by rw [len_app, len_app]; omega, ?_⟩)
  refine w_js1 (w_fmt (w_var (x := .int r.2.1) rfl ⟨log_of60 hsr.g.s0 hsr.s, _, rfl, by rw [len_app, len_app, len_app]; omega, ?_⟩))
  refine w_js1 (w_con ⟨_, rfl, by rw [len_app, len_app, len_app, len_app]; omega, ?_⟩)
  refine w_js1 (w_fmt (w_var (x := .int r.2.2) rfl ⟨log_of60 hsr.g.e0 hsr.e, _, rfl, by rw [len_app, len_app, len_app, len_app, len_app]; omega, ?_⟩))
  refine w_js0 ⟨by rw [List.length_map, List.length_map, List.length_take]; omega, ?_, rfl⟩
  rw [take_map hr, List.map_append]
  rfl
 ·rintro acc η ⟨rfl, rfl⟩
  rw [List.length_map, List.take_length]
  simp only [List.set_cons_zero, List.set_cons_succ]
  have h20 : (20 : Int) < 10 ^ 60 := by decide
  have b0 := int_short (i := n) (by omega) (by omega)
  refine w_ret (w_join (w_con ⟨⟨_, rfl⟩, ?_⟩))
  refine w_lst (w_cons (w_cb (w_cons (w_fld (w_var rfl ⟨rfl, _, rfl, w_nil ⟨log_of60 (by omega) (by omega), ?_⟩⟩)))))
  refine w_star (w_var rfl (w_nil ⟨by rw [List.length_cons, List.length_append, List.length_map, List.length_map, List.length_nil]; omega, ?_⟩))
  refine ⟨((toString n : String) : Str) :: rs.map rowS, ?_, ?_, hp⟩
  ·rw [List.append_nil, strsOf, strsOf_mapS]; rfl
  ·have hsum := sum_le (ys := rs.map rowS) fun y hy => by
    obtain ⟨r, hr, rfl⟩ := List.mem_map.mp hy
    have := rowS_len (hs r hr)
    omega
   rw [List.length_map] at hsum
   rw [List.map_cons, List.sum_cons, List.length_cons, List.length_map, show ((" " : String) : Str).length = 1 from rfl]
   omega
theorem q_eqN {a b : Int} (h : P (.bl (decide (a = b)))) : rEqI false (.int a) (.int b) P := h
end
def Asc (us : List Trip) : Prop := us.Pairwise fun a b => a.1.cps.toList < b.1.cps.toList
section
variable {K : PySem.W.Frag} {C : Addr} {args : List PV} {P : PV → Prop} {PR : PV → Ow → Prop} {o : Ow}
theorem perm_asc {us vs : List Trip} (h : us.Perm vs) (hu : Asc us) (hv : Asc vs) : us = vs := by
 refine h.eq_of_pairwise (le := fun a b : Trip => a.1.cps.toList < b.1.cps.toList) (fun a b _ _ h1 h2 => ?_) hu hv
 exact absurd (List.lt_trans h1 h2) (List.lt_irrefl _)
end
abbrev PrX' := PySem.W.Frag → Addr → (Str → Addr) → List PV → (PV → Prop) → WC → Prop
abbrev PrRX' := PySem.W.Frag → Addr → (Str → Addr) → Ow → List PV → (PV → Ow → Prop) → WC → Prop
def KnT (K : PySem.W.Frag) (x : PV) : Prop := Kn K x ∧ ∀ n s e, x = .tup [n, s, e] → Kn K n ∧ Kn K s ∧ Kn K e ∧ ∀ z, n = .str z → z.length ≤ sizeLine
def latB (e : PV) : PV → Bool
 | .int i => isLat i e
 | _ => false
def isTripB : PV → Bool
 | .tup [n, s, e] => isNm n && (isStn s && latB e s)
 | _ => false
def nmOf : PV → Str
 | .tup (.str w :: _) => w
 | _ => ("" : Str)
def vGoT : Nat → Str → List PV → Nat
 | i, _, [] => i
 | i, b, x :: xs => if i = 24 ∨ isTripB x = false ∨ ¬ b.cps.toList < (nmOf x).cps.toList then i else vGoT (i + 1) (nmOf x) xs
def vNT (xs : List PV) : Nat := vGoT 0 ("" : Str) xs
def seatsB : PV → Bool
 | .int n => decide (1 ≤ n) && decide (n ≤ 20)
 | _ => false
def KnR (K : PySem.W.Frag) (y : PV) : Prop := Kn K y ∧ ∀ xs, y = .tup xs → xs.length ≤ sizeLine ∧ ∀ x ∈ xs, KnT K x
def sp_is_tripE : PrP := fun K _ args P => ∃ x, args = [x] ∧ KnT K x ∧ P (.bl (isTripB x))
def sp_valid_beginningE : PrP := fun K _ args P => ∃ xs, args = [.tup xs] ∧ KnR K (.tup xs) ∧ P (.int (vNT xs))
def sp_check_seatsX : PrX' := fun K _ XC args P Zw => ∃ x, args = [x] ∧ Kn K x ∧ (seatsB x = true → P .non) ∧ (seatsB x = false → Zw (XC ("InvalidSeats" : Str)) [(("value" : Str), x)])
def sp_Line_initX : PrRX' := fun K C XC o args P Zw => ∃ x y, o = .o C [] ∧ args = [x, y] ∧ Kn K x ∧ KnR K y ∧
 (∀ n rs, x = .int n → y = rowsP rs → 1 ≤ n → n ≤ 20 → Rw rs → P .non (.o C (lineF n rs))) ∧
 (seatsB x = false → Zw (XC ("InvalidSeats" : Str)) [(("value" : Str), x)]) ∧
 (seatsB x = true → isTu y = false → Zw (XC ("InvalidTrips" : Str)) [(("index" : Str), .non)]) ∧
 (∀ xs, seatsB x = true → y = .tup xs → vNT xs < xs.length → Zw (XC ("InvalidTrips" : Str)) [(("index" : Str), .int (vNT xs))])
def ts_is_tripE (K : PySem.W.Frag) (CLine : Addr) : TSp := tSeqP (tIfSP (tOrP (tNotP (tBlP (tCBP (rIsI K) (tConsP (tVarP 0) (tConsP (tConP (.raw (.ty "tuple"))) (tNilP)))))) (tBlP (tOpP (rEqI true) (tCBP rLen (tConsP (tVarP 0) (tNilP))) (tConP (.int 3))))) (tRetP (tConP (.bl false))) (tNextP)) (tSeqP (tAsgP (tVarP 0) (gTupP 3 (gConsP (gNameP 1) (gConsP (gNameP 2) (gConsP (gNameP 3) (gNilP)))))) (tRetP (tAndVP (tCallP (sp_is_trip_name K CLine) [] (tConsP (tVarP 1) (tNilP))) (tAndVP (tCallP (sp_is_station K CLine) [] (tConsP (tVarP 2) (tNilP))) (tCallP (sp_is_later K CLine) [] (tConsP (tVarP 3) (tConsP (tVarP 2) (tNilP))))))))
def ts_valid_beginningE (K : PySem.W.Frag) (CLine : Addr) : TSp := tSeqP (tSetP 1 (tConP (.str ("" : Str)))) (tSeqP (tForP (iEnumP (tVarP 0)) (gTupP 2 (gConsP (gNameP 2) (gConsP (gNameP 3) (gNilP)))) (tSeqP (tIfSP (tOrP (tBlP (tOpP (rEqI false) (tVarP 2) (tConP (.int 24)))) (tOrP (tNotP (tBlP (tCallP (sp_is_tripE K CLine) [] (tConsP (tVarP 3) (tNilP))))) (tBlP (tOpP rLe (tOpP rIxP (tVarP 3) (tConP (.int 0))) (tVarP 1))))) (tRetP (tVarP 2)) (tNextP)) (tSetP 1 (tOpP rIxP (tVarP 3) (tConP (.int 0)))))) (tRetP (tCBP rLen (tConsP (tVarP 0) (tNilP)))))
def ts_check_seatsX (K : PySem.W.Frag) (CLine : Addr) (XC : Str → Addr) : TSX := tIfX (tOrP (tNotP (tBlP (tCallP (sp_is_integer K CLine) [] (tConsP (tVarP 0) (tNilP))))) (tNotP (tBlP (tChainP rLe rLe (tConP (.int 1)) (tVarP 0) (tConP (.int 20)))))) (tRaiseX (XC ("InvalidSeats" : Str)) ("value" : Str) (tVarP 0)) (tPlX (tNextP))
def ts_Line_initX (K : PySem.W.Frag) (CLine : Addr) (XC : Str → Addr) : TSX := tSeqX (tExX (tCallX (sp_check_seatsX K CLine XC) [] (tConsP (tVarP 1) (tNilP)))) (tSeqX (tIfX (tNotP (tBlP (tCBP (rIsI K) (tConsP (tVarP 2) (tConsP (tConP (.raw (.ty "tuple"))) (tNilP)))))) (tRaiseX (XC ("InvalidTrips" : Str)) ("index" : Str) (tConP .non)) (tPlX (tNextP))) (tSeqX (tPlX (tSetP 3 (tCallP (sp_valid_beginningE K CLine) [] (tConsP (tVarP 2) (tNilP))))) (tSeqX (tIfX (tBlP (tOpP rLt (tVarP 3) (tCBP rLen (tConsP (tVarP 2) (tNilP))))) (tRaiseX (XC ("InvalidTrips" : Str)) ("index" : Str) (tVarP 3)) (tPlX (tNextP))) (tPlX (tSeqP (tFldSP CLine 0 ("seat_count" : Str) (tVarP 1)) (tSeqP (tFldSP CLine 0 ("rows" : Str) (tVarP 2)) (tFldSP CLine 0 ("queue" : Str) (tCBP rTuple (tConsP (tSortLP 1 0 (tVarP 2)) (tNilP))))))))))
section
variable {K : PySem.W.Frag} {C : Addr} {XC : Str → Addr} {args : List PV} {P : PV → Prop} {PF : List PV → Prop} {PR : PV → Ow → Prop} {o : Ow} {Zw : WC}
theorem len_is_tripE (h : sp_is_tripE K C args P) : args.length = 1 := by obtain ⟨_, rfl, _⟩ := h; rfl
theorem len_valid_beginningE (h : sp_valid_beginningE K C args P) : args.length = 1 := by obtain ⟨_, rfl, _⟩ := h; rfl
theorem len_check_seatsX (h : sp_check_seatsX K C XC args P Zw) : args.length = 1 := by obtain ⟨_, rfl, _⟩ := h; rfl
theorem len_Line_initX (h : sp_Line_initX K C XC o args PR Zw) : args.length = 2 := by obtain ⟨_, _, _, rfl, _⟩ := h; rfl
end
section
variable {K : PySem.W.Frag} {T : List (Addr × Str)} {D : EndsP} {Zw : WZ} {η : EP'} {sp : SpX} {dps : List PV} {t : TAp}
theorem w_seqX1 {t u : TSX} (h : t { D with nx := fun η' => u D Zw η' } Zw η) : tSeqX t u D Zw η := h
theorem w_plX1 {t : TSp} (h : t D η) : tPlX t D Zw η := h
theorem w_ifX1 {c : TTp} {t u : TSX} (h : c η fun b η1 => if b = true then t D Zw η1 else u D Zw η1) : tIfX c t u D Zw η := h
theorem w_raiseX1 {C : Addr} {f : Str} {te : TEp} (h : te η fun y η1 => Zw C [(f, y)] η1) : tRaiseX C f te D Zw η := h
theorem w_exX1 {te : TXp} (h : te η (fun _ η1 => D.nx η1) Zw) : tExX te D Zw η := h
theorem w_callX1 {P : PV → EP' → Prop} (h : t η fun args η1 => sp (args ++ dps) (fun z => P z η1) fun C fs => Zw C fs η1) : tCallX sp dps t η P Zw := h
end
theorem w_enumX {te : TEp} {η : EP'} {QA : List PV → EP' → Prop} (h : te η fun x η1 => match x with
 | .tup xs => QA (enumP xs) η1
 | _ => False) : iEnumP te η QA := h
theorem enumX_len (xs : List PV) : (enumP xs).length = xs.length := by simp [enumP]
theorem trip_ofX {x : PV} (h : isTripB x = true) : ∃ r : Trip, x = rowP r ∧ isNm (.str r.1) = true ∧ 0 ≤ r.2.1 ∧ r.2.1 < r.2.2 := by
 unfold isTripB at h
 split at h
 ·rename_i n s e
  rw [Bool.and_eq_true, Bool.and_eq_true] at h
  obtain ⟨h1, h2, h3⟩ := h
  cases s with
  | int i =>
   cases n with
   | str w =>
    cases e with
    | int j => exact ⟨(w, i, j), rfl, h1, of_decide_eq_true h2, of_decide_eq_true h3⟩
    | _ => cases h3
   | _ => cases h1
  | _ => cases h3
 ·cases h
theorem nm_row (r : Trip) : nmOf (rowP r) = r.1 := rfl
theorem valid_le : ∀ (xs : List PV) (i : Nat) (b : Str), vGoT i b xs ≤ i + xs.length
 | [], i, b => Nat.le_refl _
 | x :: xs, i, b => by
  unfold vGoT
  split
  ·omega
  ·have := valid_le xs (i + 1) (nmOf x)
   rw [List.length_cons]; omega
theorem valid_all : ∀ (xs : List PV) (i : Nat) (b : Str), i ≤ 24 → vGoT i b xs = i + xs.length → ∃ rs : List Trip, xs = rs.map rowP ∧ (∀ r ∈ rs, isNm (.str r.1) = true ∧ 0 ≤ r.2.1 ∧ r.2.1 < r.2.2) ∧ Asc rs ∧ i + rs.length ≤ 24 ∧ ∀ r ∈ rs, b.cps.toList < r.1.cps.toList
 | [], i, b, hi, h => ⟨[], rfl, fun _ z => (List.not_mem_nil z).elim, List.Pairwise.nil, hi, fun _ z => (List.not_mem_nil z).elim⟩
 | x :: xs, i, b, hi, h => by
  unfold vGoT at h
  split at h
  ·rw [List.length_cons] at h; omega
  ·rename_i hc
   have h1 : i ≠ 24 := fun z => hc (.inl z)
   have h2 : isTripB x = true := by
    cases e : isTripB x with
    | true => rfl
    | false => exact absurd (.inr (.inl e)) hc
   have h3 : b.cps.toList < (nmOf x).cps.toList := Classical.byContradiction fun z => hc (.inr (.inr z))
   obtain ⟨r, rfl, g1, g2, g3⟩ := trip_ofX h2
   rw [nm_row] at h h3
   obtain ⟨rs, rfl, e1, e2, e3, e4⟩ := valid_all xs (i + 1) r.1 (by omega) (by rw [h, List.length_cons]; omega)
   refine ⟨r :: rs, rfl, fun q hq => ?_, List.pairwise_cons.mpr ⟨e4, e2⟩, by rw [List.length_cons]; omega, fun q hq => ?_⟩
   ·rcases List.mem_cons.mp hq with rfl | hq
    ·exact ⟨g1, g2, g3⟩
    ·exact e1 q hq
   ·rcases List.mem_cons.mp hq with rfl | hq
    ·exact h3
    ·exact List.lt_trans h3 (e4 q hq)
theorem valid_rw {xs : List PV} (h : vNT xs = xs.length) : ∃ rs, xs = rs.map rowP ∧ Rw rs := by
 obtain ⟨rs, e, h1, h2, h3, _⟩ := valid_all xs 0 _ (by decide) (by rw [Nat.zero_add]; exact h)
 exact ⟨rs, e, ⟨by omega, fun r hr => h1 r hr, h2⟩⟩
section
variable {K : PySem.W.Frag} {C : Addr} {XC : Str → Addr} {args : List PV} {P : PV → Prop} {PF : List PV → Prop} {PR : PV → Ow → Prop} {o : Ow} {Zw : WC}
theorem rd_is_tripE (h : sp_is_tripE K C args P) : ts_is_tripE K C { nx := fun _ => P .non, rt := fun x _ => P x } (startP 4 args) := by
 obtain ⟨x, rfl, ⟨hk, h3⟩, hp⟩ := h
 have e : startP 4 [x] = [.va x, .no, .no, .no] := rfl
 rw [e]
 refine w_seq (w_if (w_or (w_not (w_bl (w_cb (w_cons (w_var (x := x) rfl (w_cons (w_con (w_nil (isi_tuple hk ?_)))))))))))
 cases x with
 | tup xs =>
  refine q_iteF (w_bl (w_op (w_cb (w_cons (w_var (x := .tup xs) rfl (w_nil (q_lenT (w_con (q_neN ?_)))))))))
  by_cases c : (xs.length : Int) = 3
  ·rw [decide_eq_true c]
   refine q_iteF (w_next ?_)
   dsimp only
   match xs, c with
   | [n, s, e], _ =>
    obtain ⟨k1, k2, k3, hz⟩ := h3 n s e rfl
    have hp : P (.bl (isNm n && (isStn s && latB e s))) := hp
    refine w_seq (w_asg (w_var (x := .tup [n, s, e]) rfl ⟨rfl, w_g3 ?_⟩))
    simp only [List.set_cons_zero, List.set_cons_succ]
    refine w_ret (w_andV (w_call (w_cons (w_var (x := n) rfl (w_nil ⟨n, rfl, k1, hz, ?_⟩)))))
    cases hn : isNm n with
    | false => rw [hn] at hp; exact hp
    | true =>
     rw [hn, Bool.true_and] at hp
     refine w_andV (w_call (w_cons (w_var (x := s) rfl (w_nil ⟨s, rfl, k2, ?_⟩))))
     cases s with
     | int i =>
      cases hs : isStn (.int i) with
      | false => rw [hs] at hp; exact hp
      | true =>
       rw [hs, Bool.true_and] at hp
       exact w_call (w_cons (w_var (x := e) rfl (w_cons (w_var (x := .int i) rfl (w_nil ⟨e, i, rfl, k3, hp⟩)))))
     | _ => exact hp
   | [], c => simp at c
   | [_], c => simp at c
   | [_, _], c => simp at c
   | _ :: _ :: _ :: _ :: l, c => rw [List.length_cons, List.length_cons, List.length_cons, List.length_cons] at c; omega
  ·rw [decide_eq_false c]
   refine q_iteT (w_ret (w_con ?_))
   have z : isTripB (.tup xs) = false := by
    unfold isTripB
    split
    ·rename_i heq
     cases heq
     exact absurd rfl c
    ·rfl
   rw [z] at hp
   exact hp
 | _ => exact hp
theorem rd_valid_beginningE (h : sp_valid_beginningE K C args P) : ts_valid_beginningE K C { nx := fun _ => P .non, rt := fun x _ => P x } (startP 4 args) := by
 obtain ⟨xs, rfl, ⟨hk, hx⟩, hp⟩ := h
 obtain ⟨hl, hx⟩ := hx xs rfl
 have e : startP 4 [.tup xs] = [.va (.tup xs), .no, .no, .no] := rfl
 rw [e]
 refine w_seq (w_set (w_con ?_))
 simp only [List.set_cons_zero, List.set_cons_succ]
 refine w_seq (w_for (w_enumX (w_var (x := .tup xs) rfl ?_)))
 refine ⟨fun i η => ∃ b s t, η = [.va (.tup xs), .va (.str b), s, t] ∧ vGoT i b (xs.drop i) = vNT xs, ⟨_, _, _, rfl, rfl⟩, ?_, ?_⟩
 ·rintro i x η hi ⟨b, s, t, rfl, hv⟩
  obtain ⟨y, hy, rfl⟩ := enumP_get hi
  have hil : i < xs.length := (List.getElem?_eq_some_iff.mp hy).1
  have hd : xs.drop i = y :: xs.drop (i + 1) := by
   rw [List.drop_eq_getElem_cons hil]
   rw [List.getElem?_eq_getElem hil] at hy
   cases hy; rfl
  rw [hd] at hv
  unfold vGoT at hv
  have hky := hx y (List.mem_of_getElem? hy)
  refine ⟨rfl, rfl, ?_⟩
  simp only [List.set_cons_zero, List.set_cons_succ]
  refine w_seq (w_if (w_or (w_bl (w_op (w_var (x := .int (i : Int)) rfl (w_con (q_eqN ?_)))))))
  have out : vNT xs = i → P (.int (i : Int)) := fun z => by rw [z] at hp; exact hp
  by_cases c1 : (i : Int) = 24
  ·rw [decide_eq_true c1]
   rw [if_pos (.inl (by omega))] at hv
   exact q_iteT (w_ret (w_var (x := .int (i : Int)) rfl (out hv.symm)))
  rw [decide_eq_false c1]
  refine q_iteF (w_or (w_not (w_bl (w_call (w_cons (w_var (x := y) rfl (w_nil ⟨y, rfl, hky, ?_⟩)))))))
  cases ht : isTripB y with
  | false =>
   rw [if_pos (.inr (.inl ht))] at hv
   exact q_iteT (w_ret (w_var (x := .int (i : Int)) rfl (out hv.symm)))
  | true =>
   obtain ⟨r, rfl, g1, g2, g3⟩ := trip_ofX ht
   rw [nm_row] at hv
   refine q_iteF (w_bl (w_op (w_op (w_var (x := rowP r) rfl (w_con (q_ixT (x := .str r.1) rfl (w_var (x := .str b) rfl (q_leS ?_))))))))
   by_cases c : b.cps.toList < r.1.cps.toList
   ·rw [decide_eq_true c]
    rw [if_neg (by
     rintro (z | z | z)
     ·exact c1 (by omega)
     ·rw [ht] at z; cases z
     ·exact z c)] at hv
    refine q_iteF (w_next ?_)
    dsimp only
    refine w_set (w_op (w_var (x := rowP r) rfl (w_con (q_ixT (x := .str r.1) rfl ?_))))
    simp only [List.set_cons_zero, List.set_cons_succ]
    exact ⟨r.1, _, _, rfl, hv⟩
   ·rw [decide_eq_false c]
    rw [if_pos (.inr (.inr c))] at hv
    exact q_iteT (w_ret (w_var (x := .int (i : Int)) rfl (out hv.symm)))
 ·rintro η ⟨b, s, t, rfl, hv⟩
  dsimp only
  rw [enumX_len, List.drop_length] at hv
  refine w_ret (w_cb (w_cons (w_var (x := .tup xs) rfl (w_nil (q_lenT ?_)))))
  have hv : xs.length = vNT xs := hv
  rw [hv]; exact hp
theorem rd_check_seatsX (h : sp_check_seatsX K C XC args P Zw) : ts_check_seatsX K C XC { nx := fun _ => P .non, rt := fun x _ => P x } (fun C fs _ => Zw C fs) (startP 1 args) := by
 obtain ⟨x, rfl, hk, h1, h2⟩ := h
 have e : startP 1 [x] = [.va x] := rfl
 rw [e]
 refine w_ifX1 (w_or (w_not (w_bl (w_call (w_cons (w_var (x := x) rfl (w_nil ⟨x, rfl, hk, ?_⟩)))))))
 cases x with
 | int n =>
  refine q_iteF (w_not (w_bl (w_chain (w_con (w_var (x := .int n) rfl (q_le ⟨_, rfl, ?_⟩))))))
  by_cases c1 : 1 ≤ n
  ·rw [decide_eq_true c1]
   refine q_iteT (w_con (q_le ?_))
   by_cases c2 : n ≤ 20
   ·rw [decide_eq_true c2]
    exact q_iteF (w_plX1 (w_next (h1 (by show (decide (1 ≤ n) && decide (n ≤ 20)) = true; rw [decide_eq_true c1, decide_eq_true c2]; rfl))))
   ·rw [decide_eq_false c2]
    exact q_iteT (w_raiseX1 (w_var (x := .int n) rfl (h2 (by show (decide (1 ≤ n) && decide (n ≤ 20)) = false; rw [decide_eq_false c2, Bool.and_false]))))
  ·rw [decide_eq_false c1]
   exact q_iteF (q_iteT (w_raiseX1 (w_var (x := .int n) rfl (h2 (by show (decide (1 ≤ n) && decide (n ≤ 20)) = false; rw [decide_eq_false c1, Bool.false_and])))))
 | _ => exact h2 rfl
theorem rd_Line_initX (h : sp_Line_initX K C XC o args PR Zw) : ts_Line_initX K C XC { nx := fun η' => ∃ o', η'[0]? = some (Sl.ow o') ∧ PR .non o', rt := fun x η' => ∃ o', η'[0]? = some (Sl.ow o') ∧ PR x o' } (fun C fs _ => Zw C fs) (startR 4 o args) := by
 obtain ⟨x, y, rfl, rfl, hkx, hky, hok, hs, ht, hv⟩ := h
 have e : startR 4 (.o C []) [x, y] = [.ow (.o C []), .va x, .va y, .no] := rfl
 rw [e]
 have sz : 100 < sizeLine := by decide
 refine w_seqX1 (w_exX1 (w_callX1 (w_cons (w_var (x := x) rfl (w_nil ⟨x, rfl, hkx, fun h1 => ?_, fun h1 => hs h1⟩)))))
 dsimp only
 obtain ⟨n, rfl, n1, n2⟩ : ∃ n, x = .int n ∧ 1 ≤ n ∧ n ≤ 20 := by
  cases x with
  | int n =>
   have h1 : (decide (1 ≤ n) && decide (n ≤ 20)) = true := h1
   rw [Bool.and_eq_true, decide_eq_true_iff, decide_eq_true_iff] at h1
   exact ⟨n, rfl, h1.1, h1.2⟩
  | _ => cases h1
 refine w_seqX1 (w_ifX1 (w_not (w_bl (w_cb (w_cons (w_var (x := y) rfl (w_cons (w_con (w_nil (isi_tuple hky.1 ?_))))))))))
 cases hy : isTu y with
 | false => exact q_iteT (w_raiseX1 (w_con (ht h1 hy)))
 | true =>
  refine q_iteF (w_plX1 (w_next ?_))
  dsimp only
  obtain ⟨xs, rfl⟩ : ∃ xs, y = .tup xs := by
   cases y with
   | tup xs => exact ⟨xs, rfl⟩
   | _ => cases hy
  refine w_seqX1 (w_plX1 (w_set (w_call (w_cons (w_var (x := .tup xs) rfl (w_nil ⟨xs, rfl, hky, ?_⟩))))))
  simp only [List.set_cons_zero, List.set_cons_succ]
  refine w_seqX1 (w_ifX1 (w_bl (w_op (w_var (x := .int (vNT xs)) rfl (w_cb (w_cons (w_var (x := .tup xs) rfl (w_nil (q_lenT (q_lt ?_))))))))))
  by_cases c : ((vNT xs : Int) < (xs.length : Int))
  ·rw [decide_eq_true c]
   exact q_iteT (w_raiseX1 (w_var (x := .int (vNT xs)) rfl (hv xs h1 rfl (by omega))))
  rw [decide_eq_false c]
  refine q_iteF (w_plX1 (w_next ?_))
  dsimp only
  have hle := valid_le xs 0 ("" : Str)
  obtain ⟨rs, rfl, hw⟩ := valid_rw (xs := xs) (by unfold vNT at c ⊢; omega)
  have hl := hw.len
  refine w_plX1 ?_
  refine w_seq (w_fldS (w_var rfl ⟨rfl, by decide, ?_⟩))
  simp only [List.set_cons_zero, List.set_cons_succ, pf1]
  refine w_seq (w_fldS (w_var rfl ⟨rfl, by show 1 < 1000; decide, ?_⟩))
  simp only [List.set_cons_zero, List.set_cons_succ, pf2]
  refine w_fldS (w_cb (w_cons (w_sortL (w_var (x := .tup (rs.map rowP)) rfl ⟨?_, ?_, by rw [List.length_map]; omega, ?_⟩))))
  ·intro y hy
   obtain ⟨r, _, rfl⟩ := List.mem_map.mp hy
   exact ⟨_, .int r.2.1, .str r.1, rfl, rfl, rfl, rfl, rfl⟩
  ·intro d hd d' hd'
   rw [List.map_map] at hd hd'
   obtain ⟨a, _, rfl⟩ := List.mem_map.mp hd
   obtain ⟨b, _, rfl⟩ := List.mem_map.mp hd'
   show PySem.W.alike (.tuple [.int a.2.1, .str a.1]) (.tuple [.int b.2.1, .str b.1]) = true
   simp [PySem.W.alike, PySem.W.alikeAll]
  ·refine w_nil ⟨rfl, by show 2 < 1000; decide, ?_⟩
   simp only [List.set_cons_zero, List.set_cons_succ, pf3]
   exact ⟨_, rfl, hok n rs rfl rfl n1 n2 hw⟩
end
abbrev PrZ := PySem.W.Frag → Addr → (Str → Addr) → SpZ
def kindNames : List Str := [("InvalidSeats" : Str), ("InvalidTrips" : Str), ("InvalidName" : Str), ("InvalidSeat" : Str), ("InvalidStation" : Str), ("InvalidPlan" : Str), ("InvalidFixed" : Str), ("InvalidExchange" : Str), ("InvalidNumber" : Str), ("InvalidText" : Str), ("InvalidAction" : Str), ("InvalidCommand" : Str), ("NotALine" : Str), ("Overfull" : Str), ("Full" : Str), ("NameTaken" : Str), ("NotFree" : Str), ("Busy" : Str), ("NothingToUndo" : Str), ("TooManyTrips" : Str), ("TooManyPlans" : Str), ("TooManyEntries" : Str)]
def kindWords : List Str := [("seats" : Str), ("trips" : Str), ("name" : Str), ("seat" : Str), ("station" : Str), ("plan" : Str), ("fixed" : Str), ("exchange" : Str), ("number" : Str), ("text" : Str), ("action" : Str), ("command" : Str), ("notline" : Str), ("overfull" : Str), ("full" : Str), ("taken" : Str), ("notfree" : Str), ("busy" : Str), ("undo" : Str), ("toomanytrips" : Str), ("plans" : Str), ("entries" : Str)]
def kindW (n : Nat) : Str := kindWords.getD n ("" : Str)
def kindFields : List (Option Str) := [some ("value" : Str), some ("index" : Str), some ("name" : Str), some ("seat" : Str), some ("station" : Str), some ("index" : Str), some ("index" : Str), some ("index" : Str), some ("number" : Str), some ("text" : Str), some ("index" : Str), some ("command" : Str), some ("value" : Str), some ("station" : Str), some ("station" : Str), some ("name" : Str), some ("name" : Str), none, none, some ("found" : Str), some ("found" : Str), some ("found" : Str)]
structure KindF (K : PySem.W.Frag) (XC : Str → Addr) (C : Addr) (n : Nat) : Prop where
 e : L2.ExcC K C
 lt : n < 22
 k : ∀ (j : Nat) (s : Str), kindNames[j]? = some s → PySem.W.kitOne K (.ref C) (.ref (XC s)) = some (decide (j = n))
 b1 : PySem.W.kitOne K (.ref C) (.ref (XC ("SeatError" : Str))) = some (decide (n < 13))
 b2 : PySem.W.kitOne K (.ref C) (.ref (XC ("StateError" : Str))) = some (decide (12 < n) && decide (n < 19))
 b3 : PySem.W.kitOne K (.ref C) (.ref (XC ("SizeError" : Str))) = some (decide (18 < n))
 o1 : PySem.W.kitOne K (.ref C) (.type "ValueError") = some (decide (n < 13))
 o2 : PySem.W.kitOne K (.ref C) (.type "LookupError") = some (decide (12 < n) && decide (n < 19))
 o3 : PySem.W.kitOne K (.ref C) (.type "ArithmeticError") = some (decide (18 < n))
def FldF (K : PySem.W.Frag) (C : Addr) (n : Nat) (d : Option Addr) (fs : List (Str × PV)) (ys : List PV) : Prop :=
 (∃ f y, kindFields[n]? = some (some f) ∧ fs = [(f, y)] ∧ ys = [y] ∧ XfN K C f ∧ d.isSome = true) ∨ (kindFields[n]? = some none ∧ fs = [] ∧ ys = [])
def sp_law_kind : PrZ := fun K _ XC a cls d args P => ∃ C fs n, cls = .ref C ∧ args = [.exn a d fs] ∧ KindF K XC C n ∧ P (.str (kindW n))
def sp_law_other_fields : PrZ := fun K _ XC a cls d args P => ∃ C fs n ys, cls = .ref C ∧ args = [.exn a d fs] ∧ KindF K XC C n ∧ FldF K C n d fs ys ∧ n ∈ [3, 8, 9, 11, 17, 18] ∧ P (.lst ys)
def sp_law_fields : PrZ := fun K _ XC a cls d args P => ∃ C fs n ys, cls = .ref C ∧ args = [.exn a d fs] ∧ KindF K XC C n ∧ FldF K C n d fs ys ∧ P (.lst ys)
def ts_law_kind (K : PySem.W.Frag) (CLine : Addr) (XC : Str → Addr) : Addr → Value → Option Addr → TSp := fun a1 cls1 d1 => tSeqP (tSetP 1 (tLstP (tConsP (tCBP (rIsX K a1 cls1 d1) (tConsP (tVarP 0) (tConsP (tConP (.raw (.ref (XC ("InvalidSeats" : Str))))) (tNilP)))) (tConsP (tCBP (rIsX K a1 cls1 d1) (tConsP (tVarP 0) (tConsP (tConP (.raw (.ref (XC ("InvalidTrips" : Str))))) (tNilP)))) (tConsP (tCBP (rIsX K a1 cls1 d1) (tConsP (tVarP 0) (tConsP (tConP (.raw (.ref (XC ("InvalidName" : Str))))) (tNilP)))) (tNilP)))))) (tSeqP (tSetP 1 (tOpP rAdd (tVarP 1) (tLstP (tConsP (tCBP (rIsX K a1 cls1 d1) (tConsP (tVarP 0) (tConsP (tConP (.raw (.ref (XC ("InvalidSeat" : Str))))) (tNilP)))) (tConsP (tCBP (rIsX K a1 cls1 d1) (tConsP (tVarP 0) (tConsP (tConP (.raw (.ref (XC ("InvalidStation" : Str))))) (tNilP)))) (tConsP (tCBP (rIsX K a1 cls1 d1) (tConsP (tVarP 0) (tConsP (tConP (.raw (.ref (XC ("InvalidPlan" : Str))))) (tNilP)))) (tNilP))))))) (tSeqP (tSetP 1 (tOpP rAdd (tVarP 1) (tLstP (tConsP (tCBP (rIsX K a1 cls1 d1) (tConsP (tVarP 0) (tConsP (tConP (.raw (.ref (XC ("InvalidFixed" : Str))))) (tNilP)))) (tConsP (tCBP (rIsX K a1 cls1 d1) (tConsP (tVarP 0) (tConsP (tConP (.raw (.ref (XC ("InvalidExchange" : Str))))) (tNilP)))) (tConsP (tCBP (rIsX K a1 cls1 d1) (tConsP (tVarP 0) (tConsP (tConP (.raw (.ref (XC ("InvalidNumber" : Str))))) (tNilP)))) (tNilP))))))) (tSeqP (tSetP 1 (tOpP rAdd (tVarP 1) (tLstP (tConsP (tCBP (rIsX K a1 cls1 d1) (tConsP (tVarP 0) (tConsP (tConP (.raw (.ref (XC ("InvalidText" : Str))))) (tNilP)))) (tConsP (tCBP (rIsX K a1 cls1 d1) (tConsP (tVarP 0) (tConsP (tConP (.raw (.ref (XC ("InvalidAction" : Str))))) (tNilP)))) (tConsP (tCBP (rIsX K a1 cls1 d1) (tConsP (tVarP 0) (tConsP (tConP (.raw (.ref (XC ("InvalidCommand" : Str))))) (tNilP)))) (tNilP))))))) (tSeqP (tSetP 1 (tOpP rAdd (tVarP 1) (tLstP (tConsP (tCBP (rIsX K a1 cls1 d1) (tConsP (tVarP 0) (tConsP (tConP (.raw (.ref (XC ("NotALine" : Str))))) (tNilP)))) (tConsP (tCBP (rIsX K a1 cls1 d1) (tConsP (tVarP 0) (tConsP (tConP (.raw (.ref (XC ("Overfull" : Str))))) (tNilP)))) (tConsP (tCBP (rIsX K a1 cls1 d1) (tConsP (tVarP 0) (tConsP (tConP (.raw (.ref (XC ("Full" : Str))))) (tNilP)))) (tNilP))))))) (tSeqP (tSetP 1 (tOpP rAdd (tVarP 1) (tLstP (tConsP (tCBP (rIsX K a1 cls1 d1) (tConsP (tVarP 0) (tConsP (tConP (.raw (.ref (XC ("NameTaken" : Str))))) (tNilP)))) (tConsP (tCBP (rIsX K a1 cls1 d1) (tConsP (tVarP 0) (tConsP (tConP (.raw (.ref (XC ("NotFree" : Str))))) (tNilP)))) (tConsP (tCBP (rIsX K a1 cls1 d1) (tConsP (tVarP 0) (tConsP (tConP (.raw (.ref (XC ("Busy" : Str))))) (tNilP)))) (tNilP))))))) (tSeqP (tSetP 1 (tOpP rAdd (tVarP 1) (tLstP (tConsP (tCBP (rIsX K a1 cls1 d1) (tConsP (tVarP 0) (tConsP (tConP (.raw (.ref (XC ("NothingToUndo" : Str))))) (tNilP)))) (tConsP (tCBP (rIsX K a1 cls1 d1) (tConsP (tVarP 0) (tConsP (tConP (.raw (.ref (XC ("TooManyTrips" : Str))))) (tNilP)))) (tConsP (tCBP (rIsX K a1 cls1 d1) (tConsP (tVarP 0) (tConsP (tConP (.raw (.ref (XC ("TooManyPlans" : Str))))) (tNilP)))) (tNilP))))))) (tSeqP (tSetP 1 (tOpP rAdd (tVarP 1) (tLstP (tConsP (tCBP (rIsX K a1 cls1 d1) (tConsP (tVarP 0) (tConsP (tConP (.raw (.ref (XC ("TooManyEntries" : Str))))) (tNilP)))) (tNilP))))) (tSeqP (tSetP 2 (tLstP (tConsP (tCBP (rIsX K a1 cls1 d1) (tConsP (tVarP 0) (tConsP (tConP (.raw (.ref (XC ("SeatError" : Str))))) (tNilP)))) (tConsP (tCBP (rIsX K a1 cls1 d1) (tConsP (tVarP 0) (tConsP (tConP (.raw (.ref (XC ("StateError" : Str))))) (tNilP)))) (tConsP (tCBP (rIsX K a1 cls1 d1) (tConsP (tVarP 0) (tConsP (tConP (.raw (.ref (XC ("SizeError" : Str))))) (tNilP)))) (tNilP)))))) (tSeqP (tSetP 3 (tLstP (tConsP (tCBP (rIsX K a1 cls1 d1) (tConsP (tVarP 0) (tConsP (tConP (.raw (.ty "ValueError"))) (tNilP)))) (tConsP (tCBP (rIsX K a1 cls1 d1) (tConsP (tVarP 0) (tConsP (tConP (.raw (.ty "LookupError"))) (tNilP)))) (tConsP (tCBP (rIsX K a1 cls1 d1) (tConsP (tVarP 0) (tConsP (tConP (.raw (.ty "ArithmeticError"))) (tNilP)))) (tNilP)))))) (tSeqP (tIfSP (tBlP (tOpP (rEqP true) (tCntBP (tVarP 1) (tConP (.bl true))) (tConP (.int 1)))) (tRetP (tConP (.str ("other" : Str)))) (tNextP)) (tSeqP (tSetP 4 (tIdxDP (tVarP 1) (tConP (.bl true)))) (tSeqP (tIfSP (tOrP (tBlP (tOpP (rEqP true) (tVarP 2) (tLstP (tConsP (tOpP rLt (tVarP 4) (tConP (.int 13))) (tConsP (tChainP rLt rLt (tConP (.int 12)) (tVarP 4) (tConP (.int 19))) (tConsP (tOpP rGt (tVarP 4) (tConP (.int 18))) (tNilP))))))) (tBlP (tOpP (rEqP true) (tVarP 3) (tVarP 2)))) (tRetP (tConP (.str ("other" : Str)))) (tNextP)) (tSeqP (tSetP 5 (tConP (.str ("seats trips name seat station plan fixed exchange number text action command notline overfull" : Str)))) (tSeqP (tSetP 5 (tOpP rAdd (tVarP 5) (tConP (.str (" full taken notfree busy undo toomanytrips plans entries" : Str))))) (tRetP (tOpP rIxP (tSplitP (tVarP 5) (tConP (.str (" " : Str)))) (tVarP 4)))))))))))))))))
def ts_law_other_fields (K : PySem.W.Frag) (CLine : Addr) (XC : Str → Addr) : Addr → Value → Option Addr → TSp := fun a1 cls1 d1 => tSeqP (tIfSP (tBlP (tCBP (rIsX K a1 cls1 d1) (tConsP (tVarP 0) (tConsP (tConP (.raw (.ref (XC ("InvalidSeat" : Str))))) (tNilP))))) (tRetP (tLstP (tConsP (tXfP K a1 cls1 d1 ("seat" : Str) (tVarP 0)) (tNilP)))) (tNextP)) (tSeqP (tIfSP (tBlP (tCBP (rIsX K a1 cls1 d1) (tConsP (tVarP 0) (tConsP (tConP (.raw (.ref (XC ("InvalidNumber" : Str))))) (tNilP))))) (tRetP (tLstP (tConsP (tXfP K a1 cls1 d1 ("number" : Str) (tVarP 0)) (tNilP)))) (tNextP)) (tSeqP (tIfSP (tBlP (tCBP (rIsX K a1 cls1 d1) (tConsP (tVarP 0) (tConsP (tConP (.raw (.ref (XC ("InvalidText" : Str))))) (tNilP))))) (tRetP (tLstP (tConsP (tXfP K a1 cls1 d1 ("text" : Str) (tVarP 0)) (tNilP)))) (tNextP)) (tRetP (tIfP (tBlP (tCBP (rIsX K a1 cls1 d1) (tConsP (tVarP 0) (tConsP (tConP (.raw (.ref (XC ("InvalidCommand" : Str))))) (tNilP))))) (tLstP (tConsP (tXfP K a1 cls1 d1 ("command" : Str) (tVarP 0)) (tNilP))) (tLstP (tNilP))))))
def ts_law_fields (K : PySem.W.Frag) (CLine : Addr) (XC : Str → Addr) : Addr → Value → Option Addr → TSp := fun a1 cls1 d1 => tSeqP (tIfSP (tBlP (tCBP (rIsXT K a1 cls1 d1) (tConsP (tVarP 0) (tConsP (tTupP (tConsP (tConP (.raw (.ref (XC ("InvalidTrips" : Str))))) (tConsP (tConP (.raw (.ref (XC ("InvalidPlan" : Str))))) (tConsP (tConP (.raw (.ref (XC ("InvalidFixed" : Str))))) (tConsP (tConP (.raw (.ref (XC ("InvalidExchange" : Str))))) (tConsP (tConP (.raw (.ref (XC ("InvalidAction" : Str))))) (tNilP))))))) (tNilP))))) (tRetP (tLstP (tConsP (tXfP K a1 cls1 d1 ("index" : Str) (tVarP 0)) (tNilP)))) (tNextP)) (tSeqP (tIfSP (tBlP (tCBP (rIsXT K a1 cls1 d1) (tConsP (tVarP 0) (tConsP (tTupP (tConsP (tConP (.raw (.ref (XC ("TooManyTrips" : Str))))) (tConsP (tConP (.raw (.ref (XC ("TooManyPlans" : Str))))) (tConsP (tConP (.raw (.ref (XC ("TooManyEntries" : Str))))) (tNilP))))) (tNilP))))) (tRetP (tLstP (tConsP (tXfP K a1 cls1 d1 ("found" : Str) (tVarP 0)) (tNilP)))) (tNextP)) (tSeqP (tIfSP (tBlP (tCBP (rIsXT K a1 cls1 d1) (tConsP (tVarP 0) (tConsP (tTupP (tConsP (tConP (.raw (.ref (XC ("InvalidName" : Str))))) (tConsP (tConP (.raw (.ref (XC ("NameTaken" : Str))))) (tConsP (tConP (.raw (.ref (XC ("NotFree" : Str))))) (tNilP))))) (tNilP))))) (tRetP (tLstP (tConsP (tXfP K a1 cls1 d1 ("name" : Str) (tVarP 0)) (tNilP)))) (tNextP)) (tSeqP (tIfSP (tBlP (tCBP (rIsXT K a1 cls1 d1) (tConsP (tVarP 0) (tConsP (tTupP (tConsP (tConP (.raw (.ref (XC ("InvalidStation" : Str))))) (tConsP (tConP (.raw (.ref (XC ("Overfull" : Str))))) (tConsP (tConP (.raw (.ref (XC ("Full" : Str))))) (tNilP))))) (tNilP))))) (tRetP (tLstP (tConsP (tXfP K a1 cls1 d1 ("station" : Str) (tVarP 0)) (tNilP)))) (tNextP)) (tSeqP (tIfSP (tBlP (tCBP (rIsXT K a1 cls1 d1) (tConsP (tVarP 0) (tConsP (tTupP (tConsP (tConP (.raw (.ref (XC ("InvalidSeats" : Str))))) (tConsP (tConP (.raw (.ref (XC ("NotALine" : Str))))) (tNilP)))) (tNilP))))) (tRetP (tLstP (tConsP (tXfP K a1 cls1 d1 ("value" : Str) (tVarP 0)) (tNilP)))) (tNextP)) (tRetP (tCallP (sp_law_other_fields K CLine XC a1 cls1 d1) [] (tConsP (tVarP 0) (tNilP))))))))
def ts_law_caught (K : PySem.W.Frag) (CLine : Addr) (XC : Str → Addr) : Addr → Value → Option Addr → TSp := fun a1 cls1 d1 => tRetP (tOpP rAdd (tLstP (tConsP (tCallP (sp_law_kind K CLine XC a1 cls1 d1) [] (tConsP (tVarP 1) (tNilP))) (tNilP))) (tCallP (sp_law_fields K CLine XC a1 cls1 d1) [] (tConsP (tVarP 1) (tNilP))))
section
variable {K : PySem.W.Frag} {C : Addr} {XC : Str → Addr} {args : List PV} {P : PV → Prop} {a : Addr} {cls : Value} {d : Option Addr}
theorem len_law_kind (h : sp_law_kind K C XC a cls d args P) : args.length = 1 := by obtain ⟨_, _, _, _, rfl, _⟩ := h; rfl
theorem len_law_other_fields (h : sp_law_other_fields K C XC a cls d args P) : args.length = 1 := by obtain ⟨_, _, _, _, _, rfl, _⟩ := h; rfl
theorem len_law_fields (h : sp_law_fields K C XC a cls d args P) : args.length = 1 := by obtain ⟨_, _, _, _, _, rfl, _⟩ := h; rfl
end
theorem eqv_self {d : PyData} (h2 : SeqAt.shaped d = true) : PyData.eqv d d = true := by
 unfold SeqAt.shaped at h2
 rw [Bool.and_eq_true] at h2
 exact PySem.SeqAt.eqv_refl d h2.1
theorem q_neSame {x : PV} {d : PyData} {P : PV → Prop} (h1 : toD x = some d) (h2 : SeqAt.shaped d = true) (h : P (.bl false)) : rEqP true x x P := ⟨d, d, h1, h1, h2, h2, by rw [eqv_self h2]; exact h⟩
theorem toDs_bls : ∀ bs : List Bool, toDs (bs.map .bl) = some (bs.map .bool)
 | [] => rfl
 | b :: bs => by rw [List.map_cons, toDs, toDs_bls bs]; rfl
theorem toD_bls (bs : List Bool) : toD (.lst (bs.map .bl)) = some (.list (bs.map .bool)) := by rw [toD, toDs_bls]; rfl
theorem canLay_bls : ∀ bs : List Bool, PyData.canLayAll0 (bs.map .bool) = true
 | [] => rfl
 | b :: bs => by rw [List.map_cons, PyData.canLayAll0, canLay_bls bs]; rfl
theorem depth_bls : ∀ bs : List Bool, PyData.depthAll (bs.map .bool) ≤ 0
 | [] => Nat.le_refl _
 | b :: bs => by
  have := depth_bls bs
  rw [List.map_cons, PyData.depthAll]
  simp only [PyData.depth]
  omega
theorem shaped_bls (bs : List Bool) : SeqAt.shaped (.list (bs.map .bool)) = true := by
 unfold SeqAt.shaped
 have := depth_bls bs
 rw [PyData.canLay0, canLay_bls, Bool.true_and]
 refine decide_eq_true ?_
 rw [PyData.depth]
 omega
def kinds (n : Nat) : List Bool := (List.range 22).map fun j => decide (j = n)
theorem kinds_count : ∀ n, n < 22 → (kinds n).count true = 1 := by decide
theorem kinds_get {n : Nat} (h : n < 22) : ((kinds n).map PyData.bool)[n]? = some (.bool true) := by
 unfold kinds
 rw [List.getElem?_map, List.getElem?_map, List.getElem?_range h]
 simp
theorem kinds_no {n m : Nat} {z : PyData} (h : n < 22) (hm : m < n) (e : ((kinds n).map PyData.bool)[m]? = some z) : PyData.eqv z (.bool true) = false := by
 unfold kinds at e
 rw [List.getElem?_map, List.getElem?_map, List.getElem?_range (by omega)] at e
 have ne : decide (m = n) = false := decide_eq_false (by omega)
 simp only [Option.map_some, ne] at e
 cases e
 rfl
theorem split_kinds : Txt.split (("seats trips name seat station plan fixed exchange number text action command notline overfull" : Str) ++ (" full taken notfree busy undo toomanytrips plans entries" : Str)) (" " : Str) = kindWords := by decide +kernel
theorem w_splitX {to te : TEp} {η : EP'} {P : PV → EP' → Prop} (h : to η fun x η1 => (∃ z, x = .str z) ∧ te η1 fun y η2 => ∃ a b, x = .str a ∧ y = .str b ∧ (b.length == 0) = false ∧ a.length + 2 ≤ sizeLine ∧ P (.lst ((Txt.split a b).map .str)) η2) : tSplitP to te η P := h
theorem cut_mid {n : Nat} {x2 : Bool} (hx2 : (decide (12 < n) && decide (n < 19)) = x2) {η : EP'} {R : PV → EP' → Prop} (h : R (.bl x2) η) : if decide ((12 : Int) < (n : Int)) = true then tConP (.int 19) η fun w η3 => rLt (.int (n : Int)) w fun z' => R z' η3 else R (.bl false) η := by
 by_cases c : (12 : Int) < (n : Int)
 ·rw [decide_eq_true c, if_pos rfl]
  have e : decide ((n : Int) < 19) = x2 := by
   rw [← hx2, decide_eq_true (show 12 < n by omega), Bool.true_and]
   exact decide_eq_decide.mpr (by omega)
  refine w_con (q_lt ?_)
  rw [e]; exact h
 ·rw [decide_eq_false c, if_neg Bool.false_ne_true]
  have e : false = x2 := by
   rw [← hx2, decide_eq_false (show ¬ 12 < n by omega), Bool.false_and]
  rw [e]; exact h
section
variable {K : PySem.W.Frag} {C Ca : Addr} {XC : Str → Addr} {args : List PV} {P Q : PV → Prop} {a : Addr} {cls : Value} {d : Option Addr} {n : Nat} {fs : List (Str × PV)}
theorem q_kX (kf : KindF K XC Ca n) (j : Nat) (s : Str) (hj : kindNames[j]? = some s) (h : Q (.bl (decide (j = n)))) : rIsX K a (.ref Ca) d [.exn a d fs, .raw (.ref (XC s))] Q := ⟨fs, _, Ca, .ref (XC s), _, rfl, rfl, kf.e, rfl, kf.k j s hj, h⟩
theorem q_bX {cv : Value} {x : PV} {b : Bool} (kf : KindF K XC Ca n) (hc : clsVal x = some cv) (hk : PySem.W.kitOne K (.ref Ca) cv = some b) (h : Q (.bl b)) : rIsX K a (.ref Ca) d [.exn a d fs, x] Q := ⟨fs, _, Ca, cv, b, rfl, rfl, kf.e, hc, hk, h⟩
theorem kf_any (kf : KindF K XC Ca n) : ∀ js : List Nat, (∀ j ∈ js, j < 22) → PySem.W.kitAny K (.ref Ca) (js.map fun j => .ref (XC (kindNames.getD j ("" : Str)))) = some (decide (n ∈ js))
 | [], _ => rfl
 | j :: js, h => by
  have hj : kindNames[j]? = some (kindNames.getD j ("" : Str)) := by
   have : j < kindNames.length := h j List.mem_cons_self
   rw [List.getD_eq_getElem?_getD, List.getElem?_eq_getElem this]; rfl
  rw [List.map_cons]
  unfold PySem.W.kitAny
  rw [kf.k j _ hj]
  by_cases c : j = n
  ·rw [decide_eq_true c]
   exact congrArg some (decide_eq_true (by rw [c]; exact List.mem_cons_self)).symm
  ·rw [decide_eq_false c]
   dsimp only
   rw [kf_any kf js fun q hq => h q (List.mem_cons_of_mem _ hq)]
   congr 1
   refine decide_eq_decide.mpr ?_
   rw [List.mem_cons]
   exact ⟨.inr, fun z => z.resolve_left fun y => c y.symm⟩
theorem q_aX (kf : KindF K XC Ca n) (js : List Nat) (hj : ∀ j ∈ js, j < 22) {cs : List PV} (hc : cs = js.map fun j => .raw (.ref (XC (kindNames.getD j ("" : Str))))) (h : Q (.bl (decide (n ∈ js)))) : rIsXT K a (.ref Ca) d [.exn a d fs, .tup cs] Q := by
 refine ⟨fs, cs, Ca, js.map fun j => .ref (XC (kindNames.getD j ("" : Str))), _, rfl, rfl, kf.e, ?_, kf_any kf js hj, h⟩
 rw [hc, List.map_map, List.map_map]
 rfl
theorem rd_law_kind (h : sp_law_kind K C XC a cls d args P) : ts_law_kind K C XC a cls d { nx := fun _ => P .non, rt := fun x _ => P x } (startP 6 args) := by
 obtain ⟨Ca, fs, n, rfl, rfl, kf, hp⟩ := h
 have e : startP 6 [.exn a d fs] = [.va (.exn a d fs), .no, .no, .no, .no, .no] := rfl
 rw [e]
 have sz : 1000 < sizeLine := by decide
 have lt := kf.lt
 refine w_seq (w_set (w_lst (w_cons (w_cb (w_cons (w_var (x := .exn a d fs) rfl (w_cons (w_con (w_nil (q_kX kf 0 _ rfl ?_))))))))))
 refine w_cons (w_cb (w_cons (w_var (x := .exn a d fs) rfl (w_cons (w_con (w_nil (q_kX kf 1 _ rfl ?_)))))))
 refine w_cons (w_cb (w_cons (w_var (x := .exn a d fs) rfl (w_cons (w_con (w_nil (q_kX kf 2 _ rfl ?_)))))))
 refine w_nil ⟨by show 3 ≤ sizeLine; omega, ?_⟩
 simp only [List.set_cons_zero, List.set_cons_succ]
 refine w_seq (w_set (w_op (w_var rfl (w_lst (w_cons (w_cb (w_cons (w_var (x := .exn a d fs) rfl (w_cons (w_con (w_nil (q_kX kf 3 _ rfl ?_))))))))))))
 refine w_cons (w_cb (w_cons (w_var (x := .exn a d fs) rfl (w_cons (w_con (w_nil (q_kX kf 4 _ rfl ?_)))))))
 refine w_cons (w_cb (w_cons (w_var (x := .exn a d fs) rfl (w_cons (w_con (w_nil (q_kX kf 5 _ rfl ?_)))))))
 refine w_nil ⟨by show 3 ≤ sizeLine; omega, q_addLL (by show 3 + 3 ≤ sizeLine; omega) ?_⟩
 simp only [List.set_cons_zero, List.set_cons_succ]
 refine w_seq (w_set (w_op (w_var rfl (w_lst (w_cons (w_cb (w_cons (w_var (x := .exn a d fs) rfl (w_cons (w_con (w_nil (q_kX kf 6 _ rfl ?_))))))))))))
 refine w_cons (w_cb (w_cons (w_var (x := .exn a d fs) rfl (w_cons (w_con (w_nil (q_kX kf 7 _ rfl ?_)))))))
 refine w_cons (w_cb (w_cons (w_var (x := .exn a d fs) rfl (w_cons (w_con (w_nil (q_kX kf 8 _ rfl ?_)))))))
 refine w_nil ⟨by show 3 ≤ sizeLine; omega, q_addLL (by show 6 + 3 ≤ sizeLine; omega) ?_⟩
 simp only [List.set_cons_zero, List.set_cons_succ]
 refine w_seq (w_set (w_op (w_var rfl (w_lst (w_cons (w_cb (w_cons (w_var (x := .exn a d fs) rfl (w_cons (w_con (w_nil (q_kX kf 9 _ rfl ?_))))))))))))
 refine w_cons (w_cb (w_cons (w_var (x := .exn a d fs) rfl (w_cons (w_con (w_nil (q_kX kf 10 _ rfl ?_)))))))
 refine w_cons (w_cb (w_cons (w_var (x := .exn a d fs) rfl (w_cons (w_con (w_nil (q_kX kf 11 _ rfl ?_)))))))
 refine w_nil ⟨by show 3 ≤ sizeLine; omega, q_addLL (by show 9 + 3 ≤ sizeLine; omega) ?_⟩
 simp only [List.set_cons_zero, List.set_cons_succ]
 refine w_seq (w_set (w_op (w_var rfl (w_lst (w_cons (w_cb (w_cons (w_var (x := .exn a d fs) rfl (w_cons (w_con (w_nil (q_kX kf 12 _ rfl ?_))))))))))))
 refine w_cons (w_cb (w_cons (w_var (x := .exn a d fs) rfl (w_cons (w_con (w_nil (q_kX kf 13 _ rfl ?_)))))))
 refine w_cons (w_cb (w_cons (w_var (x := .exn a d fs) rfl (w_cons (w_con (w_nil (q_kX kf 14 _ rfl ?_)))))))
 refine w_nil ⟨by show 3 ≤ sizeLine; omega, q_addLL (by show 12 + 3 ≤ sizeLine; omega) ?_⟩
 simp only [List.set_cons_zero, List.set_cons_succ]
 refine w_seq (w_set (w_op (w_var rfl (w_lst (w_cons (w_cb (w_cons (w_var (x := .exn a d fs) rfl (w_cons (w_con (w_nil (q_kX kf 15 _ rfl ?_))))))))))))
 refine w_cons (w_cb (w_cons (w_var (x := .exn a d fs) rfl (w_cons (w_con (w_nil (q_kX kf 16 _ rfl ?_)))))))
 refine w_cons (w_cb (w_cons (w_var (x := .exn a d fs) rfl (w_cons (w_con (w_nil (q_kX kf 17 _ rfl ?_)))))))
 refine w_nil ⟨by show 3 ≤ sizeLine; omega, q_addLL (by show 15 + 3 ≤ sizeLine; omega) ?_⟩
 simp only [List.set_cons_zero, List.set_cons_succ]
 refine w_seq (w_set (w_op (w_var rfl (w_lst (w_cons (w_cb (w_cons (w_var (x := .exn a d fs) rfl (w_cons (w_con (w_nil (q_kX kf 18 _ rfl ?_))))))))))))
 refine w_cons (w_cb (w_cons (w_var (x := .exn a d fs) rfl (w_cons (w_con (w_nil (q_kX kf 19 _ rfl ?_)))))))
 refine w_cons (w_cb (w_cons (w_var (x := .exn a d fs) rfl (w_cons (w_con (w_nil (q_kX kf 20 _ rfl ?_)))))))
 refine w_nil ⟨by show 3 ≤ sizeLine; omega, q_addLL (by show 18 + 3 ≤ sizeLine; omega) ?_⟩
 simp only [List.set_cons_zero, List.set_cons_succ]
 refine w_seq (w_set (w_op (w_var rfl (w_lst (w_cons (w_cb (w_cons (w_var (x := .exn a d fs) rfl (w_cons (w_con (w_nil (q_kX kf 21 _ rfl ?_))))))))))))
 refine w_nil ⟨by show 1 ≤ sizeLine; omega, q_addLL (by show 21 + 1 ≤ sizeLine; omega) ?_⟩
 simp only [List.set_cons_zero, List.set_cons_succ]
 change tSeqP _ _ _ [.va (.exn a d fs), .va (.lst ((kinds n).map .bl)), .no, .no, .no, .no]
 refine w_seq (w_set (w_lst (w_cons (w_cb (w_cons (w_var (x := .exn a d fs) rfl (w_cons (w_con (w_nil (q_bX kf rfl kf.b1 ?_))))))))))
 refine w_cons (w_cb (w_cons (w_var (x := .exn a d fs) rfl (w_cons (w_con (w_nil (q_bX kf rfl kf.b2 ?_)))))))
 refine w_cons (w_cb (w_cons (w_var (x := .exn a d fs) rfl (w_cons (w_con (w_nil (q_bX kf rfl kf.b3 (w_nil ⟨by show 3 ≤ sizeLine; omega, ?_⟩))))))))
 simp only [List.set_cons_zero, List.set_cons_succ]
 refine w_seq (w_set (w_lst (w_cons (w_cb (w_cons (w_var (x := .exn a d fs) rfl (w_cons (w_con (w_nil (q_bX kf rfl kf.o1 ?_))))))))))
 refine w_cons (w_cb (w_cons (w_var (x := .exn a d fs) rfl (w_cons (w_con (w_nil (q_bX kf rfl kf.o2 ?_)))))))
 refine w_cons (w_cb (w_cons (w_var (x := .exn a d fs) rfl (w_cons (w_con (w_nil (q_bX kf rfl kf.o3 (w_nil ⟨by show 3 ≤ sizeLine; omega, ?_⟩))))))))
 simp only [List.set_cons_zero, List.set_cons_succ]
 obtain ⟨x1, hx1⟩ : ∃ b, decide (n < 13) = b := ⟨_, rfl⟩
 obtain ⟨x2, hx2⟩ : ∃ b, (decide (12 < n) && decide (n < 19)) = b := ⟨_, rfl⟩
 obtain ⟨x3, hx3⟩ : ∃ b, decide (18 < n) = b := ⟨_, rfl⟩
 rw [hx1, hx2, hx3]
 refine w_seq (w_if (w_bl (w_op (w_cntB (w_var (x := .lst ((kinds n).map .bl)) rfl ⟨⟨_, rfl⟩, w_con ⟨kinds n, true, rfl, rfl, w_con ?_⟩⟩)))))
 rw [kinds_count n lt]
 refine show rEqP true (.int 1) (.int 1) _ from q_neSame (d := .int 1) rfl rfl (q_iteF (w_next ?_))
 dsimp only
 refine w_seq (w_set (show tIdxDP _ _ _ _ from w_var (x := .lst ((kinds n).map .bl)) rfl ⟨⟨_, rfl⟩, w_con ⟨.bool true, (kinds n).map .bool, n, .bool true, toD_bls _, rfl, shaped_bls _, rfl, kinds_get lt, rfl, fun m z hm e => kinds_no lt hm e, ?_⟩⟩))
 simp only [List.set_cons_zero, List.set_cons_succ]
 refine w_seq (w_if (w_or (w_bl (w_op (w_var (x := .lst ([x1, x2, x3].map .bl)) rfl (w_lst (w_cons (w_op (w_var (x := .int (n : Int)) rfl (w_con (q_lt ?_)))))))))))
 have g1 : decide ((n : Int) < 13) = x1 := by rw [← hx1]; exact decide_eq_decide.mpr (by omega)
 have g3 : decide ((18 : Int) < (n : Int)) = x3 := by rw [← hx3]; exact decide_eq_decide.mpr (by omega)
 rw [g1]
 have sh := shaped_bls [x1, x2, x3]
 have td := toD_bls [x1, x2, x3]
 have word : kindWords[n]? = some (kindW n) := by
  unfold kindW
  have : n < kindWords.length := lt
  rw [List.getD_eq_getElem?_getD, List.getElem?_eq_getElem this]; rfl
 refine w_cons (w_chain (w_con (w_var (x := .int (n : Int)) rfl (q_lt ⟨_, rfl, ?_⟩))))
 refine cut_mid hx2 ?_
 refine w_cons (w_op (w_var (x := .int (n : Int)) rfl (w_con (q_gt ?_))))
 rw [g3]
 refine w_nil ⟨by show 3 ≤ sizeLine; omega, ?_⟩
 refine q_neSame (x := .lst ([x1, x2, x3].map .bl)) td sh (q_iteF ?_)
 refine w_bl (w_op (w_var (x := .lst ([x1, x2, x3].map .bl)) rfl (w_var (x := .lst ([x1, x2, x3].map .bl)) rfl (q_neSame td sh (q_iteF (w_next ?_))))))
 dsimp only
 refine w_seq (w_set (w_con ?_))
 simp only [List.set_cons_zero, List.set_cons_succ]
 refine w_seq (w_set (w_op (w_var rfl (w_con (q_addS (by decide +kernel) ?_)))))
 simp only [List.set_cons_zero, List.set_cons_succ]
 refine w_ret (w_op (w_splitX (w_var rfl ⟨⟨_, rfl⟩, w_con ⟨_, _, rfl, rfl, by decide +kernel, by decide +kernel, w_var (x := .int (n : Int)) rfl ?_⟩⟩)))
 rw [split_kinds]
 refine q_ix (x := .str (kindW n)) ?_ hp
 have := at_map (f := PV.str) (xs := kindWords) (j := (n : Int)) ("" : Str) (by omega) (by show (n : Int) < 22; omega)
 rw [this, Int.toNat_natCast]; rfl
theorem fld_some {n : Nat} {f : Str} {fs : List (Str × PV)} {ys : List PV} (h : FldF K Ca n d fs ys) (hf : kindFields[n]? = some (some f)) : ∃ y, fs = [(f, y)] ∧ ys = [y] ∧ XfN K Ca f ∧ d.isSome = true := by
 rcases h with ⟨f', y, h1, h2, h3, h4, h5⟩ | ⟨h1, _⟩
 ·rw [hf] at h1
  cases h1
  exact ⟨y, h2, h3, h4, h5⟩
 ·rw [hf] at h1
  cases h1
theorem w_xfX {te : TEp} {η : EP'} {P : PV → EP' → Prop} {f : Str} (h : te η fun x η1 => ∃ fs C y, x = .exn a d fs ∧ cls = .ref C ∧ XfN K C f ∧ d.isSome ∧ fs.lookup f = some y ∧ P y η1) : tXfP K a cls d f te η P := h
theorem fld_one {n : Nat} {f : Str} {fs : List (Str × PV)} {ys : List PV} {R : PV → EP' → Prop} {η : EP'} (h : FldF K Ca n d fs ys) (hf : kindFields[n]? = some (some f)) (e : η[0]? = some (.va (.exn a d fs))) (hR : R (.lst ys) η) : tLstP (tConsP (tXfP K a (.ref Ca) d f (tVarP 0)) tNilP) η R := by
 obtain ⟨y, rfl, rfl, hx, hd⟩ := fld_some h hf
 refine w_lst (w_cons (w_xfX (w_var (x := .exn a d [(f, y)]) e ⟨_, Ca, y, rfl, rfl, hx, hd, by simp [List.lookup], w_nil ⟨by show 1 ≤ sizeLine; decide, hR⟩⟩)))
theorem rd_law_other_fields (h : sp_law_other_fields K C XC a cls d args P) : ts_law_other_fields K C XC a cls d { nx := fun _ => P .non, rt := fun x _ => P x } (startP 1 args) := by
 obtain ⟨Ca, fs, n, ys, rfl, rfl, kf, hf, hn, hp⟩ := h
 have e : startP 1 [.exn a d fs] = [.va (.exn a d fs)] := rfl
 rw [e]
 refine w_seq (w_if (w_bl (w_cb (w_cons (w_var (x := .exn a d fs) rfl (w_cons (w_con (w_nil (q_kX kf 3 _ rfl ?_)))))))))
 by_cases c : 3 = n
 ·rw [decide_eq_true c]
  subst c
  exact q_iteT (w_ret (fld_one hf rfl rfl hp))
 rw [decide_eq_false c]
 refine q_iteF (w_next ?_)
 dsimp only
 refine w_seq (w_if (w_bl (w_cb (w_cons (w_var (x := .exn a d fs) rfl (w_cons (w_con (w_nil (q_kX kf 8 _ rfl ?_)))))))))
 by_cases c8 : 8 = n
 ·rw [decide_eq_true c8]
  subst c8
  exact q_iteT (w_ret (fld_one hf rfl rfl hp))
 rw [decide_eq_false c8]
 refine q_iteF (w_next ?_)
 dsimp only
 refine w_seq (w_if (w_bl (w_cb (w_cons (w_var (x := .exn a d fs) rfl (w_cons (w_con (w_nil (q_kX kf 9 _ rfl ?_)))))))))
 by_cases c9 : 9 = n
 ·rw [decide_eq_true c9]
  subst c9
  exact q_iteT (w_ret (fld_one hf rfl rfl hp))
 rw [decide_eq_false c9]
 refine q_iteF (w_next ?_)
 dsimp only
 refine w_ret (w_ife (w_bl (w_cb (w_cons (w_var (x := .exn a d fs) rfl (w_cons (w_con (w_nil (q_kX kf 11 _ rfl ?_)))))))))
 by_cases c11 : 11 = n
 ·rw [decide_eq_true c11]
  subst c11
  exact q_iteT (fld_one hf rfl rfl hp)
 rw [decide_eq_false c11]
 refine q_iteF (w_lst (w_nil ⟨by show 0 ≤ sizeLine; omega, ?_⟩))
 have h0 : ys = [] := by
  simp only [List.mem_cons, List.not_mem_nil, or_false] at hn
  rcases hf with ⟨f, y, h1, _⟩ | ⟨_, _, h3⟩
  ·rcases hn with z | z | z | z | z | z
   ·exact absurd z.symm c
   ·exact absurd z.symm c8
   ·exact absurd z.symm c9
   ·exact absurd z.symm c11
   ·subst z; cases h1
   ·subst z; cases h1
  ·exact h3
 rw [h0] at hp
 exact hp
theorem rd_law_fields (h : sp_law_fields K C XC a cls d args P) : ts_law_fields K C XC a cls d { nx := fun _ => P .non, rt := fun x _ => P x } (startP 1 args) := by
 obtain ⟨Ca, fs, n, ys, rfl, rfl, kf, hf, hp⟩ := h
 have e : startP 1 [.exn a d fs] = [.va (.exn a d fs)] := rfl
 rw [e]
 have sz : 1000 < sizeLine := by decide
 refine w_seq (w_if (w_bl (w_cb (w_cons (w_var (x := .exn a d fs) rfl (w_cons (w_tup (w_cons (w_con (w_cons (w_con (w_cons (w_con (w_cons (w_con (w_cons (w_con (w_nil ⟨by show 5 ≤ sizeLine; omega, w_nil (q_aX kf [1, 5, 6, 7, 10] (by decide) rfl ?_)⟩))))))))))))))))))
 by_cases c0 : n ∈ [1, 5, 6, 7, 10]
 ·rw [decide_eq_true c0]
  have hk : kindFields[n]? = some (some ("index" : Str)) := by
   simp only [List.mem_cons, List.not_mem_nil, or_false] at c0
   rcases c0 with rfl | rfl | rfl | rfl | rfl <;> rfl
  exact q_iteT (w_ret (fld_one hf hk rfl hp))
 rw [decide_eq_false c0]
 refine q_iteF (w_next ?_)
 dsimp only
 refine w_seq (w_if (w_bl (w_cb (w_cons (w_var (x := .exn a d fs) rfl (w_cons (w_tup (w_cons (w_con (w_cons (w_con (w_cons (w_con (w_nil ⟨by show 3 ≤ sizeLine; omega, w_nil (q_aX kf [19, 20, 21] (by decide) rfl ?_)⟩))))))))))))))
 by_cases c1 : n ∈ [19, 20, 21]
 ·rw [decide_eq_true c1]
  have hk : kindFields[n]? = some (some ("found" : Str)) := by
   simp only [List.mem_cons, List.not_mem_nil, or_false] at c1
   rcases c1 with rfl | rfl | rfl <;> rfl
  exact q_iteT (w_ret (fld_one hf hk rfl hp))
 rw [decide_eq_false c1]
 refine q_iteF (w_next ?_)
 dsimp only
 refine w_seq (w_if (w_bl (w_cb (w_cons (w_var (x := .exn a d fs) rfl (w_cons (w_tup (w_cons (w_con (w_cons (w_con (w_cons (w_con (w_nil ⟨by show 3 ≤ sizeLine; omega, w_nil (q_aX kf [2, 15, 16] (by decide) rfl ?_)⟩))))))))))))))
 by_cases c2 : n ∈ [2, 15, 16]
 ·rw [decide_eq_true c2]
  have hk : kindFields[n]? = some (some ("name" : Str)) := by
   simp only [List.mem_cons, List.not_mem_nil, or_false] at c2
   rcases c2 with rfl | rfl | rfl <;> rfl
  exact q_iteT (w_ret (fld_one hf hk rfl hp))
 rw [decide_eq_false c2]
 refine q_iteF (w_next ?_)
 dsimp only
 refine w_seq (w_if (w_bl (w_cb (w_cons (w_var (x := .exn a d fs) rfl (w_cons (w_tup (w_cons (w_con (w_cons (w_con (w_cons (w_con (w_nil ⟨by show 3 ≤ sizeLine; omega, w_nil (q_aX kf [4, 13, 14] (by decide) rfl ?_)⟩))))))))))))))
 by_cases c3 : n ∈ [4, 13, 14]
 ·rw [decide_eq_true c3]
  have hk : kindFields[n]? = some (some ("station" : Str)) := by
   simp only [List.mem_cons, List.not_mem_nil, or_false] at c3
   rcases c3 with rfl | rfl | rfl <;> rfl
  exact q_iteT (w_ret (fld_one hf hk rfl hp))
 rw [decide_eq_false c3]
 refine q_iteF (w_next ?_)
 dsimp only
 refine w_seq (w_if (w_bl (w_cb (w_cons (w_var (x := .exn a d fs) rfl (w_cons (w_tup (w_cons (w_con (w_cons (w_con (w_nil ⟨by show 2 ≤ sizeLine; omega, w_nil (q_aX kf [0, 12] (by decide) rfl ?_)⟩))))))))))))
 by_cases c4 : n ∈ [0, 12]
 ·rw [decide_eq_true c4]
  have hk : kindFields[n]? = some (some ("value" : Str)) := by
   simp only [List.mem_cons, List.not_mem_nil, or_false] at c4
   rcases c4 with rfl | rfl <;> rfl
  exact q_iteT (w_ret (fld_one hf hk rfl hp))
 rw [decide_eq_false c4]
 refine q_iteF (w_next ?_)
 dsimp only
 refine w_ret (w_call (w_cons (w_var (x := .exn a d fs) rfl (w_nil ⟨Ca, fs, n, ys, rfl, rfl, kf, hf, ?_, hp⟩))))
 have := kf.lt
 simp only [List.mem_cons, List.not_mem_nil, or_false] at c0 c1 c2 c3 c4 ⊢
 omega
theorem caught_ok {K : PySem.W.Frag} {C Ca : Addr} {XC : Str → Addr} {n : Nat} {f e : Addr} {d : Option Addr} {fs : List (Str × PV)} {ys : List PV} {D : EndsP} (kf : KindF K XC Ca n) (hf : FldF K Ca n d fs ys) (hl : ys.length ≤ 1000) (h : ∀ η, D.rt (.lst (.str (kindW n) :: ys)) η) : ts_law_caught K C XC e (.ref Ca) d D (ηZ f e d fs) := by
 have sz : 2000 < sizeLine := by decide
 refine w_ret (w_op (w_lst (w_cons (w_call (w_cons (w_var (x := .exn e d fs) rfl (w_nil ⟨Ca, fs, n, rfl, rfl, kf, w_nil ⟨by show 1 ≤ sizeLine; omega, ?_⟩⟩)))))))
 refine w_call (w_cons (w_var (x := .exn e d fs) rfl (w_nil ⟨Ca, fs, n, ys, rfl, rfl, kf, hf, q_addLL (by show 1 + ys.length ≤ sizeLine; omega) ?_⟩)))
 exact h _
end
def kindB (K : PySem.W.Frag) (C : Addr) (cs : List Addr) (sS sT sZ : Addr) (n : Nat) : Bool :=
 decide (n < 22) && ((cs.zip (List.range 22)).all (fun p => decide (PySem.W.kitOne K (.ref C) (.ref p.1) = some (decide (p.2 = n)))) && (decide (PySem.W.kitOne K (.ref C) (.ref sS) = some (decide (n < 13))) && (decide (PySem.W.kitOne K (.ref C) (.ref sT) = some (decide (12 < n) && decide (n < 19))) && (decide (PySem.W.kitOne K (.ref C) (.ref sZ) = some (decide (18 < n))) &&
 (decide (PySem.W.kitOne K (.ref C) (.type "ValueError") = some (decide (n < 13))) && (decide (PySem.W.kitOne K (.ref C) (.type "LookupError") = some (decide (12 < n) && decide (n < 19))) && decide (PySem.W.kitOne K (.ref C) (.type "ArithmeticError") = some (decide (18 < n)))))))))
theorem kindF_of {K : PySem.W.Frag} {XC : Str → Addr} {C : Addr} {cs : List Addr} {sS sT sZ : Addr} {n : Nat} (h : kindB K C cs sS sT sZ n = true) (e : L2.ExcC K C) (hx : kindNames.map XC = cs) (h1 : XC ("SeatError" : Str) = sS) (h2 : XC ("StateError" : Str) = sT) (h3 : XC ("SizeError" : Str) = sZ) : KindF K XC C n := by
 unfold kindB at h
 simp only [Bool.and_eq_true, decide_eq_true_eq] at h
 obtain ⟨a1, a2, a3, a4, a5, a6, a7, a8⟩ := h
 subst hx h1 h2 h3
 refine ⟨e, a1, fun j s hj => ?_, a3, a4, a5, a6, a7, a8⟩
 have jl : j < 22 := (List.getElem?_eq_some_iff.mp hj).1
 have hm : (XC s, j) ∈ (kindNames.map XC).zip (List.range 22) := by
  refine List.mem_of_getElem? (i := j) ?_
  rw [List.getElem?_zip_eq_some]
  exact ⟨by rw [List.getElem?_map, hj]; rfl, by rw [List.getElem?_range jl]⟩
 have := List.all_eq_true.mp a2 _ hm
 exact of_decide_eq_true this
structure ShE (x : PV) (m k : Nat) : Prop where
 ex : ∃ d, toE x = some d ∧ d.showable = true ∧ d.leavesShort 61 = true ∧ d.bulk ≤ m ∧ d.depth ≤ k
structure ShEs (xs : List PV) (m k : Nat) : Prop where
 ex : ∃ ds, toEs xs = some ds ∧ PyData.showableAll ds = true ∧ PyData.leavesShortAll 61 ds = true ∧ PyData.bulkAll ds ≤ m ∧ PyData.depthAll ds ≤ k
theorem ShE.mono {x : PV} {m k m' k' : Nat} (h : ShE x m k) (hm : m ≤ m') (hk : k ≤ k') : ShE x m' k' := by
 obtain ⟨d, h1, h2, h3, h4, h5⟩ := h.ex
 exact ⟨d, h1, h2, h3, by omega, by omega⟩
theorem she_non : ShE .non 0 0 := ⟨.none, rfl, rfl, rfl, Nat.le_refl _, Nat.le_refl _⟩
theorem she_bl (b : Bool) : ShE (.bl b) 0 0 := ⟨.bool b, rfl, rfl, rfl, Nat.le_refl _, Nat.le_refl _⟩
theorem she_int {i : Int} (h0 : 0 ≤ i) (h : i < 10 ^ 60) : ShE (.int i) 0 0 :=
 ⟨.int i, rfl, by rw [PyData.showable]; exact decide_eq_true (log_of60 h0 h), leavesI h0 h, Nat.le_refl _, Nat.le_refl _⟩
theorem she_str {z : Str} {m : Nat} (h : ∀ c ∈ z.cps.toList, c < 16 ^ 8) (hl : z.length ≤ m) : ShE (.str z) m 0 :=
 ⟨.str z, rfl, rfl, by rw [PyData.leavesShort]; exact List.all_eq_true.mpr fun c hc => decide_eq_true (h c hc), by rw [PyData.bulk]; exact hl, Nat.le_refl _⟩
theorem shes_of {m k : Nat} : ∀ {xs : List PV} {l : Nat}, (∀ x ∈ xs, ShE x m k) → xs.length ≤ l → ShEs xs (l * (m + 1)) k
 | [], l, _, _ => ⟨[], rfl, rfl, rfl, by rw [PyData.bulkAll]; omega, by rw [PyData.depthAll]; omega⟩
 | x :: xs, l, h, hl => by
  obtain ⟨d, a1, a2, a3, a4, a5⟩ := (h x List.mem_cons_self).ex
  rw [List.length_cons] at hl
  obtain ⟨l', rfl⟩ : ∃ l', l = l' + 1 := ⟨l - 1, by omega⟩
  obtain ⟨ds, b1, b2, b3, b4, b5⟩ := (shes_of (l := l') (fun y hy => h y (List.mem_cons_of_mem _ hy)) (by omega)).ex
  refine ⟨d :: ds, by rw [toEs, a1, b1], by rw [PyData.showableAll, a2, b2]; rfl, by rw [PyData.leavesShortAll, a3, b3]; rfl, ?_, by rw [PyData.depthAll]; omega⟩
  rw [PyData.bulkAll]
  have : (l' + 1) * (m + 1) = l' * (m + 1) + (m + 1) := by rw [Nat.add_mul, Nat.one_mul]
  omega
theorem she_tup {xs : List PV} {m k l : Nat} (h : ∀ x ∈ xs, ShE x m k) (hl : xs.length ≤ l) : ShE (.tup xs) (l * (m + 1)) (k + 1) := by
 obtain ⟨ds, b1, b2, b3, b4, b5⟩ := (shes_of h hl).ex
 exact ⟨.tuple ds, by rw [toE, b1]; rfl, by rw [PyData.showable]; exact b2, by rw [PyData.leavesShort]; exact b3, by rw [PyData.bulk]; exact b4, by rw [PyData.depth]; omega⟩
theorem she_lst {xs : List PV} {m k l : Nat} (h : ∀ x ∈ xs, ShE x m k) (hl : xs.length ≤ l) : ShE (.lst xs) (l * (m + 1)) (k + 1) := by
 obtain ⟨ds, b1, b2, b3, b4, b5⟩ := (shes_of h hl).ex
 exact ⟨.list ds, by rw [toE, b1]; rfl, by rw [PyData.showable]; exact b2, by rw [PyData.leavesShort]; exact b3, by rw [PyData.bulk]; exact b4, by rw [PyData.depth]; omega⟩
theorem kv_show {m : Nat} : ∀ {kvs : List (Str × Int)} {l : Nat}, (∀ p ∈ kvs, (∀ c ∈ p.1.cps.toList, c < 16 ^ 8) ∧ p.1.length ≤ m ∧ 0 ≤ p.2 ∧ p.2 < 10 ^ 60) → kvs.length ≤ l →
  ∃ ds, toKv (kvs.map fun p => (Sum.inr p.1, PV.int p.2)) = some ds ∧ PyData.showableKv ds = true ∧ PyData.leavesShortKv 61 ds = true ∧ PyData.bulkKv ds ≤ l * (m + 2) ∧ PyData.depthKv ds ≤ 0
 | [], l, _, _ => ⟨[], rfl, rfl, rfl, by rw [PyData.bulkKv]; omega, by rw [PyData.depthKv]; omega⟩
 | p :: kvs, l, h, hl => by
  obtain ⟨a1, a2, a3, a4⟩ := h p List.mem_cons_self
  rw [List.length_cons] at hl
  obtain ⟨l', rfl⟩ : ∃ l', l = l' + 1 := ⟨l - 1, by omega⟩
  obtain ⟨ds, b1, b2, b3, b4, b5⟩ := kv_show (l := l') (fun y hy => h y (List.mem_cons_of_mem _ hy)) (by omega)
  have c1 : PyData.leavesShort 61 (.str p.1) = true := by rw [PyData.leavesShort]; exact List.all_eq_true.mpr fun c hc => decide_eq_true (a1 c hc)
  have c2 : PyData.showable (.int p.2) = true := by rw [PyData.showable]; exact decide_eq_true (log_of60 a3 a4)
  refine ⟨(.str p.1, .int p.2) :: ds, by rw [List.map_cons, toKv, b1]; rfl, by rw [PyData.showableKv, PyData.showable, c2, b2]; rfl, by rw [PyData.leavesShortKv, c1, leavesI a3 a4, b3]; rfl, ?_, by rw [PyData.depthKv, PyData.depth, PyData.depth]; omega⟩
  rw [PyData.bulkKv, PyData.bulk, PyData.bulk]
  have : (l' + 1) * (m + 2) = l' * (m + 2) + (m + 2) := by rw [Nat.add_mul, Nat.one_mul]
  have a2 : p.1.cps.size ≤ m := a2
  omega
theorem she_dic {kvs : List (Str × Int)} {m l : Nat} (h : ∀ p ∈ kvs, (∀ c ∈ p.1.cps.toList, c < 16 ^ 8) ∧ p.1.length ≤ m ∧ 0 ≤ p.2 ∧ p.2 < 10 ^ 60) (hl : kvs.length ≤ l) : ShE (.dic (kvs.map fun p => (Sum.inr p.1, PV.int p.2))) (l * (m + 2)) 1 := by
 obtain ⟨ds, b1, b2, b3, b4, b5⟩ := kv_show h hl
 exact ⟨.dict ds, by rw [toE, b1]; rfl, by rw [PyData.showable]; exact b2, by rw [PyData.leavesShort]; exact b3, by rw [PyData.bulk]; exact b4, by rw [PyData.depth]; omega⟩
theorem she_dic0 : ShE (.dic []) 0 1 := by
 obtain ⟨d, h⟩ := (she_dic (kvs := []) (m := 0) (l := 0) (fun _ z => (List.not_mem_nil z).elim) (Nat.le_refl _)).ex
 exact ⟨d, h⟩
theorem q_reprE {x : PV} {m k : Nat} {P : PV → Prop} (h : ShE x m k) (hm : 63 * m + 61 ≤ sizeLine) (hk : k ≤ 60) (hp : ∀ d, toE x = some d → P (.str d.shown)) : rReprE [x] P := by
 obtain ⟨d, h1, h2, h3, h4, h5⟩ := h.ex
 refine ⟨d, h1, h2, by omega, ?_, hp d h1⟩
 have := PyData.shown_le_bulk 61 (by decide) d h3
 have e : (61 + 2) * d.bulk ≤ 63 * m := Nat.mul_le_mul_left _ h4
 omega
structure GoodT (r : Trip) : Prop where
 nm : isNm (.str r.1) = true
 s0 : 0 ≤ r.2.1
 se : r.2.1 < r.2.2
 e4 : r.2.2 < 10 ^ 40
def odd05 : List PV := [.non, .int 0, .tup [], .tup [.str ("a" : Str), .int 0], .lst [.str ("a" : Str), .int 0, .int 1], .tup [.str ("A" : Str), .int 0, .int 1], .tup [.str ("a" : Str), .int 1, .int 1], .tup [.str ("a" : Str), .bl true, .int 2], .tup [.lst [.str ("a" : Str)], .int 0, .int 1], .dic []]
def Item05 (x : PV) : Prop := x ∈ odd05 ∨ ∃ r : Trip, x = rowP r ∧ GoodT r
def W05 (w : PV) : Prop := (∃ n : Int, w = .int n ∧ 1 ≤ n ∧ n ≤ 20) ∨ w ∈ ([.non, .int 0, .int 21, .bl true, .str ("3" : Str), .dic []] : List PV)
def badAt : Nat → List PV → Option Nat
 | _, [] => none
 | i, x :: xs => if isTripB x = true then badAt (i + 1) xs else some i
def dupGo : Nat → Str → List Str → Option Nat
 | _, _, [] => none
 | i, b, w :: ws => if w = b then some i else dupGo (i + 1) w ws
def dupN : List Str → Option Nat
 | [] => none
 | w :: ws => dupGo 1 w ws
def leNm (a b : Str) : Bool := decide (a.cps.toList ≤ b.cps.toList)
def nmS (rs : List Trip) : List Str := (rs.map (·.1)).mergeSort leNm
inductive Made : PV → List PV → PV → Prop
 | seats {w : PV} {xs : List PV} (h : seatsB w = false) : Made w xs (.lst [.str ("seats" : Str), w])
 | bad {w : PV} {xs : List PV} {k : Nat} (h : seatsB w = true) (hb : badAt 0 xs = some k) : Made w xs (.lst [.str ("trips" : Str), .int k])
 | twice {w : PV} {rs : List Trip} {k : Nat} (h : seatsB w = true) (hg : ∀ r ∈ rs, GoodT r) (hd : dupN (nmS rs) = some k) : Made w (rs.map rowP) (.lst [.str ("trips" : Str), .int k])
 | line {n : Int} {rs us : List Trip} (h1 : 1 ≤ n) (h2 : n ≤ 20) (hg : ∀ r ∈ rs, GoodT r) (hp : us.Perm rs) (hw : Rw us) : Made (.int n) (rs.map rowP) (.lst [.str ("returned" : Str), .lst [.int n, rowsP us]])
def sp_Line_made : PySem.W.Frag → Addr → (Str → Addr) → List PV → (PV → Prop) → WC → Prop := fun K C XC args P Zw => ∃ w xs, args = [.raw (.ref C), w, .tup xs] ∧ ClsT K C ∧ W05 w ∧ (∀ x ∈ xs, Item05 x) ∧ xs.length ≤ 5 ∧
 (∀ v, Made w xs v → match v with
  | .lst [.str k, y] => if k = ("seats" : Str) then Zw (XC ("InvalidSeats" : Str)) [(("value" : Str), y)] else if k = ("trips" : Str) then Zw (XC ("InvalidTrips" : Str)) [(("index" : Str), y)] else ∀ n us, y = .lst [.int n, rowsP us] → 1 ≤ n → n ≤ 20 → Rw us → P (lineP C n us)
  | _ => True)
def sp_law_trip : PrP := fun K C args P => ∃ x, args = [x] ∧ Item05 x ∧ P (.bl (isTripB x))
def sp_law_due : PrP := fun K C args P => ∃ w xs, args = [w, .lst xs] ∧ W05 w ∧ (∀ x ∈ xs, Item05 x) ∧ xs.length ≤ 5 ∧ ∀ v, Made w xs v → P v
def sp_law_some : PrR := fun K C o args P => ∃ rs, Pool o ∧ args = [rowsP rs] ∧ rs ≠ [] ∧ (∀ r ∈ rs, GoodT r) ∧ rs.length ≤ 24 ∧ ∀ o' xs, Pool o' → xs.length = 5 → (∀ x ∈ xs, Item05 x) → P (.lst xs) o'
def sp_law_same (K : PySem.W.Frag) (C : Addr) (XC : Str → Addr) (args : List PV) (P : PV → Prop) : Prop := ∃ t w xs, args = [t, w, .lst xs] ∧ ClsT K C ∧ W05 w ∧ (∀ x ∈ xs, Item05 x) ∧ xs.length ≤ 5 ∧
 ((∃ k y, t = .lst [.str k, y] ∧ k ≠ ("returned" : Str) ∧ Made w xs t) ∨ ∃ n us, t = .lst [.str ("returned" : Str), lineP C n us] ∧ 1 ≤ n ∧ n ≤ 20 ∧ Rw us ∧ Near us ∧ Made w xs (.lst [.str ("returned" : Str), .lst [.int n, rowsP us]])) ∧ P (.bl true)
structure Ce05 (K : PySem.W.Frag) (XC : Str → Addr) : Prop where
 se : KindF K XC (XC ("InvalidSeats" : Str)) 0
 sf : XfN K (XC ("InvalidSeats" : Str)) ("value" : Str)
 sx : PySem.W.exmAny K (.ref (XC ("InvalidSeats" : Str))) [.ref (XC ("SeatError" : Str)), .ref (XC ("StateError" : Str)), .ref (XC ("SizeError" : Str))] = some true
 te : KindF K XC (XC ("InvalidTrips" : Str)) 1
 tf : XfN K (XC ("InvalidTrips" : Str)) ("index" : Str)
 tx : PySem.W.exmAny K (.ref (XC ("InvalidTrips" : Str))) [.ref (XC ("SeatError" : Str)), .ref (XC ("StateError" : Str)), .ref (XC ("SizeError" : Str))] = some true
def sp_law_right05 : PySem.W.Frag → Addr → (Str → Addr) → Ow → List PV → (PV → Ow → Prop) → Prop := fun K C XC o args P => Pool o ∧ args = [] ∧ ClsT K C ∧ Ce05 K XC ∧ ∀ o', Pool o' → P (.bl true) o'
def sp_law05 (K : PySem.W.Frag) (C : Addr) (XC : Str → Addr) (args : List PV) (P : PV → Prop) : Prop := ∃ ns : List Int, args = [.scr ns] ∧ ns.length ≤ 63 ∧ ClsT K C ∧ Ce05 K XC ∧ P (.bl true)
def ts_Line_made (K : PySem.W.Frag) (CLine : Addr) (XC : Str → Addr) : TSX := tSeqX (tExX (tCallX (sp_check_seatsX K CLine XC) [] (tConsP (tVarP 1) (tNilP)))) (tSeqX (tForX (iEnumP (tVarP 2)) (gTupP 2 (gConsP (gNameP 3) (gConsP (gNameP 4) (gNilP)))) (tIfX (tNotP (tBlP (tCallP (sp_is_tripE K CLine) [] (tConsP (tVarP 4) (tNilP))))) (tRaiseX (XC ("InvalidTrips" : Str)) ("index" : Str) (tVarP 3)) (tPlX (tNextP)))) (tRetX (tNewLX 0 CLine (sp_Line_initX K CLine XC) [] (tConsP (tVarP 1) (tConsP (tCBP rTuple (tConsP (tSortL1P 0 (tVarP 2)) (tNilP))) (tNilP))))))
def ts_law_trip (K : PySem.W.Frag) (CLine : Addr) : TSp := tSeqP (tIfSP (tOrP (tNotP (tBlP (tCBP (rIsI K) (tConsP (tVarP 0) (tConsP (tConP (.raw (.ty "tuple"))) (tNilP)))))) (tOrP (tBlP (tOpP (rEqI true) (tCBP rLen (tConsP (tVarP 0) (tNilP))) (tConP (.int 3)))) (tNotP (tBlP (tCBP (rIsI K) (tConsP (tOpP rIxP (tVarP 0) (tConP (.int 0))) (tConsP (tConP (.raw (.ty "str"))) (tNilP)))))))) (tRetP (tConP (.bl false))) (tNextP)) (tSeqP (tSetP 1 (tValP (tLcP (iStrP (tOpP rIxP (tVarP 0) (tConP (.int 0)))) (gNameP 3) (tYesP) (tOpP (rInS false) (tVarP 3) (tConP (.str ("abcdefghijklmnopqrstuvwxyz" : Str)))) [3]))) (tSeqP (tIfSP (tOrP (tNotP (tBlP (tChainP rLt rLt (tConP (.int 0)) (tCBP rLen (tConsP (tVarP 1) (tNilP))) (tConP (.int 9))))) (tNotP (tBlP (tCBP rAllP (tConsP (tVarP 1) (tNilP)))))) (tRetP (tConP (.bl false))) (tNextP)) (tSeqP (tForP (iTupP (tSliceP (tVarP 0) (tPartP (tConP (.int 1))) (tNoPartP))) (gNameP 2) (tIfSP (tOrP (tNotP (tBlP (tCBP (rIsI K) (tConsP (tVarP 2) (tConsP (tConP (.raw (.ty "int"))) (tNilP)))))) (tBlP (tCBP (rIsI K) (tConsP (tVarP 2) (tConsP (tConP (.raw (.ty "bool"))) (tNilP)))))) (tRetP (tConP (.bl false))) (tNextP))) (tRetP (tChainP rLe rLt (tConP (.int 0)) (tOpP rIxP (tVarP 0) (tConP (.int 1))) (tOpP rIxP (tVarP 0) (tConP (.int 2))))))))
def ts_law_due (K : PySem.W.Frag) (CLine : Addr) : TSp := tSeqP (tIfSP (tOrP (tNotP (tBlP (tCBP (rIsI K) (tConsP (tVarP 0) (tConsP (tConP (.raw (.ty "int"))) (tNilP)))))) (tOrP (tBlP (tCBP (rIsI K) (tConsP (tVarP 0) (tConsP (tConP (.raw (.ty "bool"))) (tNilP))))) (tNotP (tBlP (tChainP rLt rLt (tConP (.int 0)) (tVarP 0) (tConP (.int 21))))))) (tRetP (tLstP (tConsP (tConP (.str ("seats" : Str))) (tConsP (tVarP 0) (tNilP))))) (tNextP)) (tSeqP (tSetP 2 (tValP (tLcP (iRng1P (tCBP rLen (tConsP (tVarP 1) (tNilP)))) (gNameP 5) (tNotP (tBlP (tCallP (sp_law_trip K CLine) [] (tConsP (tOpP rIxP (tVarP 1) (tVarP 5)) (tNilP))))) (tVarP 5) [5]))) (tSeqP (tIfSP (tBlP (tOpP (rEqP true) (tVarP 2) (tLstP (tNilP)))) (tRetP (tLstP (tConsP (tConP (.str ("trips" : Str))) (tConsP (tOpP rIxP (tVarP 2) (tConP (.int 0))) (tNilP))))) (tNextP)) (tSeqP (tSetP 3 (tCBP rSortD (tConsP (tVarP 1) (tNilP)))) (tSeqP (tSetP 4 (tValP (tLcP (iRng2P (tConP (.int 1)) (tCBP rLen (tConsP (tVarP 3) (tNilP)))) (gNameP 5) (tBlP (tOpP (rEqI false) (tOpP rIxP (tOpP rIxP (tVarP 3) (tVarP 5)) (tConP (.int 0))) (tOpP rIxP (tOpP rIxP (tVarP 3) (tOpP rSub (tVarP 5) (tConP (.int 1)))) (tConP (.int 0))))) (tVarP 5) [5]))) (tRetP (tIfP (tBlP (tOpP (rEqP true) (tVarP 4) (tLstP (tNilP)))) (tLstP (tConsP (tConP (.str ("trips" : Str))) (tConsP (tOpP rIxP (tVarP 4) (tConP (.int 0))) (tNilP)))) (tLstP (tConsP (tConP (.str ("returned" : Str))) (tConsP (tLstP (tConsP (tVarP 0) (tConsP (tCBP rTuple (tConsP (tVarP 3) (tNilP))) (tNilP)))) (tNilP))))))))))
def ts_law_same (K : PySem.W.Frag) (CLine : Addr) (XC : Str → Addr) : TSp := tSeqP (tIfSP (tAndP (tBlP (tOpP (rEqI false) (tOpP rIxP (tVarP 0) (tConP (.int 0))) (tConP (.str ("returned" : Str))))) (tBlP (tCBP (rIsI K) (tConsP (tOpP rIxP (tVarP 0) (tConP (.int 1))) (tConsP (tConP (.raw (.ref CLine))) (tNilP)))))) (tSeqP (tSetP 3 (tOpP rIxP (tVarP 0) (tConP (.int 1)))) (tSeqP (tSetP 4 (tNoX (tNewX CLine (sp_Line_initX K CLine XC) [] (tConsP (tPropP CLine (sp_Line_capacity K CLine) (tVarP 3)) (tConsP (tPropP CLine (sp_Line_trips K CLine) (tVarP 3)) (tNilP)))))) (tSeqP (tIfSP (tOrP (tBlP (tEqOP K CLine (sp_Line_eq K CLine) true (tVarP 3) (tVarP 4))) (tOrP (tBlP (tOpP (rEqP true) (tPropP CLine (sp_Line_order K CLine) (tVarP 3)) (tPropP CLine (sp_Line_order K CLine) (tVarP 4)))) (tBlP (tOpP (rEqI true) (tPropP CLine (sp_Line_peak K CLine) (tVarP 3)) (tPropP CLine (sp_Line_peak K CLine) (tVarP 4)))))) (tRetP (tConP (.bl false))) (tNextP)) (tSeqP (tIfSP (tOrP (tBlP (tOpP (rEqI true) (tStrOP CLine (sp_Line_str K CLine) (tConsP (tVarP 3) (tNilP))) (tStrOP CLine (sp_Line_str K CLine) (tConsP (tVarP 4) (tNilP))))) (tBlP (tOpP (rEqI true) (tLenOP CLine (sp_Line_len K CLine) (tConsP (tVarP 3) (tNilP))) (tLenOP CLine (sp_Line_len K CLine) (tConsP (tVarP 4) (tNilP)))))) (tRetP (tConP (.bl false))) (tNextP)) (tSetP 0 (tLstP (tConsP (tConP (.str ("returned" : Str))) (tConsP (tLstP (tConsP (tPropP CLine (sp_Line_capacity K CLine) (tVarP 3)) (tConsP (tPropP CLine (sp_Line_trips K CLine) (tVarP 3)) (tNilP)))) (tNilP))))))))) (tNextP)) (tRetP (tOpP (rEqI false) (tCBP rReprE (tConsP (tVarP 0) (tNilP))) (tCBP rReprE (tConsP (tCallP (sp_law_due K CLine) [] (tConsP (tVarP 1) (tConsP (tVarP 2) (tNilP)))) (tNilP)))))
def ts_law_some (K : PySem.W.Frag) (CLine : Addr) : TSp := tSeqP (tParP [2, 3] (tConsV (tLstP (tConsP (tConP .non) (tConsP (tConP (.int 0)) (tConsP (tTupP (tNilP)) (tConsP (tTupP (tConsP (tConP (.str ("a" : Str))) (tConsP (tConP (.int 0)) (tNilP)))) (tConsP (tLstP (tConsP (tConP (.str ("a" : Str))) (tConsP (tConP (.int 0)) (tConsP (tConP (.int 1)) (tNilP))))) (tConsP (tTupP (tConsP (tConP (.str ("A" : Str))) (tConsP (tConP (.int 0)) (tConsP (tConP (.int 1)) (tNilP))))) (tConsP (tTupP (tConsP (tConP (.str ("a" : Str))) (tConsP (tConP (.int 1)) (tConsP (tConP (.int 1)) (tNilP))))) (tConsP (tTupP (tConsP (tConP (.str ("a" : Str))) (tConsP (tConP (.bl true)) (tConsP (tConP (.int 2)) (tNilP))))) (tConsP (tTupP (tConsP (tLstP (tConsP (tConP (.str ("a" : Str))) (tNilP))) (tConsP (tConP (.int 0)) (tConsP (tConP (.int 1)) (tNilP))))) (tConsP (tDic0P) (tNilP)))))))))))) (tConsF (tLstFP (tNilP)) (tNilAr)))) (tSeqP (tForP (iRng1P (tConP (.int 5))) (gNameP 4) (tSeqP (tSetP 5 (tOpP rIxP (tVarP 1) (tCallRP 0 (sp_law_draw K CLine) (tConsP (tCBP rLen (tConsP (tVarP 1) (tNilP))) (tNilP))))) (tSeqP (tSetP 6 (tCallRP 0 (sp_law_draw K CLine) (tConsP (tConP (.int 12)) (tNilP)))) (tAppP 3 (tIfP (tBlP (tOpP (rEqI false) (tVarP 6) (tConP (.int 0)))) (tOpP rIxP (tVarP 2) (tCallRP 0 (sp_law_draw K CLine) (tConsP (tConP (.int 10)) (tNilP)))) (tIfP (tBlP (tOpP (rEqI false) (tVarP 6) (tConP (.int 1)))) (tTupP (tConsP (tOpP rIxP (tVarP 5) (tConP (.int 0))) (tConsP (tConP (.int 0)) (tConsP (tConP (.int 1)) (tNilP))))) (tVarP 5))))))) (tRetP (tVarP 3)))
def ts_law_right05 (K : PySem.W.Frag) (CLine : Addr) (XC : Str → Addr) : TSp := tSeqP (tSetP 1 (tCallRP 0 (sp_law_rides K CLine) (tConsP (tCallRP 0 (sp_law_words K CLine) (tConsP (tOpP rAdd (tConP (.int 6)) (tCallRP 0 (sp_law_draw K CLine) (tConsP (tConP (.int 19)) (tNilP)))) (tNilP))) (tConsP (tConP (.int 30)) (tNilP))))) (tSeqP (tForP (iRng1P (tConP (.int 4))) (gNameP 2) (tSeqP (tSetP 3 (tOpP rIxP (tLstP (tConsP (tConP .non) (tConsP (tConP (.int 0)) (tConsP (tConP (.int 21)) (tConsP (tConP (.bl true)) (tConsP (tConP (.str ("3" : Str))) (tConsP (tDic0P) (tNilP)))))))) (tCallRP 0 (sp_law_draw K CLine) (tConsP (tConP (.int 6)) (tNilP))))) (tSeqP (tSetP 4 (tOpP rIxP (tLstP (tConsP (tOpP rAdd (tConP (.int 1)) (tCallRP 0 (sp_law_draw K CLine) (tConsP (tConP (.int 20)) (tNilP)))) (tConsP (tVarP 3) (tNilP)))) (tCBP rInt1 (tConsP (tOpP (rEqI false) (tCallRP 0 (sp_law_draw K CLine) (tConsP (tConP (.int 4)) (tNilP))) (tConP (.int 0))) (tNilP))))) (tSeqP (tAsgP (tCallRP 0 (sp_law_some K CLine) (tConsP (tVarP 1) (tNilP))) (gLstP 5 (gConsP (gNameP 5) (gConsP (gNameP 6) (gConsP (gNameP 7) (gConsP (gNameP 8) (gConsP (gNameP 9) (gNilP)))))))) (tSeqP (tIfSP (tNotP (tBlP (tCallP (sp_law_same K CLine XC) [] (tConsP (tCaughtP K [.ref (XC ("SeatError" : Str)), .ref (XC ("StateError" : Str)), .ref (XC ("SizeError" : Str))] ("returned" : Str) (tCMetV CLine (sp_Line_made K CLine XC) (tConP (.raw (.ref CLine))) (tConsP (tVarP 4) (tNilP))) (ts_law_caught K CLine XC)) (tConsP (tVarP 4) (tConsP (tLstP (tNilP)) (tNilP))))))) (tRetP (tConP (.bl false))) (tNextP)) (tSeqP (tIfSP (tNotP (tBlP (tCallP (sp_law_same K CLine XC) [] (tConsP (tCaughtP K [.ref (XC ("SeatError" : Str)), .ref (XC ("StateError" : Str)), .ref (XC ("SizeError" : Str))] ("returned" : Str) (tCMetVK CLine (sp_Line_made K CLine XC) (tConP (.raw (.ref CLine))) (tConsP (tVarP 4) (tNilP))) (ts_law_caught K CLine XC)) (tConsP (tVarP 4) (tConsP (tLstP (tNilP)) (tNilP))))))) (tRetP (tConP (.bl false))) (tNextP)) (tSeqP (tIfSP (tNotP (tBlP (tCallP (sp_law_same K CLine XC) [] (tConsP (tCaughtP K [.ref (XC ("SeatError" : Str)), .ref (XC ("StateError" : Str)), .ref (XC ("SizeError" : Str))] ("returned" : Str) (tCMetV CLine (sp_Line_made K CLine XC) (tConP (.raw (.ref CLine))) (tConsP (tVarP 4) (tConsP (tVarP 5) (tNilP)))) (ts_law_caught K CLine XC)) (tConsP (tVarP 4) (tConsP (tLstP (tConsP (tVarP 5) (tNilP))) (tNilP))))))) (tRetP (tConP (.bl false))) (tNextP)) (tSeqP (tIfSP (tNotP (tBlP (tCallP (sp_law_same K CLine XC) [] (tConsP (tCaughtP K [.ref (XC ("SeatError" : Str)), .ref (XC ("StateError" : Str)), .ref (XC ("SizeError" : Str))] ("returned" : Str) (tCMetV CLine (sp_Line_made K CLine XC) (tConP (.raw (.ref CLine))) (tConsP (tVarP 4) (tConsP (tVarP 5) (tConsP (tVarP 6) (tNilP))))) (ts_law_caught K CLine XC)) (tConsP (tVarP 4) (tConsP (tLstP (tConsP (tVarP 5) (tConsP (tVarP 6) (tNilP)))) (tNilP))))))) (tRetP (tConP (.bl false))) (tNextP)) (tSeqP (tIfSP (tNotP (tBlP (tCallP (sp_law_same K CLine XC) [] (tConsP (tCaughtP K [.ref (XC ("SeatError" : Str)), .ref (XC ("StateError" : Str)), .ref (XC ("SizeError" : Str))] ("returned" : Str) (tIMetV CLine ("made" : Str) (sp_Line_made K CLine XC) (tNoX (tNewX CLine (sp_Line_initX K CLine XC) [.tup []] (tConsP (tConP (.int 3)) (tNilP)))) (tConsP (tVarP 4) (tConsP (tVarP 7) (tConsP (tVarP 6) (tConsP (tVarP 5) (tNilP)))))) (ts_law_caught K CLine XC)) (tConsP (tVarP 4) (tConsP (tLstP (tConsP (tVarP 7) (tConsP (tVarP 6) (tConsP (tVarP 5) (tNilP))))) (tNilP))))))) (tRetP (tConP (.bl false))) (tNextP)) (tSeqP (tIfSP (tNotP (tBlP (tCallP (sp_law_same K CLine XC) [] (tConsP (tCaughtP K [.ref (XC ("SeatError" : Str)), .ref (XC ("StateError" : Str)), .ref (XC ("SizeError" : Str))] ("returned" : Str) (tCMetV CLine (sp_Line_made K CLine XC) (tConP (.raw (.ref CLine))) (tConsP (tVarP 4) (tConsP (tVarP 8) (tConsP (tVarP 5) (tConsP (tVarP 7) (tConsP (tVarP 6) (tNilP))))))) (ts_law_caught K CLine XC)) (tConsP (tVarP 4) (tConsP (tLstP (tConsP (tVarP 8) (tConsP (tVarP 5) (tConsP (tVarP 7) (tConsP (tVarP 6) (tNilP)))))) (tNilP))))))) (tRetP (tConP (.bl false))) (tNextP)) (tIfSP (tNotP (tBlP (tCallP (sp_law_same K CLine XC) [] (tConsP (tCaughtP K [.ref (XC ("SeatError" : Str)), .ref (XC ("StateError" : Str)), .ref (XC ("SizeError" : Str))] ("returned" : Str) (tCMetV CLine (sp_Line_made K CLine XC) (tConP (.raw (.ref CLine))) (tConsP (tVarP 4) (tConsP (tVarP 9) (tConsP (tVarP 8) (tConsP (tVarP 7) (tConsP (tVarP 6) (tConsP (tVarP 5) (tNilP)))))))) (ts_law_caught K CLine XC)) (tConsP (tVarP 4) (tConsP (tLstP (tConsP (tVarP 9) (tConsP (tVarP 8) (tConsP (tVarP 7) (tConsP (tVarP 6) (tConsP (tVarP 5) (tNilP))))))) (tNilP))))))) (tRetP (tConP (.bl false))) (tNextP)))))))))))) (tRetP (tConP (.bl true))))
def ts_law05 (K : PySem.W.Frag) (CLine : Addr) (XC : Str → Addr) : TSp := tRetP (tCBP rAllP (tConsP (tValP (tLcP (iRng1P (tCBP rMax2 (tConsP (tConP (.int 2)) (tConsP (tCBP rMin2 (tConsP (tCBP rLen (tConsP (tVarP 0) (tNilP))) (tConsP (tConP (.int 8)) (tNilP)))) (tNilP))))) (gNameP 1) (tYesP) (tCallRFP (tCallFP (sp_law_pool K CLine) (tConsP (tCallP (sp_law_cell K CLine) [] (tConsP (tVarP 0) (tConsP (tVarP 1) (tNilP)))) (tNilP))) (sp_law_right05 K CLine XC) (tNilP)) [1])) (tNilP)))
section
variable {K : PySem.W.Frag} {C : Addr} {XC : Str → Addr} {args : List PV} {P : PV → Prop} {PR : PV → Ow → Prop} {o : Ow} {Zw : WC}
theorem len_Line_made (h : sp_Line_made K C XC args P Zw) : args.length = 3 := by obtain ⟨_, _, rfl, _⟩ := h; rfl
theorem len_law_trip (h : sp_law_trip K C args P) : args.length = 1 := by obtain ⟨_, rfl, _⟩ := h; rfl
theorem len_law_due (h : sp_law_due K C args P) : args.length = 2 := by obtain ⟨_, _, rfl, _⟩ := h; rfl
theorem len_law_same (h : sp_law_same K C XC args P) : args.length = 3 := by obtain ⟨_, _, _, rfl, _⟩ := h; rfl
theorem len_law_some (h : sp_law_some K C o args PR) : args.length = 1 := by obtain ⟨_, _, rfl, _⟩ := h; rfl
theorem len_law_right05 (h : sp_law_right05 K C XC o args PR) : args.length = 0 := by obtain ⟨_, rfl, _⟩ := h; rfl
theorem len_law05 (h : sp_law05 K C XC args P) : args.length = 1 := by obtain ⟨_, rfl, _⟩ := h; rfl
end
theorem str_ext5 {a b : Str} (h : a.cps.toList = b.cps.toList) : a = b := by
 cases a; cases b
 congr 1
 exact Array.toList_inj.mp h
theorem row_inj5 : ∀ {a b : List Trip}, a.map rowP = b.map rowP → a = b
 | [], [], _ => rfl
 | [], _ :: _, h => by cases h
 | _ :: _, [], h => by cases h
 | x :: a, y :: b, h => by
  rw [List.map_cons, List.map_cons] at h
  injection h with h1 h2
  have e : x = y := by
   unfold rowP at h1
   have h := List.cons.inj (PV.tup.inj h1)
   have h2 := List.cons.inj h.2
   have h3 := (List.cons.inj h2.2).1
   exact Prod.ext (PV.str.inj h.1) (Prod.ext (PV.int.inj h2.1) (PV.int.inj h3))
  rw [e, row_inj5 h2]
theorem good_trip {r : Trip} (h : GoodT r) : isTripB (rowP r) = true := by
 show (isNm (.str r.1) && (isStn (.int r.2.1) && latB (.int r.2.2) (.int r.2.1))) = true
 have h1 : isStn (.int r.2.1) = true := by show decide (0 ≤ r.2.1) = true; exact decide_eq_true h.s0
 have h2 : latB (.int r.2.2) (.int r.2.1) = true := by show decide (r.2.1 < r.2.2) = true; exact decide_eq_true h.se
 rw [h.nm, h1, h2]; rfl
theorem odd_trip : ∀ x ∈ odd05, isTripB x = false := by decide +kernel
theorem item_trip {x : PV} (h : Item05 x) (ht : isTripB x = true) : ∃ r : Trip, x = rowP r ∧ GoodT r := by
 rcases h with h | h
 ·rw [odd_trip x h] at ht; cases ht
 ·exact h
theorem items_rows : ∀ (xs : List PV), (∀ x ∈ xs, Item05 x) → badAt 0 xs = none → ∃ rs : List Trip, xs = rs.map rowP ∧ ∀ r ∈ rs, GoodT r := by
 have go : ∀ (xs : List PV) (i : Nat), (∀ x ∈ xs, Item05 x) → badAt i xs = none → ∃ rs : List Trip, xs = rs.map rowP ∧ ∀ r ∈ rs, GoodT r := by
  intro xs
  induction xs with
  | nil => intro _ _ _; exact ⟨[], rfl, fun r h => by cases h⟩
  | cons x xs ih =>
   intro i hx hb
   rw [badAt] at hb
   split at hb
   ·rename_i ht
    obtain ⟨r, rfl, hr⟩ := item_trip (hx x List.mem_cons_self) ht
    obtain ⟨rs, rfl, hrs⟩ := ih (i + 1) (fun y hy => hx y (List.mem_cons_of_mem _ hy)) hb
    exact ⟨r :: rs, rfl, fun q hq => by
     rcases List.mem_cons.mp hq with rfl | hq
     ·exact hr
     ·exact hrs q hq⟩
   ·cases hb
 exact fun xs hx hb => go xs 0 hx hb
theorem bad_rows : ∀ (rs : List Trip) (i : Nat), (∀ r ∈ rs, GoodT r) → badAt i (rs.map rowP) = none
 | [], _, _ => rfl
 | r :: rs, i, h => by
  rw [List.map_cons, badAt, if_pos (good_trip (h r List.mem_cons_self))]
  exact bad_rows rs (i + 1) fun q hq => h q (List.mem_cons_of_mem _ hq)
theorem leNm_trans (a b c : Str) (h1 : leNm a b = true) (h2 : leNm b c = true) : leNm a c = true := decide_eq_true (List.le_trans (of_decide_eq_true h1) (of_decide_eq_true h2))
theorem leNm_total (a b : Str) : (leNm a b || leNm b a) = true := by
 rcases List.le_total a.cps.toList b.cps.toList with h | h
 ·rw [show leNm a b = true from decide_eq_true h]; rfl
 ·rw [show leNm b a = true from decide_eq_true h, Bool.or_true]
theorem leNm_anti {a b : Str} (h1 : leNm a b = true) (h2 : leNm b a = true) : a = b := str_ext5 (List.le_antisymm (of_decide_eq_true h1) (of_decide_eq_true h2))
theorem names_sorted {us rs : List Trip} (hp : us.Perm rs) (hs : us.Pairwise fun a b => leNm a.1 b.1 = true) : us.map (·.1) = nmS rs := by
 have p1 : (us.map (·.1)).Perm (nmS rs) := (hp.map _).trans (List.mergeSort_perm _ _).symm
 have s1 : (us.map (·.1)).Pairwise fun a b => leNm a b = true := List.pairwise_map.mpr hs
 have s2 : (nmS rs).Pairwise fun a b => leNm a b = true := List.pairwise_mergeSort leNm_trans leNm_total _
 exact List.Perm.eq_of_pairwise (fun x y _ _ h1 h2 => leNm_anti h1 h2) s1 s2 p1
theorem dup_asc : ∀ (us : List Trip) (i : Nat) (b : Str), (∀ r ∈ us, leNm b r.1 = true) → us.Pairwise (fun a c => leNm a.1 c.1 = true) → dupGo i b (us.map (·.1)) = none → (∀ r ∈ us, b.cps.toList < r.1.cps.toList) ∧ us.Pairwise fun a c => a.1.cps.toList < c.1.cps.toList
 | [], _, _, _, _, _ => ⟨fun r h => (by cases h), List.Pairwise.nil⟩
 | u :: us, i, b, hb, hp, hd => by
  rw [List.map_cons, dupGo] at hd
  split at hd
  ·cases hd
  ·rename_i hne
   rw [List.pairwise_cons] at hp
   obtain ⟨i1, i2⟩ := dup_asc us (i + 1) u.1 hp.1 hp.2 hd
   have h1 : b.cps.toList < u.1.cps.toList := by
    have h2 := of_decide_eq_true (hb u List.mem_cons_self)
    rcases List.le_iff_lt_or_eq.mp h2 with h | h
    ·exact h
    ·exact absurd (str_ext5 h).symm hne
   refine ⟨fun r hr => ?_, List.pairwise_cons.mpr ⟨i1, i2⟩⟩
   rcases List.mem_cons.mp hr with rfl | hr
   ·exact h1
   ·exact List.lt_trans h1 (i1 r hr)
theorem dup_go : ∀ (us : List Trip) (i : Nat) (b : Str), (∀ r ∈ us, GoodT r) → (∀ r ∈ us, leNm b r.1 = true) → us.Pairwise (fun a c => leNm a.1 c.1 = true) → i + us.length ≤ 24 → ∀ k, dupGo i b (us.map (·.1)) = some k → vGoT i b (us.map rowP) = k ∧ k < i + us.length
 | [], _, _, _, _, _, _, _, hd => by cases hd
 | u :: us, i, b, hg, hb, hp, hl, k, hd => by
  rw [List.length_cons] at hl
  rw [List.map_cons, dupGo] at hd
  rw [List.map_cons, vGoT]
  split at hd
  ·rename_i he
   cases hd
   rw [if_pos (.inr (.inr (by show ¬ b.cps.toList < u.1.cps.toList; rw [he]; exact List.lt_irrefl _)))]
   exact ⟨rfl, by rw [List.length_cons]; omega⟩
  ·rename_i hne
   rw [List.pairwise_cons] at hp
   have h1 : b.cps.toList < u.1.cps.toList := by
    have h2 := of_decide_eq_true (hb u List.mem_cons_self)
    rcases List.le_iff_lt_or_eq.mp h2 with h | h
    ·exact h
    ·exact absurd (str_ext5 h).symm hne
   have hn : ¬ (i = 24 ∨ isTripB (rowP u) = false ∨ ¬ b.cps.toList < (nmOf (rowP u)).cps.toList) := by
    rintro (h | h | h)
    ·omega
    ·rw [good_trip (hg u List.mem_cons_self)] at h; cases h
    ·exact h h1
   rw [if_neg hn]
   obtain ⟨e1, e2⟩ := dup_go us (i + 1) u.1 (fun q hq => hg q (List.mem_cons_of_mem _ hq)) hp.1 hp.2 (by omega) k hd
   exact ⟨e1, by rw [List.length_cons]; omega⟩
theorem first_name {r : Trip} (h : GoodT r) : ("" : Str).cps.toList < r.1.cps.toList := by
 obtain ⟨g0, _⟩ := Bool.and_eq_true_iff.mp h.nm
 have g0 : 1 ≤ r.1.length := of_decide_eq_true g0
 have e : ("" : Str).cps.toList = [] := by decide +kernel
 rw [e]
 have hl : r.1.cps.toList.length = r.1.length := by simp [Str.length]
 cases hw : r.1.cps.toList with
 | nil => rw [hw] at hl; simp at hl; omega
 | cons a l => exact List.nil_lt_cons _ _
theorem made_twice {us : List Trip} {k : Nat} (hg : ∀ r ∈ us, GoodT r) (hp : us.Pairwise (fun a c => leNm a.1 c.1 = true)) (hl : us.length ≤ 24) (hd : dupN (us.map (·.1)) = some k) : vNT (us.map rowP) = k ∧ k < us.length := by
 cases us with
 | nil => cases hd
 | cons u us =>
  rw [List.pairwise_cons] at hp
  rw [List.length_cons] at hl
  have hu := hg u List.mem_cons_self
  have hn : ¬ (0 = 24 ∨ isTripB (rowP u) = false ∨ ¬ ("" : Str).cps.toList < (nmOf (rowP u)).cps.toList) := by
   rintro (h | h | h)
   ·cases h
   ·rw [good_trip hu] at h; cases h
   ·exact h (first_name hu)
  unfold vNT
  rw [List.map_cons, vGoT, if_neg hn]
  obtain ⟨e1, e2⟩ := dup_go us 1 u.1 (fun q hq => hg q (List.mem_cons_of_mem _ hq)) hp.1 hp.2 (by omega) k hd
  exact ⟨e1, by rw [List.length_cons]; omega⟩
theorem made_line {us : List Trip} (hg : ∀ r ∈ us, GoodT r) (hp : us.Pairwise (fun a c => leNm a.1 c.1 = true)) (hl : us.length ≤ 24) (hd : dupN (us.map (·.1)) = none) : Rw us := by
 refine ⟨hl, fun r hr => ⟨(hg r hr).nm, (hg r hr).s0, (hg r hr).se⟩, ?_⟩
 cases us with
 | nil => exact List.Pairwise.nil
 | cons u us =>
  rw [List.pairwise_cons] at hp
  obtain ⟨i1, i2⟩ := dup_asc us 1 u.1 hp.1 hp.2 hd
  exact List.pairwise_cons.mpr ⟨i1, i2⟩
theorem dup_rw {us : List Trip} (hw : Rw us) : dupN (us.map (·.1)) = none := by
 have go : ∀ (us : List Trip) (i : Nat) (b : Str), (∀ r ∈ us, b.cps.toList < r.1.cps.toList) → us.Pairwise (fun a c => a.1.cps.toList < c.1.cps.toList) → dupGo i b (us.map (·.1)) = none := by
  intro us
  induction us with
  | nil => intro _ _ _ _; rfl
  | cons u us ih =>
   intro i b hb hp
   rw [List.pairwise_cons] at hp
   rw [List.map_cons, dupGo, if_neg (fun e => by have := hb u List.mem_cons_self; rw [e] at this; exact List.lt_irrefl _ this)]
   exact ih (i + 1) u.1 hp.1 hp.2
 have ha := hw.asc
 cases us with
 | nil => rfl
 | cons u us =>
  rw [List.pairwise_cons] at ha
  exact go us 1 u.1 ha.1 ha.2
theorem asc_le {us : List Trip} (h : us.Pairwise fun a c => a.1.cps.toList < c.1.cps.toList) : us.Pairwise (fun a c => leNm a.1 c.1 = true) := h.imp fun h => decide_eq_true (List.le_of_lt h)
theorem Made.uniq {w : PV} {xs : List PV} {v v' : PV} (h : Made w xs v) (h' : Made w xs v') : v = v' := by
 have sn : ∀ {n : Int}, 1 ≤ n → n ≤ 20 → seatsB (.int n) = true := fun h1 h2 => by
  show (decide (1 ≤ _) && decide (_ ≤ 20)) = true
  rw [decide_eq_true h1, decide_eq_true h2]; rfl
 cases h with
 | seats hs =>
  cases h' with
  | seats _ => rfl
  | bad h2 => rw [hs] at h2; cases h2
  | twice h2 => rw [hs] at h2; cases h2
  | line h1 h2 => rw [sn h1 h2] at hs; cases hs
 | bad hs hb =>
  cases h' with
  | seats h2 => rw [hs] at h2; cases h2
  | bad _ hb' => rw [hb] at hb'; cases hb'; rfl
  | twice _ hg => rw [bad_rows _ 0 hg] at hb; cases hb
  | line _ _ hg => rw [bad_rows _ 0 hg] at hb; cases hb
 | twice hs hg hd =>
  generalize hx : List.map rowP _ = xs at h'
  cases h' with
  | seats h2 => rw [hs] at h2; cases h2
  | bad _ hb => rw [← hx, bad_rows _ 0 hg] at hb; cases hb
  | twice _ hg' hd' =>
   rw [row_inj5 hx] at hd
   rw [hd] at hd'; cases hd'; rfl
  | line h1 h2 hg' hp hw =>
   rw [row_inj5 hx] at hd
   rw [← names_sorted hp (asc_le hw.asc), dup_rw hw] at hd; cases hd
 | line h1 h2 hg hp hw =>
  generalize hx : List.map rowP _ = xs at h'
  generalize hz : PV.int _ = z at h'
  cases h' with
  | seats h3 => rw [← hz, sn h1 h2] at h3; cases h3
  | bad _ hb => rw [← hx, bad_rows _ 0 hg] at hb; cases hb
  | twice _ hg' hd' =>
   rw [← row_inj5 hx, ← names_sorted hp (asc_le hw.asc), dup_rw hw] at hd'; cases hd'
  | line h1' h2' hg' hp' hw' =>
   cases hz
   rw [← row_inj5 hx] at hp'
   rw [perm_asc (hp.trans hp'.symm) hw.asc hw'.asc]
theorem le_key5 {a b : Trip} (q : PySem.W.dataLe false (keyP1 0) (rowP a) (rowP b) = true) : leNm a.1 b.1 = true := by
 have q' : (!PySem.W.dataLt (.str b.1) (.str a.1)) = true := q
 rw [PySem.W.dataLt_str] at q'
 have nb : ¬ b.1.cps.toList < a.1.cps.toList := by simpa using q'
 exact decide_eq_true (List.not_lt.mp nb)
theorem le_row5 {a b : Trip} (q : PySem.W.dataLe false encD (rowP a) (rowP b) = true) : leNm a.1 b.1 = true := by
 by_cases h : a.1 = b.1
 ·rw [h]; exact decide_eq_true (List.le_refl _)
 ·exact decide_eq_true (List.le_of_lt (dlt_rows h q))
theorem sort_any5 {k : PV → PyData} (hk : ∀ {a b : Trip}, PySem.W.dataLe false k (rowP a) (rowP b) = true → leNm a.1 b.1 = true) (rows : List Trip) : ∃ us : List Trip, (rows.map rowP).mergeSort (PySem.W.dataLe false k) = us.map rowP ∧ us.Perm rows ∧ us.Pairwise fun a b => leNm a.1 b.1 = true := by
 have T := PySem.W.sortLe_total (PyProof.Rows.listOrd PyProof.Rows.itemOrd) false fun b : PV => PySem.W.keyToks (k b)
 refine ⟨rows.mergeSort fun a b => PySem.W.dataLe false k (rowP a) (rowP b), ?_, List.mergeSort_perm _ _, ?_⟩
 ·exact (List.map_mergeSort (f := rowP) (r := fun a b => PySem.W.dataLe false k (rowP a) (rowP b)) (s := PySem.W.dataLe false k) (fun _ _ _ _ => rfl)).symm
 ·have h1 : (rows.mergeSort fun a b => PySem.W.dataLe false k (rowP a) (rowP b)).Pairwise fun a b => PySem.W.dataLe false k (rowP a) (rowP b) = true :=
   List.pairwise_mergeSort (le := fun a b => PySem.W.dataLe false k (rowP a) (rowP b)) (fun a b c p q => T.trans (rowP a) (rowP b) (rowP c) p q) (fun a b => by
    rcases T.total (rowP a) (rowP b) with p | p
    ·exact Bool.or_eq_true_iff.mpr (.inl p)
    ·exact Bool.or_eq_true_iff.mpr (.inr p)) rows
  exact h1.imp hk
theorem w_forX5 {ti : TIp} {g : TGp} {tb : TSX} {D : EndsP} {Zw : WZ} {η : EP'} (h : ti η fun xs η1 => ∃ Inv : Nat → EP' → Prop, Inv 0 η1 ∧
 (∀ i x η2, xs[i]? = some x → Inv i η2 → g x η2 fun η3 => tb { D with nx := Inv (i + 1), ct := Inv (i + 1), bk := D.nx } Zw η3) ∧ ∀ η2, Inv xs.length η2 → D.nx η2) : tForX ti g tb D Zw η := h
theorem w_retX5 {te : TXp} {D : EndsP} {Zw : WZ} {η : EP'} (h : te η D.rt Zw) : tRetX te D Zw η := h
theorem w_newL5 {i : Nat} {C : Addr} {sr : SpRX} {dps : List PV} {t : TAp} {η : EP'} {Q : PV → EP' → Prop} {Zx : WZ} (e : η[i]? = some (.va (.raw (.ref C)))) (h : t η fun args η1 => sr (.o C []) (args ++ dps) (fun r o' => r = .non ∧ ∃ fs, o' = .o C fs ∧ Q (.ins C fs) η1) fun C' fs => Zx C' fs η1) : tNewLX i C sr dps t η Q Zx := ⟨e, h⟩
theorem w_sort15 {i : Int} {te : TEp} {η : EP'} {Q : PV → EP' → Prop} (h : te η fun x η1 => match x with
 | .tup xs => (∀ y ∈ xs, ∃ ys a, y = .tup ys ∧ atI ys i = some a ∧ flatD a = true) ∧ PySem.W.AllAlike (xs.map (keyP1 i)) ∧ xs.length ≤ sizeLine ∧ Q (.lst (xs.mergeSort (PySem.W.dataLe false (keyP1 i)))) η1
 | _ => False) : tSortL1P i te η Q := h
theorem item_kn {K : PySem.W.Frag} {x : PV} (h : Item05 x) : KnT K x := by
 rcases h with h | ⟨r, rfl, hr⟩
 ·simp only [odd05, List.mem_cons, List.not_mem_nil, or_false] at h
  rcases h with rfl | rfl | rfl | rfl | rfl | rfl | rfl | rfl | rfl | rfl
  all_goals
   refine ⟨.inl rfl, fun n s e q => ?_⟩
   cases q <;> exact ⟨.inl rfl, .inl rfl, .inl rfl, fun z hz => by cases hz <;> exact Nat.le_trans (m := 100) (by decide +kernel) (by decide)⟩
 ·refine ⟨.inl rfl, fun n s e q => ?_⟩
  cases q
  refine ⟨.inl rfl, .inl rfl, .inl rfl, fun z hz => ?_⟩
  cases hz
  obtain ⟨_, g⟩ := Bool.and_eq_true_iff.mp hr.nm
  have := of_decide_eq_true (Bool.and_eq_true_iff.mp g).1
  exact Nat.le_trans this (by decide)
theorem w_kn {K : PySem.W.Frag} {w : PV} (h : W05 w) : Kn K w := by
 rcases h with ⟨n, rfl, _⟩ | h
 ·exact .inl rfl
 ·simp only [List.mem_cons, List.not_mem_nil, or_false] at h
  rcases h with rfl | rfl | rfl | rfl | rfl | rfl <;> exact .inl rfl
theorem w_int {w : PV} (h : W05 w) (hs : seatsB w = true) : ∃ n : Int, w = .int n ∧ 1 ≤ n ∧ n ≤ 20 := by
 rcases h with ⟨n, rfl, h1, h2⟩ | h
 ·exact ⟨n, rfl, h1, h2⟩
 ·simp only [List.mem_cons, List.not_mem_nil, or_false] at h
  rcases h with rfl | rfl | rfl | rfl | rfl | rfl <;> cases hs
theorem bad_at {xs : List PV} : ∀ (i : Nat) (ys : List PV) (x : PV), (∀ y ∈ ys, isTripB y = true) → isTripB x = false → badAt i (ys ++ x :: xs) = some (i + ys.length)
 | i, [], x, _, hx => by rw [List.nil_append, badAt, if_neg (by rw [hx]; simp)]; rfl
 | i, y :: ys, x, hy, hx => by
  rw [List.cons_append, badAt, if_pos (hy y List.mem_cons_self), bad_at (i + 1) ys x (fun z hz => hy z (List.mem_cons_of_mem _ hz)) hx, List.length_cons]
  congr 1; omega
theorem all_rows {xs : List PV} (h : ∀ x ∈ xs, Item05 x) (ht : ∀ x ∈ xs, isTripB x = true) : ∃ rs : List Trip, xs = rs.map rowP ∧ ∀ r ∈ rs, GoodT r := by
 refine items_rows xs h ?_
 have go : ∀ (xs : List PV) (i : Nat), (∀ x ∈ xs, isTripB x = true) → badAt i xs = none := by
  intro xs
  induction xs with
  | nil => intro _ _; rfl
  | cons x xs ih => intro i hx; rw [badAt, if_pos (hx x List.mem_cons_self)]; exact ih (i + 1) fun y hy => hx y (List.mem_cons_of_mem _ hy)
 exact go xs 0 ht
theorem v_full : ∀ (us : List Trip) (i : Nat) (b : Str), (∀ r ∈ us, GoodT r) → (∀ r ∈ us, b.cps.toList < r.1.cps.toList) → us.Pairwise (fun a c => a.1.cps.toList < c.1.cps.toList) → i + us.length ≤ 24 → vGoT i b (us.map rowP) = i + us.length
 | [], _, _, _, _, _, _ => rfl
 | u :: us, i, b, hg, hb, hp, hl => by
  rw [List.length_cons] at hl
  rw [List.pairwise_cons] at hp
  have hn : ¬ (i = 24 ∨ isTripB (rowP u) = false ∨ ¬ b.cps.toList < (nmOf (rowP u)).cps.toList) := by
   rintro (h | h | h)
   ·omega
   ·rw [good_trip (hg u List.mem_cons_self)] at h; cases h
   ·exact h (hb u List.mem_cons_self)
  rw [List.map_cons, vGoT, if_neg hn]
  have := v_full us (i + 1) u.1 (fun q hq => hg q (List.mem_cons_of_mem _ hq)) hp.1 hp.2 (by omega)
  show vGoT (i + 1) u.1 (us.map rowP) = _
  rw [this, List.length_cons]; omega
theorem rw_vNT {us : List Trip} (hg : ∀ r ∈ us, GoodT r) (hw : Rw us) : vNT (us.map rowP) = us.length := by
 have := v_full us 0 ("" : Str) hg (fun r hr => first_name (hg r hr)) hw.asc (by have := hw.len; omega)
 rw [Nat.zero_add] at this
 exact this
section
variable {K : PySem.W.Frag} {C : Addr} {XC : Str → Addr} {args : List PV} {P : PV → Prop} {PR : PV → Ow → Prop} {o : Ow} {Zw : WC}
theorem rd_Line_made (h : sp_Line_made K C XC args P Zw) : ts_Line_made K C XC { nx := fun _ => P .non, rt := fun x _ => P x } (fun C fs _ => Zw C fs) (startP 5 args) := by
 obtain ⟨w, xs, rfl, hC, hw, hx, hl, hp⟩ := h
 have e : startP 5 [.raw (.ref C), w, .tup xs] = [.va (.raw (.ref C)), .va w, .va (.tup xs), .no, .no] := rfl
 rw [e]
 have sz : 1000 < sizeLine := by decide
 refine w_seqX1 (w_exX1 (w_callX1 (w_cons (w_var (x := w) rfl (w_nil ⟨w, rfl, w_kn hw, fun hs => ?_, fun hs => hp _ (.seats hs)⟩)))))
 dsimp only
 refine w_seqX1 (w_forX5 (w_enumX (w_var (x := .tup xs) rfl ?_)))
 refine ⟨fun i η => (∀ x ∈ xs.take i, isTripB x = true) ∧ ∃ s3 s4, η = [.va (.raw (.ref C)), .va w, .va (.tup xs), s3, s4], ⟨fun x hx => (by simp at hx), _, _, rfl⟩, ?_, ?_⟩
 ·rintro i y η hi ⟨hb, s3, s4, rfl⟩
  obtain ⟨z, hz, rfl⟩ := enumP_get hi
  have hzm := List.mem_of_getElem? hz
  have hil : i < xs.length := (List.getElem?_eq_some_iff.mp hz).1
  refine ⟨rfl, w_g2 ?_⟩
  simp only [List.set_cons_zero, List.set_cons_succ]
  refine w_ifX1 (w_not (w_bl (w_call (w_cons (w_var (x := z) rfl (w_nil ⟨z, rfl, item_kn (hx z hzm), ?_⟩))))))
  cases ht : isTripB z with
  | true =>
   refine q_iteF (w_plX1 (w_next ⟨fun x hx' => ?_, _, _, rfl⟩))
   rw [List.take_succ, hz] at hx'
   rcases List.mem_append.mp hx' with h | h
   ·exact hb x h
   ·rw [List.mem_singleton.mp h]; exact ht
  | false =>
   refine q_iteT (w_raiseX1 (w_var rfl ?_))
   have ex : xs = xs.take i ++ z :: xs.drop (i + 1) := by
    obtain ⟨q1, q2⟩ := List.getElem?_eq_some_iff.mp hz
    rw [← q2, List.getElem_cons_drop, List.take_append_drop]
   have hk : badAt 0 xs = some i := by
    have := bad_at (xs := xs.drop (i + 1)) 0 (xs.take i) z hb ht
    rw [← ex, List.length_take, Nat.min_eq_left (by omega), Nat.zero_add] at this
    exact this
   exact hp _ (.bad hs hk)
 rintro η ⟨hb, s3, s4, rfl⟩
 have hel : (enumP xs).length = xs.length := by simp [enumP]
 rw [hel, List.take_length] at hb
 obtain ⟨rs, rfl, hg⟩ := all_rows hx hb
 rw [List.length_map] at hl
 dsimp only
 obtain ⟨us, eus, pus, sus⟩ := sort_any5 (fun {a b} q => le_key5 q) rs
 have gus : ∀ r ∈ us, GoodT r := fun r hr => hg r (pus.mem_iff.mp hr)
 have lus : us.length ≤ 5 := by rw [pus.length_eq]; exact hl
 obtain ⟨n, rfl, n1, n2⟩ := w_int hw hs
 refine w_retX5 (w_newL5 rfl (w_cons (w_var (x := .int n) rfl (w_cons (w_cb (w_cons (w_sort15 (w_var (x := .tup (rs.map rowP)) rfl ⟨?_, ?_, by rw [List.length_map]; omega, ?_⟩))))))))
 ·intro y hy
  obtain ⟨r, _, rfl⟩ := List.mem_map.mp hy
  exact ⟨_, .str r.1, rfl, rfl, rfl⟩
 ·intro d hd d' hd'
  rw [List.map_map] at hd hd'
  obtain ⟨r, _, rfl⟩ := List.mem_map.mp hd
  obtain ⟨r', _, rfl⟩ := List.mem_map.mp hd'
  rfl
 rw [eus]
 refine w_nil (q_tupl ?_)
 refine w_nil ⟨.int n, .tup (us.map rowP), rfl, rfl, .inl rfl, ?_, ?_, ?_, ?_, ?_⟩
 ·refine ⟨.inl rfl, fun ys e => ?_⟩
  cases e
  exact ⟨by rw [List.length_map]; omega, fun x hx => by
   obtain ⟨r, hr, rfl⟩ := List.mem_map.mp hx
   exact item_kn (.inr ⟨r, rfl, gus r hr⟩)⟩
 ·intro m vs em ev m1 m2 hv
  cases em
  have : us = vs := row_inj5 (PV.tup.inj ev)
  subst this
  exact ⟨rfl, _, rfl, hp _ (.line n1 n2 hg pus hv) n us rfl n1 n2 hv⟩
 ·intro h; rw [hs] at h; cases h
 ·intro _ h; cases h
 ·intro ys _ ey hlt
  cases ey
  cases hd : dupN (us.map (·.1)) with
  | none =>
   have hv := made_line gus sus (by omega) hd
   exfalso
   rw [rw_vNT gus hv, List.length_map] at hlt
   exact Nat.lt_irrefl _ hlt
  | some k =>
   obtain ⟨e1, e2⟩ := made_twice gus sus (by omega) hd
   rw [e1]
   rw [names_sorted pus sus] at hd
   exact hp _ (.twice hs hg hd)
end
theorem w_or5 {a b : TTp} {η : EP'} {Q : Bool → EP' → Prop} (h : a η fun c η1 => if c = true then Q true η1 else b η1 Q) : tOrP a b η Q := h
theorem q_ne5 {a b : Int} {Q : PV → Prop} (h : Q (.bl (!decide (a = b)))) : rEqI true (.int a) (.int b) Q := h
theorem q_lenT5 {xs : List PV} {P : PV → Prop} (h : P (.int xs.length)) : rLen [.tup xs] P := h
theorem q_lenL5 {xs : List PV} {P : PV → Prop} (h : P (.int xs.length)) : rLen [.lst xs] P := h
theorem w_gn5 {i : Nat} {x : PV} {η : EP'} {R : EP' → Prop} (h : R (η.set i (.va x))) : gNameP i x η R := h
theorem w_itup5 {te : TEp} {η : EP'} {Q : List PV → EP' → Prop} (h : te η fun x η1 => match x with | .tup xs => Q xs η1 | _ => False) : iTupP te η Q := h
theorem bls_map5 (bs : List Bool) : blsOf (bs.map .bl) = some bs := by
 induction bs with
 | nil => rfl
 | cons b bs ih => rw [List.map_cons, blsOf, ih]; rfl
theorem q_sl15 {n s e : PV} {Q : PV → Prop} (h : Q (.tup [s, e])) : rSlP (.tup [n, s, e]) (some 1) none Q := ⟨by show ¬ (HT.sIx 3 0 (some 1) = 0 ∧ HT.sIx 3 3 none = 3); decide, h⟩
section
variable {K : PySem.W.Frag} {C : Addr} {XC : Str → Addr} {args : List PV} {P : PV → Prop} {PR : PV → Ow → Prop} {o : Ow} {Zw : WC}
theorem trip_no {x : PV} (hk : Kn K x) (hn : isTu x = false ∨ ∃ xs, x = .tup xs ∧ (xs.length ≠ 3 ∨ ∃ y q, xs = y :: q ∧ Kn K y ∧ isSt y = false)) (hp : P (.bl false)) : ts_law_trip K C { nx := fun _ => P .non, rt := fun x _ => P x } (startP 4 [x]) := by
 have e : startP 4 [x] = [.va x, .no, .no, .no] := rfl
 rw [e]
 refine w_seq (w_if (w_or5 (w_not (w_bl (w_cb (w_cons (w_var (x := x) rfl (w_cons (w_con (w_nil (isi_tuple hk ?_)))))))))))
 rcases hn with h | ⟨xs, rfl, h⟩
 ·rw [h]; exact q_iteT (q_iteT (w_ret (w_con hp)))
 ·refine q_iteF (w_or5 (w_bl (w_op (w_cb (w_cons (w_var (x := .tup xs) rfl (w_nil (q_lenT5 (w_con (q_ne5 ?_))))))))))
  rcases h with h | ⟨y, q, rfl, hy, hs⟩
  ·rw [decide_eq_false (by omega)]
   exact q_iteT (q_iteT (w_ret (w_con hp)))
  ·by_cases hl : ((y :: q).length : Int) = 3
   ·rw [decide_eq_true hl]
    refine q_iteF (w_not (w_bl (w_cb (w_cons (w_op (w_var (x := .tup (y :: q)) rfl (w_con (q_ixT (x := y) ?_ (w_cons (w_con (w_nil (isi_str hy ?_)))))))))))) 
    ·obtain ⟨y0, ey0, iy0⟩ := atI_in (xs := y :: q) (k := 0) (by decide) (by omega)
     cases iy0; exact ey0
    ·rw [hs]; exact q_iteT (w_ret (w_con hp))
   ·rw [decide_eq_false hl]
    exact q_iteT (q_iteT (w_ret (w_con hp)))
theorem trip_ints {z : Str} {s e : Int} (hz : z.length ≤ 8) (hp : P (.bl (isTripB (.tup [.str z, .int s, .int e])))) : ts_law_trip K C { nx := fun _ => P .non, rt := fun x _ => P x } (startP 4 [.tup [.str z, .int s, .int e]]) := by
 have e0 : startP 4 [.tup [.str z, .int s, .int e]] = [.va (.tup [.str z, .int s, .int e]), .no, .no, .no] := rfl
 rw [e0]
 have sz : 1000 < sizeLine := by decide
 have ab : (("abcdefghijklmnopqrstuvwxyz" : String) : Str) = abc := by decide +kernel
 refine w_seq (w_if (w_or5 (w_not (w_bl (w_cb (w_cons (w_var (x := .tup [.str z, .int s, .int e]) rfl (w_cons (w_con (w_nil (isi_tuple (.inl rfl) ?_)))))))))))
 refine q_iteF (w_or5 (w_bl (w_op (w_cb (w_cons (w_var (x := .tup [.str z, .int s, .int e]) rfl (w_nil (q_lenT5 (w_con (q_ne5 ?_))))))))))
 refine q_iteF (w_not (w_bl (w_cb (w_cons (w_op (w_var (x := .tup [.str z, .int s, .int e]) rfl (w_con (q_ixT (x := .str z) rfl (w_cons (w_con (w_nil (isi_str (.inl rfl) ?_))))))))))))
 refine q_iteF (w_next ?_)
 dsimp only
 refine w_seq (w_set (w_val (w_lc (show iStrP _ _ _ from w_op (w_var (x := .tup [.str z, .int s, .int e]) rfl (w_con (q_ixT (x := .str z) rfl ?_)))))))
 show ∃ Inv : Nat → List PV → EP' → Prop, _
 have wl : z.length = z.cps.toList.length := by simp [Str.length]
 refine ⟨fun i acc η => acc = ((z.cps.toList.take i).map fun c => decide (c ∈ abc.cps.toList)).map .bl ∧ ∃ s3, η = [.va (.tup [.str z, .int s, .int e]), .no, .no, s3], ⟨rfl, _, rfl⟩, ?_, ?_⟩
 ·rintro i y acc η hi ⟨rfl, s3, rfl⟩
  rw [List.getElem?_map] at hi
  obtain ⟨c, hc, rfl⟩ := Option.map_eq_some_iff.mp hi
  refine w_gname (w_yes (q_iteT (w_op (w_var rfl (w_con (q_inS ⟨?_, ?_, _, rfl⟩))))))
  ·rw [List.length_map, List.length_map, List.length_take]; omega
  ·rw [take_map hc, List.map_append, ab]; rfl
 rintro acc η ⟨rfl, s3, rfl⟩
 rw [List.length_map, List.take_length]
 simp only [List.set_cons_zero, List.set_cons_succ]
 obtain ⟨bs, hbs⟩ : ∃ bs, bs = z.cps.toList.map fun c => decide (c ∈ abc.cps.toList) := ⟨_, rfl⟩
 rw [← hbs]
 have bl : bs.length = z.length := by rw [hbs, List.length_map, wl]
 have nm : isNm (.str z) = (decide (1 ≤ z.length) && (decide (z.length ≤ 8) && bs.all id)) := by
  rw [hbs, List.all_map]; rfl
 refine w_seq (w_if (w_or5 (w_not (w_bl (w_chain (w_con (w_cb (w_cons (w_var (x := .lst (bs.map .bl)) rfl (w_nil (q_lenL5 (q_lt ⟨_, rfl, ?_⟩))))))))))))
 rw [List.length_map, bl]
 by_cases c0 : (0 : Int) < (z.length : Int)
 ·rw [decide_eq_true c0]
  refine q_iteT (w_con (q_lt ?_))
  rw [decide_eq_true (show (z.length : Int) < 9 by omega)]
  refine q_iteF (w_not (w_bl (w_cb (w_cons (w_var (x := .lst (bs.map .bl)) rfl (w_nil (q_all (bls_map5 bs) ?_)))))))
  cases ha : bs.all id with
  | false =>
   have : isTripB (.tup [.str z, .int s, .int e]) = false := by
    show (isNm (.str z) && _) = false
    rw [nm, ha, Bool.and_false, Bool.and_false]; rfl
   rw [this] at hp
   exact q_iteT (w_ret (w_con hp))
  | true =>
   refine q_iteF (w_next ?_)
   dsimp only
   have nm1 : isNm (.str z) = true := by
    rw [nm, ha, decide_eq_true (show 1 ≤ z.length by omega), decide_eq_true hz]; rfl
   refine w_seq (w_for (w_itup5 (w_slice (w_var (x := .tup [.str z, .int s, .int e]) rfl (w_part (w_con (w_nop (q_sl15 ?_))))))))
   refine ⟨fun i η => ∃ s2 s3, η = [.va (.tup [.str z, .int s, .int e]), .va (.lst (bs.map .bl)), s2, s3], ⟨_, _, rfl⟩, ?_, ?_⟩
   ·rintro i y η hi ⟨s2, s3, rfl⟩
    have hy : ∃ j : Int, y = .int j := by
     have := List.mem_of_getElem? hi
     simp only [List.mem_cons, List.not_mem_nil, or_false] at this
     rcases this with rfl | rfl <;> exact ⟨_, rfl⟩
    obtain ⟨j, rfl⟩ := hy
    refine w_gn5 ?_
    simp only [List.set_cons_zero, List.set_cons_succ]
    refine w_if (w_or5 (w_not (w_bl (w_cb (w_cons (w_var (x := .int j) rfl (w_cons (w_con (w_nil (isi_int (.inl rfl) ?_))))))))))
    refine q_iteF (w_bl (w_cb (w_cons (w_var (x := .int j) rfl (w_cons (w_con (w_nil (isi_bool (.inl rfl) ?_))))))))
    exact q_iteF (w_next ⟨_, _, rfl⟩)
   ·rintro η ⟨s2, s3, rfl⟩
    dsimp only
    have tb : isTripB (.tup [.str z, .int s, .int e]) = (decide (0 ≤ s) && decide (s < e)) := by
     show (isNm (.str z) && (isStn (.int s) && latB (.int e) (.int s))) = _
     rw [nm1]; rfl
    rw [tb] at hp
    refine w_ret (w_chain (w_con (w_op (w_var (x := .tup [.str z, .int s, .int e]) rfl (w_con (q_ixT (x := .int s) rfl (q_le ⟨_, rfl, ?_⟩)))))))
    by_cases cs : 0 ≤ s
    ·rw [decide_eq_true cs] at hp ⊢
     exact q_iteT (w_op (w_var (x := .tup [.str z, .int s, .int e]) rfl (w_con (q_ixT (x := .int e) rfl (q_lt hp)))))
    ·rw [decide_eq_false cs] at hp ⊢
     exact q_iteF hp
 ·rw [decide_eq_false c0]
  have : isTripB (.tup [.str z, .int s, .int e]) = false := by
   show (isNm (.str z) && _) = false
   rw [nm, decide_eq_false (show ¬ 1 ≤ z.length by omega)]; rfl
  rw [this] at hp
  exact q_iteF (q_iteT (w_ret (w_con hp)))
theorem trip_bl (hp : P (.bl false)) : ts_law_trip K C { nx := fun _ => P .non, rt := fun x _ => P x } (startP 4 [.tup [.str ("a" : Str), .bl true, .int 2]]) := by
 have e0 : startP 4 [.tup [.str ("a" : Str), .bl true, .int 2]] = [.va (.tup [.str ("a" : Str), .bl true, .int 2]), .no, .no, .no] := rfl
 rw [e0]
 have sz : 1000 < sizeLine := by decide
 refine w_seq (w_if (w_or5 (w_not (w_bl (w_cb (w_cons (w_var (x := .tup [.str ("a" : Str), .bl true, .int 2]) rfl (w_cons (w_con (w_nil (isi_tuple (.inl rfl) ?_)))))))))))
 refine q_iteF (w_or5 (w_bl (w_op (w_cb (w_cons (w_var (x := .tup [.str ("a" : Str), .bl true, .int 2]) rfl (w_nil (q_lenT5 (w_con (q_ne5 ?_))))))))))
 refine q_iteF (w_not (w_bl (w_cb (w_cons (w_op (w_var (x := .tup [.str ("a" : Str), .bl true, .int 2]) rfl (w_con (q_ixT (x := .str ("a" : Str)) rfl (w_cons (w_con (w_nil (isi_str (.inl rfl) ?_))))))))))))
 refine q_iteF (w_next ?_)
 dsimp only
 refine w_seq (w_set (w_val (w_lc (show iStrP _ _ _ from w_op (w_var (x := .tup [.str ("a" : Str), .bl true, .int 2]) rfl (w_con (q_ixT (x := .str ("a" : Str)) rfl ?_)))))))
 show ∃ Inv : Nat → List PV → EP' → Prop, _
 have e97 : ("a" : Str).cps.toList = [97] := by decide +kernel
 have ab : (97 : Nat) ∈ (("abcdefghijklmnopqrstuvwxyz" : String) : Str).cps.toList := by decide +kernel
 rw [e97]
 refine ⟨fun i acc η => acc = (List.replicate i (.bl true)) ∧ ∃ s3, η = [.va (.tup [.str ("a" : Str), .bl true, .int 2]), .no, .no, s3], ⟨rfl, _, rfl⟩, ?_, ?_⟩
 ·rintro i y acc η hi ⟨rfl, s3, rfl⟩
  have hi1 : i < 1 := (List.getElem?_eq_some_iff.mp hi).1
  have hy := List.mem_of_getElem? hi
  simp only [List.map_cons, List.map_nil, List.mem_cons, List.not_mem_nil, or_false] at hy
  subst hy
  refine w_gname (w_yes (q_iteT (w_op (w_var rfl (w_con (q_inS ⟨?_, ?_, _, rfl⟩))))))
  ·rw [List.length_replicate]; omega
  ·rw [decide_eq_true ab, List.replicate_succ']
 rintro acc η ⟨rfl, s3, rfl⟩
 simp only [List.set_cons_zero, List.set_cons_succ]
 refine w_seq (w_if (w_or5 (w_not (w_bl (w_chain (w_con (w_cb (w_cons (w_var (x := .lst [.bl true]) rfl (w_nil (q_lenL5 (q_lt ⟨_, rfl, ?_⟩))))))))))))
 refine q_iteT (w_con (q_lt ?_))
 refine q_iteF (w_not (w_bl (w_cb (w_cons (w_var (x := .lst [.bl true]) rfl (w_nil (q_all (bs := [true]) rfl ?_)))))))
 refine q_iteF (w_next ?_)
 dsimp only
 refine w_seq (w_for (w_itup5 (w_slice (w_var (x := .tup [.str ("a" : Str), .bl true, .int 2]) rfl (w_part (w_con (w_nop (q_sl15 ?_))))))))
 refine ⟨fun i η => i = 0 ∧ η = [.va (.tup [.str ("a" : Str), .bl true, .int 2]), .va (.lst [.bl true]), .no, s3], ⟨rfl, rfl⟩, ?_, ?_⟩
 ·rintro i y η hi ⟨rfl, rfl⟩
  have hy : y = .bl true := (Option.some.inj hi).symm
  subst hy
  refine w_gn5 ?_
  simp only [List.set_cons_zero, List.set_cons_succ]
  refine w_if (w_or5 (w_not (w_bl (w_cb (w_cons (w_var (x := .bl true) rfl (w_cons (w_con (w_nil (isi_int (.inl rfl) ?_))))))))))
  refine q_iteF (w_bl (w_cb (w_cons (w_var (x := .bl true) rfl (w_cons (w_con (w_nil (isi_bool (.inl rfl) ?_))))))))
  exact q_iteT (w_ret (w_con hp))
 ·rintro η ⟨h, rfl⟩
  cases h
theorem rd_law_trip (h : sp_law_trip K C args P) : ts_law_trip K C { nx := fun _ => P .non, rt := fun x _ => P x } (startP 4 args) := by
 obtain ⟨x, rfl, hx, hp⟩ := h
 rcases hx with h | ⟨r, rfl, hr⟩
 ·rw [odd_trip x h] at hp
  simp only [odd05, List.mem_cons, List.not_mem_nil, or_false] at h
  rcases h with rfl | rfl | rfl | rfl | rfl | rfl | rfl | rfl | rfl | rfl
  ·exact trip_no (.inl rfl) (.inl rfl) hp
  ·exact trip_no (.inl rfl) (.inl rfl) hp
  ·exact trip_no (.inl rfl) (.inr ⟨_, rfl, .inl (by decide)⟩) hp
  ·exact trip_no (.inl rfl) (.inr ⟨_, rfl, .inl (by simp)⟩) hp
  ·exact trip_no (.inl rfl) (.inl rfl) hp
  ·exact trip_ints (by decide +kernel) (by rw [odd_trip _ (by simp [odd05])]; exact hp)
  ·exact trip_ints (by decide +kernel) (by rw [odd_trip _ (by simp [odd05])]; exact hp)
  ·exact trip_bl hp
  ·exact trip_no (.inl rfl) (.inr ⟨_, rfl, .inr ⟨_, _, rfl, .inl rfl, rfl⟩⟩) hp
  ·exact trip_no (.inl rfl) (.inl rfl) hp
 ·obtain ⟨_, g⟩ := Bool.and_eq_true_iff.mp hr.nm
  exact trip_ints (of_decide_eq_true (Bool.and_eq_true_iff.mp g).1) hp
end
def badL : Nat → List PV → List Int
 | _, [] => []
 | i, x :: xs => (if isTripB x = true then [] else [(i : Int)]) ++ badL (i + 1) xs
theorem badL_snoc (x : PV) : ∀ (xs : List PV) (i : Nat), badL i (xs ++ [x]) = badL i xs ++ if isTripB x = true then [] else [((i + xs.length : Nat) : Int)]
 | [], i => by show (if isTripB x = true then [] else [(i : Int)]) ++ [] = _; rw [List.append_nil]; rfl
 | y :: xs, i => by
  rw [List.cons_append, badL, badL, badL_snoc x xs (i + 1), List.append_assoc, List.length_cons, show i + 1 + xs.length = i + (xs.length + 1) by omega]
theorem badL_at : ∀ (xs : List PV) (i : Nat), (badAt i xs = none → badL i xs = []) ∧ ∀ k, badAt i xs = some k → ∃ t, badL i xs = (k : Int) :: t
 | [], _ => ⟨fun _ => rfl, fun _ h => by cases h⟩
 | x :: xs, i => by
  rw [badAt, badL]
  by_cases h : isTripB x = true
  ·rw [if_pos h, if_pos h]; exact badL_at xs (i + 1)
  ·rw [if_neg h, if_neg h]
   exact ⟨fun z => (by cases z), fun k z => (by cases z; exact ⟨_, rfl⟩)⟩
def dupL : Nat → Str → List Str → List Int
 | _, _, [] => []
 | i, b, w :: ws => (if w = b then [(i : Int)] else []) ++ dupL (i + 1) w ws
theorem dupL_snoc (w : Str) : ∀ (ws : List Str) (i : Nat) (b : Str), dupL i b (ws ++ [w]) = dupL i b ws ++ if w = (b :: ws).getLast (by simp) then [((i + ws.length : Nat) : Int)] else []
 | [], i, b => by show (if w = b then [(i : Int)] else []) ++ [] = _; rw [List.append_nil]; rfl
 | v :: ws, i, b => by
  rw [List.cons_append, dupL, dupL, dupL_snoc w ws (i + 1) v, List.append_assoc, List.length_cons, show i + 1 + ws.length = i + (ws.length + 1) by omega]
  have e : (b :: v :: ws).getLast (by simp) = (v :: ws).getLast (by simp) := rfl
  rw [e]
theorem dupL_go : ∀ (ws : List Str) (i : Nat) (b : Str), (dupGo i b ws = none → dupL i b ws = []) ∧ ∀ k, dupGo i b ws = some k → ∃ t, dupL i b ws = (k : Int) :: t
 | [], _, _ => ⟨fun _ => rfl, fun _ h => by cases h⟩
 | w :: ws, i, b => by
  rw [dupGo, dupL]
  by_cases h : w = b
  ·rw [if_pos h, if_pos h]
   exact ⟨fun z => (by cases z), fun k z => (by cases z; exact ⟨_, rfl⟩)⟩
  ·rw [if_neg h, if_neg h]; exact dupL_go ws (i + 1) w
def twL : List Str → List Int
 | [] => []
 | w :: ws => dupL 1 w ws
theorem twL_at (ws : List Str) : (dupN ws = none → twL ws = []) ∧ ∀ k, dupN ws = some k → ∃ t, twL ws = (k : Int) :: t := by
 cases ws with
 | nil => exact ⟨fun _ => rfl, fun _ h => by cases h⟩
 | cons w ws => exact dupL_go ws 1 w
theorem twL_snoc {ws : List Str} {v w : Str} {k : Nat} (hv : ws[k]? = some v) (hl : ws.length = k + 1) : twL (ws ++ [w]) = twL ws ++ if w = v then [((1 + k : Nat) : Int)] else [] := by
 cases ws with
 | nil => cases hv
 | cons u us =>
  show dupL 1 u (us ++ [w]) = dupL 1 u us ++ _
  rw [dupL_snoc]
  have e : (u :: us).getLast (by simp) = v := by
   rw [List.getLast_eq_getElem]
   have := (List.getElem?_eq_some_iff.mp hv).2
   rw [← this]
   congr 1
   rw [hl]; rfl
  rw [e]
  rw [List.length_cons] at hl
  rw [show us.length = k by omega]
theorem toDs_intsA5 : ∀ ns : List Int, toDs (ns.map .int) = some (ns.map PyData.int)
 | [] => rfl
 | n :: ns => by rw [List.map_cons, toDs, toDs_intsA5 ns]; rfl
theorem canLay_ints5 : ∀ ns : List Int, PyData.canLayAll0 (ns.map PyData.int) = true
 | [] => rfl
 | n :: ns => by rw [List.map_cons, PyData.canLayAll0, canLay_ints5 ns]; rfl
theorem depth_ints5 : ∀ ns : List Int, PyData.depthAll (ns.map PyData.int) ≤ 1
 | [] => by simp [PyData.depthAll]
 | n :: ns => by
  have := depth_ints5 ns
  rw [List.map_cons, PyData.depthAll, PyData.depth]
  omega
theorem shaped_ints5 (ns : List Int) : SeqAt.shaped (.list (ns.map PyData.int)) = true := by
 unfold SeqAt.shaped
 have := depth_ints5 ns
 rw [PyData.canLay0, canLay_ints5, Bool.true_and]
 refine decide_eq_true ?_
 rw [PyData.depth]
 omega
theorem toD_ints5 (ns : List Int) : toD (.lst (ns.map .int)) = some (.list (ns.map PyData.int)) := by rw [toD, toDs_intsA5]; rfl
theorem q_ints5 {neg : Bool} {l : List Int} {P : PV → Prop} (h : P (.bl (if l = [] then !neg else neg))) : rEqP neg (.lst (l.map .int)) (.lst []) P := by
 refine ⟨.list (l.map PyData.int), .list [], toD_ints5 l, rfl, shaped_ints5 l, shaped_ints5 [], ?_⟩
 have e : PyData.eqv (.list (l.map PyData.int)) (.list []) = decide (l = []) := by
  cases l with
  | nil => rfl
  | cons b bs => rw [List.map_cons, PyData.eqv, PyData.eqvAll]; rfl
 rw [e]
 cases l <;> cases neg <;> exact h
theorem q_sort5 {rows : List Trip} {P : PV → Prop} (hl : rows.length ≤ 24) (h : ∀ us : List Trip, us.Perm rows → (us.Pairwise fun a b => leNm a.1 b.1 = true) → P (.lst (us.map rowP))) : rSortD [.lst (rows.map rowP)] P := by
 refine ⟨_, toDs_rows rows, alike_rows rows, .inl fun d hd => ?_, fun x hx => ?_, ?_, ?_⟩
 ·obtain ⟨a, _, rfl⟩ := List.mem_map.mp hd
  exact ⟨_, _, rfl⟩
 ·obtain ⟨a, _, rfl⟩ := List.mem_map.mp hx
  show (PyData.tuple [.str a.1, .int a.2.1, .int a.2.2]).depth ≤ 50
  simp [PyData.depth, PyData.depthAll]
 ·have : 24 ≤ sizeLine := by decide
  rw [List.length_map]; omega
 ·obtain ⟨us, e, p, s⟩ := sort_any5 (k := encD) (fun {a b} q => le_row5 q) rows
  rw [e]; exact h us p s
theorem w_ifE5 {c : TTp} {ta tb : TEp} {η : EP'} {Q : PV → EP' → Prop} (h : c η fun b η1 => if b = true then ta η1 Q else tb η1 Q) : tIfP c ta tb η Q := h
theorem w_rng25 {te tb : TEp} {η : EP'} {Q : List PV → EP' → Prop} (h : te η fun x η1 => tb η1 fun y η2 => match x, y with
 | .int i, .int j => -(2 ^ 62) ≤ i ∧ i < 2 ^ 62 ∧ -(2 ^ 62) ≤ j ∧ j < 2 ^ 62 ∧ Q (rangeP i (j - i).toNat) η2
 | _, _ => False) : iRng2P te tb η Q := h
theorem q_eqS5 {a b : Str} {Q : PV → Prop} (h : Q (.bl (decide (a = b)))) : rEqI false (.str a) (.str b) Q := h
theorem at5 {xs : List PV} {k : Nat} {x : PV} (h : xs[k]? = some x) : atI xs (k : Int) = some x := by
 have hl := (List.getElem?_eq_some_iff.mp h).1
 obtain ⟨y, h1, h2⟩ := atI_in (xs := xs) (k := (k : Int)) (by omega) (by omega)
 rw [Int.toNat_natCast, h] at h2
 rw [h1, h2]
theorem len5 {xs : List PV} (h : decide (xs.length ≤ 1000) = true) : xs.length ≤ sizeLine := Nat.le_trans (of_decide_eq_true h) (by decide)
section
variable {K : PySem.W.Frag} {C : Addr} {XC : Str → Addr} {args : List PV} {P : PV → Prop} {PR : PV → Ow → Prop} {o : Ow} {Zw : WC}
theorem seats_test {w : PV} (hw : W05 w) {η : EP'} {Q : Bool → EP' → Prop} (e : η[0]? = some (.va w)) (h : Q (!seatsB w) η) : tOrP (tNotP (tBlP (tCBP (rIsI K) (tConsP (tVarP 0) (tConsP (tConP (.raw (.ty "int"))) (tNilP)))))) (tOrP (tBlP (tCBP (rIsI K) (tConsP (tVarP 0) (tConsP (tConP (.raw (.ty "bool"))) (tNilP))))) (tNotP (tBlP (tChainP rLt rLt (tConP (.int 0)) (tVarP 0) (tConP (.int 21)))))) η Q := by
 have kn : Kn K w := w_kn hw
 have i2 : (10 : Nat) < 20 := by decide
 refine w_or5 (w_not (w_bl (w_cb (w_cons (w_var (x := w) e (w_cons (w_con (w_nil (isi_int kn ?_)))))))))
 have hI : ∀ n : Int, w = .int n → (if (!isIb w) = true then Q true η else tOrP (tBlP (tCBP (rIsI K) (tConsP (tVarP 0) (tConsP (tConP (.raw (.ty "bool"))) (tNilP))))) (tNotP (tBlP (tChainP rLt rLt (tConP (.int 0)) (tVarP 0) (tConP (.int 21))))) η Q) := fun n en => by
  subst en
  refine q_iteF (w_or5 (w_bl (w_cb (w_cons (w_var (x := .int n) e (w_cons (w_con (w_nil (isi_bool kn ?_)))))))))
  refine q_iteF (w_not (w_bl (w_chain (w_con (w_var (x := .int n) e (q_lt ⟨_, rfl, ?_⟩))))))
  have es : seatsB (.int n) = (decide (1 ≤ n) && decide (n ≤ 20)) := rfl
  by_cases c : 0 < n
  ·rw [decide_eq_true c]
   refine q_iteT (w_con (q_lt ?_))
   rw [es, decide_eq_true (show 1 ≤ n by omega), Bool.true_and] at h
   rw [show decide (n < 21) = decide (n ≤ 20) from decide_eq_decide.mpr (by omega)]
   exact h
  ·rw [decide_eq_false c]
   rw [es, decide_eq_false (show ¬ 1 ≤ n by omega), Bool.false_and] at h
   exact q_iteF h
 rcases hw with ⟨n, rfl, h1, h2⟩ | hm
 ·exact hI n rfl
 ·simp only [List.mem_cons, List.not_mem_nil, or_false] at hm
  rcases hm with rfl | rfl | rfl | rfl | rfl | rfl
  ·exact q_iteT h
  ·exact hI 0 rfl
  ·exact hI 21 rfl
  ·refine q_iteF (w_or5 (w_bl (w_cb (w_cons (w_var (x := .bl true) e (w_cons (w_con (w_nil (isi_bool kn ?_)))))))))
   exact q_iteT h
  ·exact q_iteT h
  ·exact q_iteT h
theorem rd_law_due (h : sp_law_due K C args P) : ts_law_due K C { nx := fun _ => P .non, rt := fun x _ => P x } (startP 6 args) := by
 obtain ⟨w, xs, rfl, hw, hx, hl, hp⟩ := h
 have e : startP 6 [w, .lst xs] = [.va w, .va (.lst xs), .no, .no, .no, .no] := rfl
 rw [e]
 have sz : 1000 < sizeLine := by decide
 refine w_seq (w_if (seats_test hw rfl ?_))
 cases hs : seatsB w with
 | false => exact q_iteT (w_ret (w_lst (w_cons (w_con (w_cons (w_var (x := w) rfl (w_nil ⟨len5 rfl, hp _ (.seats hs)⟩)))))))
 | true =>
 refine q_iteF (w_next ?_)
 dsimp only
 refine w_seq (w_set (w_val (w_lc (w_rng1 (w_cb (w_cons (w_var (x := .lst xs) rfl (w_nil (q_lenL5 ⟨by omega, by omega, ?_⟩)))))))))
 refine ⟨fun i acc η => acc = (badL 0 (xs.take i)).map .int ∧ (badL 0 (xs.take i)).length ≤ i ∧ ∃ s5, η = [.va w, .va (.lst xs), .no, .no, .no, s5], ⟨rfl, Nat.le_refl _, _, rfl⟩, ?_, ?_⟩
 ·rintro i y acc η hi ⟨rfl, hbl, s5, rfl⟩
  obtain ⟨hin, rfl⟩ := rangeP_get hi
  have hin : i < xs.length := hin
  obtain ⟨z, hz⟩ : ∃ z, xs[i]? = some z := ⟨xs[i], List.getElem?_eq_getElem hin⟩
  have hb := badL_snoc z (xs.take i) 0
  rw [List.length_take, Nat.min_eq_left (by omega), Nat.zero_add] at hb
  have et : xs.take (i + 1) = xs.take i ++ [z] := by rw [List.take_succ, hz]; rfl
  refine w_gname (w_not (w_bl (w_call (w_cons (w_op (w_var (x := .lst xs) rfl (w_var rfl (q_ix (x := z) ?_ (w_nil ⟨z, rfl, hx z (List.mem_of_getElem? hz), ?_⟩))))))))) 
  ·rw [Int.zero_add]; exact at5 hz
  cases ht : isTripB z with
  | true =>
   rw [ht, if_pos rfl, List.append_nil] at hb
   exact q_iteF ⟨by rw [et, hb], by rw [et, hb]; omega, _, rfl⟩
  | false =>
   rw [ht, if_neg (by simp)] at hb
   refine q_iteT (w_var rfl ⟨?_, ?_, ?_, _, rfl⟩)
   ·rw [List.length_map]; omega
   ·rw [et, hb, List.map_append, Int.zero_add]; rfl
   ·rw [et, hb, List.length_append]; show _ + 1 ≤ i + 1; omega
 rintro acc η ⟨rfl, _, s5, rfl⟩
 have er : (rangeP 0 xs.length).length = xs.length := rangeP_len
 have ez : (rangeP 0 ((xs.length : Int)).toNat).length = xs.length := by rw [Int.toNat_natCast]; exact er
 rw [ez, List.take_length]
 simp only [List.set_cons_zero, List.set_cons_succ]
 refine w_seq (w_if (w_bl (w_op (w_var (x := .lst ((badL 0 xs).map .int)) rfl (w_lst (w_nil ⟨len5 rfl, q_ints5 ?_⟩))))))
 cases hb : badAt 0 xs with
 | some k =>
  obtain ⟨t, et⟩ := (badL_at xs 0).2 k hb
  rw [et, if_neg (by simp)]
  refine q_iteT (w_ret (w_lst (w_cons (w_con (w_cons (w_op (w_var (x := .lst (((k : Int) :: t).map .int)) rfl (w_con (q_ix (x := .int k) ?_ (w_nil ⟨len5 rfl, hp _ (.bad hs hb)⟩))))))))))
  exact at5 (k := 0) rfl
 | none =>
 rw [(badL_at xs 0).1 hb, if_pos rfl]
 refine q_iteF (w_next ?_)
 dsimp only
 obtain ⟨rs, rfl, hg⟩ := items_rows xs hx hb
 rw [List.length_map] at hl
 refine w_seq (w_set (w_cb (w_cons (w_var (x := .lst (rs.map rowP)) rfl (w_nil (q_sort5 (by omega) fun us pus sus => ?_))))))
 simp only [List.set_cons_zero, List.set_cons_succ]
 have lus : us.length ≤ 5 := by rw [pus.length_eq]; exact hl
 have gus : ∀ r ∈ us, GoodT r := fun r hr => hg r (pus.mem_iff.mp hr)
 refine w_seq (w_set (w_val (w_lc (w_rng25 (w_con (w_cb (w_cons (w_var (x := .lst (us.map rowP)) rfl (w_nil (q_lenL5 ⟨by decide, by decide, by omega, ?_, ?_⟩))))))))))
 ·rw [List.length_map]; omega
 rw [List.length_map]
 refine ⟨fun i acc η => acc = (twL ((us.take (1 + i)).map (·.1))).map .int ∧ (twL ((us.take (1 + i)).map (·.1))).length ≤ i ∧ ∃ s5, η = [.va w, .va (.lst (rs.map rowP)), .va (.lst []), .va (.lst (us.map rowP)), .no, s5], ⟨?_, ?_, _, rfl⟩, ?_, ?_⟩
 ·cases us <;> rfl
 ·cases us <;> exact Nat.le_refl _
 ·rintro i y acc η hi ⟨rfl, hbl, s5, rfl⟩
  obtain ⟨hin, rfl⟩ := rangeP_get hi
  have hk : 1 + i < us.length := by omega
  obtain ⟨r, hr⟩ : ∃ r, us[1 + i]? = some r := ⟨us[1 + i], List.getElem?_eq_getElem hk⟩
  obtain ⟨q, hq⟩ : ∃ q, us[i]? = some q := ⟨us[i], List.getElem?_eq_getElem (by omega)⟩
  have et : us.take (1 + (i + 1)) = us.take (1 + i) ++ [r] := by rw [show 1 + (i + 1) = 1 + i + 1 by omega, List.take_succ, hr]; rfl
  have tw := twL_snoc (ws := (us.take (1 + i)).map (·.1)) (v := q.1) (w := r.1) (k := i) (by rw [List.getElem?_map, List.getElem?_take, if_pos (by omega), hq]; rfl) (by rw [List.length_map, List.length_take, Nat.min_eq_left (by omega)]; omega)
  have es : (us.take (1 + (i + 1))).map (·.1) = (us.take (1 + i)).map (·.1) ++ [r.1] := by rw [et, List.map_append]; rfl
  have a1 : atI (us.map rowP) ((1 : Int) + (i : Int)) = some (rowP r) := by
   have := at5 (xs := us.map rowP) (k := 1 + i) (x := rowP r) (by rw [List.getElem?_map, hr]; rfl)
   rw [← this]; congr 1
  have a2 : atI (us.map rowP) ((1 : Int) + (i : Int) - 1) = some (rowP q) := by
   have := at5 (xs := us.map rowP) (k := i) (x := rowP q) (by rw [List.getElem?_map, hq]; rfl)
   rw [← this]; congr 1; omega
  refine w_gname (w_bl (w_op (w_op (w_op (w_var (x := .lst (us.map rowP)) rfl (w_var rfl (q_ix a1 (w_con (q_ixT (x := .str r.1) rfl ?_)))))))))
  refine w_op (w_op (w_var (x := .lst (us.map rowP)) rfl (w_op (w_var rfl (w_con (q_sub (q_ix a2 (w_con (q_ixT (x := .str q.1) rfl (q_eqS5 ?_))))))))))
  by_cases c : r.1 = q.1
  ·rw [if_pos c] at tw
   rw [decide_eq_true c]
   refine q_iteT (w_var rfl ⟨?_, ?_, ?_, _, rfl⟩)
   ·rw [List.length_map]; omega
   ·rw [es, tw, List.map_append]; rfl
   ·rw [es, tw, List.length_append]; show _ + 1 ≤ i + 1; omega
  ·rw [if_neg c, List.append_nil] at tw
   rw [decide_eq_false c]
   exact q_iteF ⟨by rw [es, tw], by rw [es, tw]; omega, _, rfl⟩
 rintro acc η ⟨rfl, _, s5, rfl⟩
 rw [rangeP_len, List.take_of_length_le (by omega)]
 simp only [List.set_cons_zero, List.set_cons_succ]
 have nme := names_sorted pus sus
 refine w_ret (w_ifE5 (w_bl (w_op (w_var (x := .lst ((twL (us.map (·.1))).map .int)) rfl (w_lst (w_nil ⟨len5 rfl, q_ints5 ?_⟩))))))
 cases hd : dupN (us.map (·.1)) with
 | some k =>
  obtain ⟨t, et⟩ := (twL_at (us.map (·.1))).2 k hd
  rw [et, if_neg (by simp)]
  rw [nme] at hd
  refine q_iteT (w_lst (w_cons (w_con (w_cons (w_op (w_var (x := .lst (((k : Int) :: t).map .int)) rfl (w_con (q_ix (x := .int k) ?_ (w_nil ⟨len5 rfl, hp _ (.twice hs hg hd)⟩)))))))))
  exact at5 (k := 0) rfl
 | none =>
  rw [(twL_at (us.map (·.1))).1 hd, if_pos rfl]
  obtain ⟨n, rfl, n1, n2⟩ := w_int hw hs
  refine q_iteF (w_lst (w_cons (w_con (w_cons (w_lst (w_cons (w_var (x := .int n) rfl (w_cons (w_cb (w_cons (w_var (x := .lst (us.map rowP)) rfl (w_nil (q_tupl ?_))))))))))))) 
  exact w_nil ⟨len5 rfl, w_nil ⟨len5 rfl, hp _ (.line n1 n2 hg pus (made_line gus sus (by omega) hd))⟩⟩
end
section
variable {K : PySem.W.Frag} {C : Addr} {args : List PV} {P : PV → Prop} {PF : List PV → Prop} {PR : PV → Ow → Prop} {o : Ow}
def Told05 (C : Addr) (w : PV) (xs : List PV) (t : PV) : Prop := (∃ k y, t = .lst [.str k, y] ∧ k ≠ ("returned" : Str) ∧ Made w xs t) ∨ ∃ n us, t = .lst [.str ("returned" : Str), lineP C n us] ∧ 1 ≤ n ∧ n ≤ 20 ∧ Rw us ∧ Near us ∧ Made w xs (.lst [.str ("returned" : Str), .lst [.int n, rowsP us]])
theorem she_pair5 {a b : PV} {m k : Nat} (ha : ShE a m k) (hb : ShE b m k) : ShE (.lst [a, b]) (2 * (m + 1)) (k + 1) :=
 she_lst (fun u hu => by
  simp only [List.mem_cons, List.not_mem_nil, or_false] at hu
  rcases hu with rfl | rfl
  ·exact ha
  ·exact hb) (Nat.le_refl _)
theorem badAt_le : ∀ (xs : List PV) (i k : Nat), badAt i xs = some k → k < i + xs.length
 | [], _, _, h => by cases h
 | x :: xs, i, k, h => by
  rw [badAt] at h
  rw [List.length_cons]
  split at h
  ·have := badAt_le xs (i + 1) k h; omega
  ·cases h; omega
theorem dup_le : ∀ (ws : List Str) (i k : Nat) (b : Str), dupGo i b ws = some k → k < i + ws.length
 | [], _, _, _, h => by cases h
 | w :: ws, i, k, b, h => by
  rw [dupGo] at h
  rw [List.length_cons]
  split at h
  ·cases h; omega
  ·have := dup_le ws (i + 1) k w h; omega
theorem dupN_le {ws : List Str} {k : Nat} (h : dupN ws = some k) : k ≤ ws.length := by
 cases ws with
 | nil => cases h
 | cons w ws => have := dup_le ws 1 k w h; rw [List.length_cons]; omega
theorem she_nm5 {w : Str} (h : isNm (.str w) = true) : ShE (.str w) 9 0 := by
 obtain ⟨_, g⟩ := Bool.and_eq_true_iff.mp h
 obtain ⟨g1, g2⟩ := Bool.and_eq_true_iff.mp g
 refine she_str (fun c hc => ?_) (by have := of_decide_eq_true g1; omega)
 have hm := of_decide_eq_true (List.all_eq_true.mp g2 c hc)
 have all : ∀ d ∈ abc.cps.toList, d < 16 ^ 8 := by decide +kernel
 exact all c hm
theorem she_rows5 {us : List Trip} (hg : ∀ r ∈ us, GoodT r) (hl : us.length ≤ 5) : ShE (.tup (us.map rowP)) (5 * (3 * 10 + 1)) 2 := by
 refine she_tup (fun v hv => ?_) (by rw [List.length_map]; exact hl)
 obtain ⟨r, hr, rfl⟩ := List.mem_map.mp hv
 obtain ⟨h1, h2, h3, h4⟩ := hg r hr
 have b60 : (10 : Int) ^ 40 ≤ 10 ^ 60 := by decide
 refine (she_tup (m := 9) (k := 0) (l := 3) (fun u hu => ?_) (Nat.le_refl _)).mono (by decide) (by decide)
 simp only [List.mem_cons, List.not_mem_nil, or_false] at hu
 rcases hu with rfl | rfl | rfl
 ·exact she_nm5 h1
 ·exact (she_int h2 (by omega)).mono (by decide) (by decide)
 ·exact (she_int (by omega) (by omega)).mono (by decide) (by decide)
theorem made_she {w v : PV} {xs : List PV} (hw : W05 w) (hl : xs.length ≤ 5) (h : Made w xs v) : ShE v 20000 11 := by
 have kk : ∀ s : Str, s ∈ ([("seats" : Str), ("trips" : Str), ("returned" : Str)] : List Str) → ShE (.str s) 1000 5 := fun s hs => by
  have hc : ∀ s ∈ ([("seats" : Str), ("trips" : Str), ("returned" : Str)] : List Str), (∀ c ∈ s.cps.toList, c < 16 ^ 8) ∧ s.length ≤ 1000 := by decide +kernel
  exact (she_str (m := 1000) (hc s hs).1 (hc s hs).2).mono (Nat.le_refl _) (by decide)
 have i60 : (30 : Int) < 10 ^ 60 := by decide
 have ni : ∀ k : Nat, k ≤ 10 → ShE (.int (k : Int)) 1000 5 := fun k hk => (she_int (by omega) (by omega)).mono (by decide) (by decide)
 cases h with
 | seats hs =>
  refine (she_pair5 (kk _ (by simp)) (?_ : ShE w 1000 5)).mono (by decide) (by decide)
  rcases hw with ⟨n, rfl, h1, h2⟩ | hm
  ·exact (she_int (by omega) (by omega)).mono (by decide) (by decide)
  ·simp only [List.mem_cons, List.not_mem_nil, or_false] at hm
   rcases hm with rfl | rfl | rfl | rfl | rfl | rfl
   ·exact she_non.mono (by decide) (by decide)
   ·exact (she_int (by decide) (by decide)).mono (by decide) (by decide)
   ·exact (she_int (by decide) (by decide)).mono (by decide) (by decide)
   ·exact (she_bl _).mono (by decide) (by decide)
   ·exact (she_str (m := 10) (by decide +kernel) (by decide +kernel)).mono (by decide) (by decide)
   ·exact she_dic0.mono (by decide) (by decide)
 | bad hs hb =>
  have := badAt_le _ 0 _ hb
  exact (she_pair5 (kk _ (by simp)) (ni _ (by omega))).mono (by decide) (by decide)
 | twice hs hg hd =>
  have h1 := dupN_le hd
  rw [List.length_map] at hl
  unfold nmS at h1
  rw [List.length_mergeSort, List.length_map] at h1
  exact (she_pair5 (kk _ (by simp)) (ni _ (by omega))).mono (by decide) (by decide)
 | line h1 h2 hg hp hv =>
  rw [List.length_map] at hl
  have lu := hp.length_eq
  refine (she_pair5 (m := 1000) (k := 5) (kk _ (by simp)) ?_).mono (by decide) (by decide)
  exact (she_pair5 (m := 200) (k := 2) ((she_int (by omega) (by omega)).mono (by decide) (by decide)) ((she_rows5 (fun r hr => hg r (hp.mem_iff.mp hr)) (by omega)).mono (by decide) (by decide))).mono (by decide) (by decide)
theorem told05 {te : TXp} {η : EP'} {Q : PV → EP' → Prop} {w : PV} {xs : List PV} (hC : ClsT K C) (ce : Ce05 K XC) (hw : W05 w) (hx : ∀ x ∈ xs, Item05 x) (hl : xs.length ≤ 5) (h1 : ∀ (Pn : PV → EP' → Prop) (Zn : WZ), sp_Line_made K C XC [.raw (.ref C), w, .tup xs] (fun z => Pn z (noOwn η)) (fun C fs => Zn C fs (noOwn η)) → te (noOwn η) Pn Zn) (h : ∀ t, Told05 C w xs t → Q t η) :
  tCaughtP K [.ref (XC ("SeatError" : Str)), .ref (XC ("StateError" : Str)), .ref (XC ("SizeError" : Str))] ("returned" : Str) te (ts_law_caught K C XC) η Q := by
 refine h1 _ _ ⟨w, xs, rfl, hC, hw, hx, hl, fun v hv => ?_⟩
 have b60 : (10 : Int) ^ 40 ≤ 10 ^ 60 := by decide
 have ns : ("trips" : Str) ≠ ("seats" : Str) := by decide +kernel
 have nr1 : ("returned" : Str) ≠ ("seats" : Str) := by decide +kernel
 have nr2 : ("returned" : Str) ≠ ("trips" : Str) := by decide +kernel
 have kt : ∀ y, Made w xs (.lst [.str ("trips" : Str), y]) → Q (.lst [.str ("trips" : Str), y]) η := fun y hy => h _ (.inl ⟨_, _, rfl, nr2.symm, hy⟩)
 cases hv with
 | seats hs =>
  show if ("seats" : Str) = ("seats" : Str) then _ else _
  rw [if_pos rfl]
  exact ⟨ce.sx, fun f' a d hd => caught_ok ce.se (.inl ⟨_, _, rfl, rfl, rfl, ce.sf, hd.resolve_left (by simp)⟩) (by show 1 ≤ 1000; decide) fun _ => h _ (.inl ⟨_, _, rfl, nr1.symm, .seats hs⟩)⟩
 | bad hs hb =>
  show if ("trips" : Str) = ("seats" : Str) then _ else if ("trips" : Str) = ("trips" : Str) then _ else _
  rw [if_neg ns, if_pos rfl]
  exact ⟨ce.tx, fun f' a d hd => caught_ok ce.te (.inl ⟨_, _, rfl, rfl, rfl, ce.tf, hd.resolve_left (by simp)⟩) (by show 1 ≤ 1000; decide) fun _ => kt _ (.bad hs hb)⟩
 | twice hs hg hd0 =>
  show if ("trips" : Str) = ("seats" : Str) then _ else if ("trips" : Str) = ("trips" : Str) then _ else _
  rw [if_neg ns, if_pos rfl]
  exact ⟨ce.tx, fun f' a d hd => caught_ok ce.te (.inl ⟨_, _, rfl, rfl, rfl, ce.tf, hd.resolve_left (by simp)⟩) (by show 1 ≤ 1000; decide) fun _ => kt _ (.twice hs hg hd0)⟩
 | line n1 n2 hg hp hv =>
  show if ("returned" : Str) = ("seats" : Str) then _ else if ("returned" : Str) = ("trips" : Str) then _ else _
  rw [if_neg nr1, if_neg nr2]
  intro n us e m1 m2 hu
  have e2 : us = _ := row_inj5 (PV.tup.inj (List.cons.inj (List.cons.inj (PV.lst.inj e)).2).1).symm
  have e1 := PV.int.inj (List.cons.inj (PV.lst.inj e)).1
  subst e2
  subst e1
  exact h _ (.inr ⟨_, _, rfl, m1, m2, hu, fun r hr => by have := (hg r (hp.mem_iff.mp hr)).e4; omega, .line n1 n2 hg hp hv⟩)
end
theorem w_andT5 {a b : TTp} {η : EP'} {Q : Bool → EP' → Prop} (h : a η fun c η1 => if c = true then b η1 Q else Q false η1) : tAndP a b η Q := h
theorem w_nox5 {te : TXp} {η : EP'} {Q : PV → EP' → Prop} (h : te η Q fun _ _ _ => False) : tNoX te η Q := h
theorem w_newX5 {C : Addr} {sr : SpRX} {dps : List PV} {t : TAp} {η : EP'} {Q : PV → EP' → Prop} {Zx : WZ} (h : t η fun args η1 => sr (.o C []) (args ++ dps) (fun r o' => r = .non ∧ ∃ fs, o' = .o C fs ∧ Q (.ins C fs) η1) fun C' fs => Zx C' fs η1) : tNewX C sr dps t η Q Zx := h
theorem w_eqO5 {K : PySem.W.Frag} {C : Addr} {sp : SpP} {neg : Bool} {ta tb : TEp} {η : EP'} {Q : PV → EP' → Prop} (h : ta η fun x η1 => tb η1 fun y η2 => (∃ fs, x = .ins C fs) ∧ EqTy K C y ∧ sp [x, y] fun z => ∃ b, z = .bl b ∧ Q (.bl (b != neg)) η2) : tEqOP K C sp neg ta tb η Q := h
theorem w_strO5 {C : Addr} {sp : SpP} {t : TAp} {η : EP'} {Q : PV → EP' → Prop} (h : t η fun xs η1 => ∃ fs, xs = [.ins C fs] ∧ sp [.ins C fs] fun z => (∃ y, z = .str y) ∧ Q z η1) : tStrOP C sp t η Q := h
theorem w_lenO5 {C : Addr} {sp : SpP} {t : TAp} {η : EP'} {Q : PV → EP' → Prop} (h : t η fun xs η1 => ∃ fs, xs = [.ins C fs] ∧ sp [.ins C fs] fun z => ∃ n : Int, z = .int n ∧ (0 ≤ n ∧ n < 2 ^ 63) ∧ Q (.int n) η1) : tLenOP C sp t η Q := h
theorem q_neS5 {a : Str} {Q : PV → Prop} (h : Q (.bl false)) : rEqI true (.str a) (.str a) Q := by
 show Q (.bl (!decide (a = a)))
 rw [decide_eq_true rfl]; exact h
theorem isi_line5 {K : PySem.W.Frag} {C : Addr} {n : Int} {rs : List Trip} {Q : PV → Prop} (hC : ClsT K C) (h : Q (.bl true)) : rIsI K [lineP C n rs, .raw (.ref C)] Q := ⟨rfl, hC, h⟩
theorem lay_strs5 : ∀ {ws : List Str}, (∀ w ∈ ws, PyData.strOk w = true) → PyData.canLayAll0 (ws.map PyData.str) = true ∧ PyData.depthAll (ws.map PyData.str) ≤ 1
 | [], _ => by simp [PyData.canLayAll0, PyData.depthAll]
 | w :: ws, h => by
  obtain ⟨h1, h2⟩ := lay_strs5 (ws := ws) fun x hx => h x (List.mem_cons_of_mem _ hx)
  have h3 := h w List.mem_cons_self
  rw [List.map_cons]
  refine ⟨by simp [PyData.canLayAll0, PyData.canLay0, h1, h3], ?_⟩
  rw [PyData.depthAll, PyData.depth]
  omega
theorem shaped_strs5 {ws : List Str} (h : ∀ w ∈ ws, PyData.strOk w = true) : SeqAt.shaped (.list (ws.map PyData.str)) = true ∧ SeqAt.shaped (.tuple (ws.map PyData.str)) = true := by
 obtain ⟨h1, h2⟩ := lay_strs5 h
 unfold SeqAt.shaped
 simp only [PyData.canLay0, PyData.depth, h1, Bool.true_and]
 exact ⟨decide_eq_true (by omega), decide_eq_true (by omega)⟩
theorem toDs_strs5 : ∀ ws : List Str, toDs (ws.map .str) = some (ws.map PyData.str)
 | [] => rfl
 | w :: ws => by rw [List.map_cons, toDs, toDs_strs5 ws]; rfl
theorem strOk5 {w : Str} (h : isNm (.str w) = true) : PyData.strOk w = true := by
 obtain ⟨_, g⟩ := Bool.and_eq_true_iff.mp h
 obtain ⟨_, g2⟩ := Bool.and_eq_true_iff.mp g
 have all : ∀ d ∈ abc.cps.toList, d < 1000 := by decide +kernel
 unfold PyData.strOk
 rw [Array.all_eq_true']
 intro c hc
 have := all c (of_decide_eq_true (List.all_eq_true.mp g2 c (Array.mem_def.mp hc)))
 exact decide_eq_true (by omega)
theorem q_order5 {rs : List Trip} (hw : Rw rs) {P : PV → Prop} (h : P (.bl false)) : rEqP true (.tup ((queueT rs).map fun r => .str r.1)) (.tup ((queueT rs).map fun r => .str r.1)) P := by
 have e : (queueT rs).map (fun r => PV.str r.1) = ((queueT rs).map (·.1)).map PV.str := by rw [List.map_map]; rfl
 rw [e]
 have pq := queue_perm rs
 refine q_neSame (d := .tuple (((queueT rs).map (·.1)).map PyData.str)) ?_ (shaped_strs5 fun w hwm => ?_).2 h
 ·rw [toD, toDs_strs5]; rfl
 ·obtain ⟨r, hr, rfl⟩ := List.mem_map.mp hwm
  exact strOk5 (hw.each r (pq.mem_iff.mp hr)).1
section
variable {K : PySem.W.Frag} {C : Addr} {XC : Str → Addr} {args : List PV} {P : PV → Prop} {PR : PV → Ow → Prop} {o : Ow} {Zw : WC}
theorem same_end {w t : PV} {xs : List PV} {x3 x4 : Sl} (hw : W05 w) (hx : ∀ x ∈ xs, Item05 x) (hl : xs.length ≤ 5) (hm : Made w xs t) (hp : P (.bl true)) : tRetP (tOpP (rEqI false) (tCBP rReprE (tConsP (tVarP 0) (tNilP))) (tCBP rReprE (tConsP (tCallP (sp_law_due K C) [] (tConsP (tVarP 1) (tConsP (tVarP 2) (tNilP)))) (tNilP)))) { nx := fun _ => P .non, rt := fun x _ => P x } [.va t, .va w, .va (.lst xs), x3, x4] := by
 have sh := made_she hw hl hm
 refine w_ret (w_op (w_cb (w_cons (w_var (x := t) rfl (w_nil (q_reprE sh (by decide) (by decide) fun d hd => ?_))))))
 refine w_cb (w_cons (w_call (w_cons (w_var (x := w) rfl (w_cons (w_var (x := .lst xs) rfl (w_nil ⟨w, xs, rfl, hw, hx, hl, fun v hv => ?_⟩)))))))
 obtain rfl := Made.uniq hm hv
 refine w_nil (q_reprE sh (by decide) (by decide) fun d' hd' => ?_)
 rw [hd] at hd'
 cases hd'
 refine q_eqS5 ?_
 rw [decide_eq_true rfl]; exact hp
theorem rd_law_same (h : sp_law_same K C XC args P) : ts_law_same K C XC { nx := fun _ => P .non, rt := fun x _ => P x } (startP 5 args) := by
 obtain ⟨t, w, xs, rfl, hC, hw, hx, hl, h⟩ := h
 have e : startP 5 [t, w, .lst xs] = [.va t, .va w, .va (.lst xs), .no, .no] := rfl
 rw [e]
 obtain ⟨h, hp⟩ := h
 have sz : 1000 < sizeLine := by decide
 rcases h with ⟨k, y, rfl, hk, hm⟩ | ⟨n, us, rfl, n1, n2, hv, near, hm⟩
 ·refine w_seq (w_if (w_andT5 (w_bl (w_op (w_op (w_var (x := .lst [.str k, y]) rfl (w_con (q_ix (x := .str k) (at5 (k := 0) rfl) (w_con (q_eqS5 ?_))))))))))
  rw [decide_eq_false hk]
  exact q_iteF (q_iteF (w_next (same_end hw hx hl hm hp)))
 ·refine w_seq (w_if (w_andT5 (w_bl (w_op (w_op (w_var (x := .lst [.str ("returned" : Str), lineP C n us]) rfl (w_con (q_ix (x := .str ("returned" : Str)) (at5 (k := 0) rfl) (w_con (q_eqS5 ?_))))))))))
  rw [decide_eq_true rfl]
  refine q_iteT (w_bl (w_cb (w_cons (w_op (w_var (x := .lst [.str ("returned" : Str), lineP C n us]) rfl (w_con (q_ix (x := lineP C n us) (at5 (k := 1) rfl) (w_cons (w_con (w_nil (isi_line5 hC ?_)))))))))))
  obtain ⟨gus, lus⟩ : (∀ r ∈ us, GoodT r) ∧ us.length ≤ 5 := by
   generalize hxs : xs = xs' at hm
   generalize hz : PV.lst [PV.str ("returned" : Str), PV.lst [PV.int n, rowsP us]] = z at hm
   cases hm with
   | seats => exact absurd (PV.str.inj (List.cons.inj (PV.lst.inj hz)).1) (by decide +kernel)
   | bad => exact absurd (PV.str.inj (List.cons.inj (PV.lst.inj hz)).1) (by decide +kernel)
   | twice => exact absurd (PV.str.inj (List.cons.inj (PV.lst.inj hz)).1) (by decide +kernel)
   | line q1 q2 hg hperm hrw =>
    have e2 := row_inj5 (PV.tup.inj (List.cons.inj (List.cons.inj (PV.lst.inj (List.cons.inj (List.cons.inj (PV.lst.inj hz)).2).1)).2).1)
    rw [e2]
    rw [hxs, List.length_map] at hl
    exact ⟨fun r hr => hg r (hperm.mem_iff.mp hr), by rw [hperm.length_eq]; exact hl⟩
  refine q_iteT ?_
  refine w_seq (w_set (w_op (w_var (x := .lst [.str ("returned" : Str), lineP C n us]) rfl (w_con (q_ix (x := lineP C n us) (at5 (k := 1) rfl) ?_)))))
  simp only [List.set_cons_zero, List.set_cons_succ]
  refine w_seq (w_set (w_nox5 (w_newX5 (w_cons (w_prop' (w_var (x := lineP C n us) rfl ⟨⟨_, rfl⟩, n, us, rfl, w_cons (w_prop' (w_var (x := lineP C n us) rfl ⟨⟨_, rfl⟩, n, us, rfl, w_nil ?_⟩))⟩))))))
  have hsn : seatsB (.int n) = true := by
   show (decide (1 ≤ n) && decide (n ≤ 20)) = true
   rw [decide_eq_true n1, decide_eq_true n2]; rfl
  refine ⟨.int n, rowsP us, rfl, rfl, .inl rfl, ⟨.inl rfl, fun ys e => ?_⟩, fun m vs em ev m1 m2 hvs => ?_, fun h => ?_, fun _ h => ?_, fun ys _ ey hlt => ?_⟩
  ·cases e
   exact ⟨by rw [List.length_map]; omega, fun x hx => by
    obtain ⟨r, hr, rfl⟩ := List.mem_map.mp hx
    exact item_kn (.inr ⟨r, rfl, gus r hr⟩)⟩
  ·cases em
   obtain rfl := row_inj5 (PV.tup.inj ev)
   refine ⟨rfl, _, rfl, ?_⟩
   simp only [List.set_cons_zero, List.set_cons_succ]
   have eql : PV.ins C (lineF n us) = lineP C n us := rfl
   rw [eql]
   refine w_seq (w_if (w_or5 (w_bl (w_eqO5 (w_var (x := lineP C n us) rfl (w_var (x := lineP C n us) rfl ⟨⟨_, rfl⟩, .inr ⟨_, rfl⟩, n, us, _, rfl, hC, rw_good hv, .inr ⟨n, us, rfl, rw_good hv, ?_⟩⟩))))))
   refine ⟨_, rfl, ?_⟩
   rw [decide_eq_true ⟨rfl, rfl⟩]
   refine q_iteF (w_or5 (w_bl (w_op (w_prop' (w_var (x := lineP C n us) rfl ⟨⟨_, rfl⟩, n, us, rfl, hv.len, ?_⟩)))))
   refine w_prop' (w_var (x := lineP C n us) rfl ⟨⟨_, rfl⟩, n, us, rfl, hv.len, ?_⟩)
   refine q_order5 hv (q_iteF (w_bl (w_op (w_prop' (w_var (x := lineP C n us) rfl ⟨⟨_, rfl⟩, n, us, rfl, hv.len, ?_⟩)))))
   refine w_prop' (w_var (x := lineP C n us) rfl ⟨⟨_, rfl⟩, n, us, rfl, hv.len, q_ne5 ?_⟩)
   rw [decide_eq_true rfl]
   refine q_iteF (w_next ?_)
   dsimp only
   refine w_seq (w_if (w_or5 (w_bl (w_op (w_strO5 (w_cons (w_var (x := lineP C n us) rfl (w_nil ⟨_, rfl, n, us, rfl, n1, n2, hv, near, ⟨_, rfl⟩, ?_⟩))))))))
   refine w_strO5 (w_cons (w_var (x := lineP C n us) rfl (w_nil ⟨_, rfl, n, us, rfl, n1, n2, hv, near, ⟨_, rfl⟩, q_neS5 (q_iteF ?_)⟩)))
   refine w_bl (w_op (w_lenO5 (w_cons (w_var (x := lineP C n us) rfl (w_nil ⟨_, rfl, n, us, rfl, _, rfl, ⟨by omega, by omega⟩, ?_⟩)))))
   refine w_lenO5 (w_cons (w_var (x := lineP C n us) rfl (w_nil ⟨_, rfl, n, us, rfl, _, rfl, ⟨by omega, by omega⟩, q_ne5 ?_⟩)))
   rw [decide_eq_true rfl]
   refine q_iteF (w_next ?_)
   dsimp only
   refine w_set (w_lst (w_cons (w_con (w_cons (w_lst (w_cons (w_prop' (w_var (x := lineP C n us) rfl ⟨⟨_, rfl⟩, n, us, rfl, w_cons (w_prop' (w_var (x := lineP C n us) rfl ⟨⟨_, rfl⟩, n, us, rfl, ?_⟩))⟩)))))))) 
   refine w_nil ⟨len5 rfl, w_nil ⟨len5 rfl, ?_⟩⟩
   simp only [List.set_cons_zero, List.set_cons_succ]
   exact same_end hw hx hl hm hp
  ·rw [hsn] at h; cases h
  ·cases h
  ·cases ey
   rw [rw_vNT gus hv, List.length_map] at hlt
   exact Nat.lt_irrefl _ hlt
end
theorem w_dic05 {η : EP'} {Q : PV → EP' → Prop} (h : Q (.dic []) η) : tDic0P η Q := h
theorem q_eqN5 {a b : Int} {Q : PV → Prop} (h : Q (.bl (decide (a = b)))) : rEqI false (.int a) (.int b) Q := h
theorem w_g55 {a b c d g : PV} {i j k l m : Nat} {η : EP'} {R : EP' → Prop} (h : R (((((η.set i (.va a)).set j (.va b)).set k (.va c)).set l (.va d)).set m (.va g))) : gConsP (gNameP i) (gConsP (gNameP j) (gConsP (gNameP k) (gConsP (gNameP l) (gConsP (gNameP m) (gNilP))))) [a, b, c, d, g] η R := ⟨rfl, h⟩
theorem q_gLst5 {n : Nat} {t : TGsp} {xs : List PV} {η : EP'} {R : EP' → Prop} (h : xs.length = n ∧ t xs η R) : gLstP n t (.lst xs) η R := h
theorem w_cmetV5 {C : Addr} {sp : SpX} {ta : TEp} {t : TAp} {η : EP'} {Q : PV → EP' → Prop} {Zx : WZ} (h : ta η fun x η1 => x = .raw (.ref C) ∧ t η1 fun args η2 => ∃ y rest, args = y :: rest ∧ rest.length ≤ 1000 ∧ sp [.raw (.ref C), y, .tup rest] (fun z => Q z η2) fun C' fs => Zx C' fs η2) : tCMetV C sp ta t η Q Zx := h
theorem w_cmetVK5 {C : Addr} {sp : SpX} {ta : TEp} {t : TAp} {η : EP'} {Q : PV → EP' → Prop} {Zx : WZ} (h : ta η fun x η1 => x = .raw (.ref C) ∧ t η1 fun args η2 => ∃ y, args = [y] ∧ sp [.raw (.ref C), y, .tup []] (fun z => Q z η2) fun C' fs => Zx C' fs η2) : tCMetVK C sp ta t η Q Zx := h
theorem w_imetV5 {C : Addr} {m : Str} {sp : SpX} {ta : TEp} {t : TAp} {η : EP'} {Q : PV → EP' → Prop} {Zx : WZ} (h : ta η fun x η1 => (∃ fs, x = .ins C fs ∧ fs.lookup m = none) ∧ t η1 fun args η2 => ∃ y rest, args = y :: rest ∧ rest.length ≤ 1000 ∧ sp [.raw (.ref C), y, .tup rest] (fun z => Q z η2) fun C' fs => Zx C' fs η2) : tIMetV C m sp ta t η Q Zx := h
theorem good_one {r : Trip} (h : GoodT r) : GoodT (r.1, 0, 1) := ⟨h.nm, by show (0 : Int) ≤ 0; decide, by show (0 : Int) < 1; decide, by show (1 : Int) < 10 ^ 40; decide⟩
section
variable {K : PySem.W.Frag} {C : Addr} {XC : Str → Addr} {args : List PV} {P : PV → Prop} {PR : PV → Ow → Prop} {o : Ow} {Zw : WC}
theorem rd_law_some (h : sp_law_some K C o args PR) : ts_law_some K C { nx := fun η' => ∃ o', η'[0]? = some (Sl.ow o') ∧ PR .non o', rt := fun x η' => ∃ o', η'[0]? = some (Sl.ow o') ∧ PR x o' } (startR 7 o args) := by
 obtain ⟨rs, po, rfl, ne, hg, hl, hp⟩ := h
 have e : startR 7 o [rowsP rs] = [.ow o, .va (rowsP rs), .no, .no, .no, .no, .no] := rfl
 rw [e]
 have sz : 1000 < sizeLine := by decide
 have b40 : (24 : Int) < 10 ^ 40 := by decide
 refine w_seq (w_par (w_arV (w_lst (w_cons (w_con (w_cons (w_con (w_cons (w_tup (w_nil ⟨len5 rfl, w_cons (w_tup (w_cons (w_con (w_cons (w_con (w_nil ⟨len5 rfl, w_cons (w_lst (w_cons (w_con (w_cons (w_con (w_cons (w_con (w_nil ⟨len5 rfl, w_cons (w_tup (w_cons (w_con (w_cons (w_con (w_cons (w_con (w_nil ⟨len5 rfl, w_cons (w_tup (w_cons (w_con (w_cons (w_con (w_cons (w_con (w_nil ⟨len5 rfl, w_cons (w_tup (w_cons (w_con (w_cons (w_con (w_cons (w_con (w_nil ⟨len5 rfl, w_cons (w_tup (w_cons (w_lst (w_cons (w_con (w_nil ⟨len5 rfl, w_cons (w_con (w_cons (w_con (w_nil ⟨len5 rfl, w_cons (w_dic05 (w_nil ⟨len5 rfl, ?_⟩))⟩))))⟩))))))⟩))))))))⟩))))))))⟩))))))))⟩))))))))⟩))))))⟩))))))))))
 refine w_arF (w_lstF (w_nil ⟨Nat.zero_le _, w_arN ⟨rfl, ⟨by decide, by show 3 < 7; decide, trivial⟩, ?_⟩⟩))
 simp only [storesP, List.set_cons_zero, List.set_cons_succ]
 refine w_seq (w_for (w_rng1 (w_con ⟨by decide, by decide, ?_⟩)))
 refine ⟨fun i η => ∃ o' xs s4 s5 s6, Pool o' ∧ xs.length = i ∧ (∀ x ∈ xs, Item05 x) ∧ η = [.ow o', .va (rowsP rs), .va (.lst odd05), .ow (.l xs), s4, s5, s6], ⟨o, [], _, _, _, po, rfl, fun x h => (by cases h), rfl⟩, ?_, ?_⟩
 ·rintro i y η hi ⟨o', xs, s4, s5, s6, p', hxl, hxs, rfl⟩
  obtain ⟨hin, rfl⟩ := rangeP_get hi
  have hi5 : i < 5 := hin
  refine w_gn5 ?_
  simp only [List.set_cons_zero, List.set_cons_succ]
  have hpos : 0 < rs.length := List.length_pos_iff.mpr ne
  refine w_seq (w_set (w_op (w_var (x := rowsP rs) rfl (w_callR rfl (w_cons (w_cb (w_cons (w_var (x := rowsP rs) rfl (w_nil (q_lenT5 ?_))))))))))
  rw [List.length_map]
  refine w_nil (q_callM rfl ⟨(rs.length : Int), p', rfl, by omega, by omega, fun o1 k p1 k0 k1 => ?_⟩)
  obtain ⟨v, ev, iv⟩ := atI_in (xs := rs.map rowP) k0 (by rw [List.length_map]; exact k1)
  rw [List.getElem?_map] at iv
  obtain ⟨r, hr, rfl⟩ := Option.map_eq_some_iff.mp iv
  have gr := hg r (List.mem_of_getElem? hr)
  refine q_ixT ev ?_
  simp only [List.set_cons_zero, List.set_cons_succ]
  refine w_seq (w_set (q_draw rfl rfl p1 (by decide) (by decide) fun o2 way p2 w0 w1 => ?_))
  simp only [List.set_cons_zero, List.set_cons_succ]
  have fin : ∀ o3 x, Pool o3 → Item05 x → (∃ o' ys s4 s5 s6, Pool o' ∧ ys.length = i + 1 ∧ (∀ x ∈ ys, Item05 x) ∧ ([.ow o3, .va (rowsP rs), .va (.lst odd05), .ow (.l (xs ++ [x])), .va (.int (0 + (i : Int))), .va (rowP r), .va (.int way)] : EP') = [.ow o', .va (rowsP rs), .va (.lst odd05), .ow (.l ys), s4, s5, s6]) := fun o3 x p3 hx => ⟨o3, xs ++ [x], _, _, _, p3, by rw [List.length_append, hxl]; rfl, fun y hy => by
   rcases List.mem_append.mp hy with h | h
   ·exact hxs y h
   ·rw [List.mem_singleton.mp h]; exact hx, rfl⟩
  refine w_app (xs := xs) rfl (w_ifE5 (w_bl (w_op (w_var (x := .int way) rfl (w_con (q_eqN5 ?_))))))
  by_cases c0 : way = 0
  ·rw [decide_eq_true c0]
   refine q_iteT (w_op (w_var (x := .lst odd05) rfl (q_draw rfl rfl p2 (by decide) (by decide) fun o3 j p3 j0 j1 => ?_)))
   obtain ⟨u, eu, iu⟩ := atI_in (xs := odd05) j0 j1
   refine q_ix eu (q_appM rfl (by omega) ?_)
   simp only [List.set_cons_zero, List.set_cons_succ]
   exact fin o3 u p3 (.inl (List.mem_of_getElem? iu))
  rw [decide_eq_false c0]
  refine q_iteF (w_ifE5 (w_bl (w_op (w_var (x := .int way) rfl (w_con (q_eqN5 ?_))))))
  by_cases c1 : way = 1
  ·rw [decide_eq_true c1]
   refine q_iteT (w_tup (w_cons (w_op (w_var (x := rowP r) rfl (w_con (q_ixT (x := .str r.1) rfl (w_cons (w_con (w_cons (w_con (w_nil ⟨len5 rfl, q_appM rfl (by omega) ?_⟩)))))))))))
   simp only [List.set_cons_zero, List.set_cons_succ]
   exact fin o2 _ p2 (.inr ⟨(r.1, 0, 1), rfl, good_one gr⟩)
  rw [decide_eq_false c1]
  refine q_iteF (w_var (x := rowP r) rfl (q_appM rfl (by omega) ?_))
  simp only [List.set_cons_zero, List.set_cons_succ]
  exact fin o2 _ p2 (.inr ⟨r, rfl, gr⟩)
 ·rintro η ⟨o', xs, s4, s5, s6, p', hxl, hxs, rfl⟩
  dsimp only
  exact w_ret (w_varO (o := .l xs) rfl ⟨o', rfl, hp o' xs p' hxl hxs⟩)
end
theorem w_callRF8 {tf : TFp} {sr : SpR} {t : TAp} {η : EP'} {Q : PV → EP' → Prop} (h : tf η fun xs η1 => t η1 fun args η2 => sr (.l xs) args fun z _ => Q z η2) : tCallRFP tf sr t η Q := h
theorem w_callF8 {sp : SpF} {t : TAp} {η : EP'} {Q : List PV → EP' → Prop} (h : t η fun args η1 => sp args fun xs => Q xs η1) : tCallFP sp t η Q := h
theorem all_true8 : ∀ n : Nat, blsOf (List.replicate n (.bl true)) = some (List.replicate n true)
 | 0 => rfl
 | n + 1 => by rw [List.replicate_succ, List.replicate_succ, blsOf, all_true8 n]; rfl
theorem q_int5 {b : Bool} {P : PV → Prop} (h : P (.int (if b = true then 1 else 0))) : rInt1 [.bl b] P := h
section
variable {K : PySem.W.Frag} {C : Addr} {XC : Str → Addr} {args : List PV} {P : PV → Prop} {PR : PV → Ow → Prop} {o : Ow} {Zw : WC}
theorem look3 (n : Int) (us : List Trip) : (lineF n us).lookup ("made" : Str) = none := rfl
theorem line3 {η : EP'} {Q : PV → EP' → Prop} (hC : ClsT K C) (h : ∀ fs : List (Str × PV), fs.lookup ("made" : Str) = none → Q (.ins C fs) η) : tNoX (tNewX C (sp_Line_initX K C XC) [.tup []] (tConsP (tConP (.int 3)) (tNilP))) η Q := by
 refine w_nox5 (w_newX5 (w_cons (w_con (w_nil ⟨.int 3, .tup [], rfl, rfl, .inl rfl, ⟨.inl rfl, fun ys e => ?_⟩, fun m vs em ev m1 m2 hvs => ?_, fun h => ?_, fun _ h => ?_, fun ys _ ey hlt => ?_⟩))))
 ·cases e; exact ⟨Nat.zero_le _, fun x hx => by cases hx⟩
 ·cases em
  exact ⟨rfl, _, rfl, h _ (look3 3 vs)⟩
 ·cases h
 ·cases h
 ·cases ey; exact absurd hlt (Nat.lt_irrefl 0)
theorem rd_law_right05 (h : sp_law_right05 K C XC o args PR) : ts_law_right05 K C XC { nx := fun η' => ∃ o', η'[0]? = some (Sl.ow o') ∧ PR .non o', rt := fun x η' => ∃ o', η'[0]? = some (Sl.ow o') ∧ PR x o' } (startR 10 o args) := by
 obtain ⟨po, rfl, hC, ce, hp⟩ := h
 have e : startR 10 o [] = [.ow o, .no, .no, .no, .no, .no, .no, .no, .no, .no] := rfl
 rw [e]
 have sz : 1000 < sizeLine := by decide
 refine w_seq (w_set (w_callR rfl (w_cons (w_callR rfl (w_cons (w_op (w_con (q_draw rfl rfl po (by decide) (by decide) fun o1 k p1 k0 k1 => q_add ?_))))))))
 refine w_nil (q_callM rfl ⟨6 + k, p1, rfl, by omega, by omega, fun o2 ws p2 wl wn => ?_⟩)
 refine w_cons (w_con (w_nil (q_callM rfl ⟨ws, 30, p2, rfl, wn, by omega, by decide, by decide, fun o3 rs p3 hrw hrl hb => ?_⟩)))
 simp only [List.set_cons_zero, List.set_cons_succ]
 have hg : ∀ r ∈ rs, GoodT r := fun r hr => ⟨(hrw.each r hr).1, (hrw.each r hr).2.1, (hrw.each r hr).2.2, (hb r hr).2⟩
 have ne : rs ≠ [] := fun z => by rw [z] at hrl; simp at hrl; omega
 refine w_seq (w_for (w_rng1 (w_con ⟨by decide, by decide, ?_⟩)))
 refine ⟨fun i η => ∃ o' s2 s3 s4 s5 s6 s7 s8 s9, Pool o' ∧ η = [.ow o', .va (rowsP rs), s2, s3, s4, s5, s6, s7, s8, s9], ⟨o3, _, _, _, _, _, _, _, _, p3, rfl⟩, ?_, ?_⟩
 ·rintro i y η hi ⟨o', s2, s3, s4, s5, s6, s7, s8, s9, p', rfl⟩
  refine w_gn5 ?_
  simp only [List.set_cons_zero, List.set_cons_succ]
  refine w_seq (w_set (w_op (w_lst (w_cons (w_con (w_cons (w_con (w_cons (w_con (w_cons (w_con (w_cons (w_con (w_cons (w_dic05 (w_nil ⟨len5 rfl, ?_⟩))))))))))))))))
  refine q_draw rfl rfl p' (by decide) (by decide) fun o4 j p4 j0 j1 => ?_
  obtain ⟨wr, ew, iw⟩ := atI_in (xs := ([.non, .int 0, .int 21, .bl true, .str ("3" : Str), .dic []] : List PV)) j0 j1
  have hwr := List.mem_of_getElem? iw
  refine q_ix ew ?_
  simp only [List.set_cons_zero, List.set_cons_succ]
  refine w_seq (w_set (w_op (w_lst (w_cons (w_op (w_con (q_draw rfl rfl p4 (by decide) (by decide) fun o5 n p5 n0 n1 => q_add ?_)))))))
  refine w_cons (w_var (x := wr) rfl (w_nil ⟨len5 rfl, ?_⟩))
  refine w_cb (w_cons (w_op (q_draw rfl rfl p5 (by decide) (by decide) fun o6 q p6 q0 q1 => w_con (q_eqN5 (w_nil ?_)))))
  obtain ⟨wd, hw, hix⟩ : ∃ wd, W05 wd ∧ atI [PV.int (1 + n), wr] (if decide (q = 0) = true then 1 else 0) = some wd := by
   by_cases c : q = 0
   ·rw [decide_eq_true c, if_pos rfl]
    exact ⟨wr, .inr hwr, at5 (k := 1) rfl⟩
   ·rw [decide_eq_false c, if_neg (by simp)]
    exact ⟨.int (1 + n), .inl ⟨_, rfl, by omega, by omega⟩, at5 (k := 0) rfl⟩
  refine q_int5 (q_ix hix ?_)
  simp only [List.set_cons_zero, List.set_cons_succ]
  refine w_seq (w_asg (w_callR rfl (w_cons (w_var (x := rowsP rs) rfl (w_nil (q_callM rfl ⟨rs, p6, rfl, ne, hg, hrw.len, fun o7 xs p7 hxl hxs => ?_⟩))))))
  obtain ⟨a, b, c, d, g, rfl⟩ : ∃ a b c d g, xs = [a, b, c, d, g] := by
   match xs, hxl with
   | [a, b, c, d, g], _ => exact ⟨a, b, c, d, g, rfl⟩
  refine q_gLst5 ⟨rfl, w_g55 ?_⟩
  simp only [List.set_cons_zero, List.set_cons_succ]
  have it : ∀ ys : List PV, (∀ y ∈ ys, y ∈ [a, b, c, d, g]) → ∀ y ∈ ys, Item05 y := fun ys hs y hy => hxs y (hs y hy)
  refine w_seq (w_if (w_not (w_bl (w_call (w_cons (told05 (xs := []) hC ce hw (it [] (by simp)) (by show 0 ≤ 5; decide) (fun Pn Zn hz => w_cmetV5 (w_con ⟨rfl, w_cons (w_var (x := wd) rfl (w_nil ⟨wd, [], rfl, by show 0 ≤ 1000; decide, hz⟩))⟩)) fun t ht => ?_))))))
  refine w_cons (w_var (x := wd) rfl (w_cons (w_lst (w_nil ⟨len5 rfl, w_nil ⟨t, wd, [], rfl, hC, hw, it [] (by simp), by show 0 ≤ 5; decide, ht, q_iteF (w_next ?_)⟩⟩))))
  dsimp only
  refine w_seq (w_if (w_not (w_bl (w_call (w_cons (told05 (xs := []) hC ce hw (it [] (by simp)) (by show 0 ≤ 5; decide) (fun Pn Zn hz => w_cmetVK5 (w_con ⟨rfl, w_cons (w_var (x := wd) rfl (w_nil ⟨wd, rfl, hz⟩))⟩)) fun t ht => ?_))))))
  refine w_cons (w_var (x := wd) rfl (w_cons (w_lst (w_nil ⟨len5 rfl, w_nil ⟨t, wd, [], rfl, hC, hw, it [] (by simp), by show 0 ≤ 5; decide, ht, q_iteF (w_next ?_)⟩⟩))))
  dsimp only
  refine w_seq (w_if (w_not (w_bl (w_call (w_cons (told05 (xs := [a]) hC ce hw (it [a] (by simp)) (by show 1 ≤ 5; decide) (fun Pn Zn hz => w_cmetV5 (w_con ⟨rfl, w_cons (w_var (x := wd) rfl (w_cons (w_var (x := a) rfl (w_nil ⟨wd, [a], rfl, by show 1 ≤ 1000; decide, hz⟩))))⟩)) fun t ht => ?_))))))
  refine w_cons (w_var (x := wd) rfl (w_cons (w_lst (w_cons (w_var (x := a) rfl (w_nil ⟨len5 rfl, w_nil ⟨t, wd, [a], rfl, hC, hw, it [a] (by simp), by show 1 ≤ 5; decide, ht, q_iteF (w_next ?_)⟩⟩))))))
  dsimp only
  refine w_seq (w_if (w_not (w_bl (w_call (w_cons (told05 (xs := [a, b]) hC ce hw (it [a, b] (by simp)) (by show 2 ≤ 5; decide) (fun Pn Zn hz => w_cmetV5 (w_con ⟨rfl, w_cons (w_var (x := wd) rfl (w_cons (w_var (x := a) rfl (w_cons (w_var (x := b) rfl (w_nil ⟨wd, [a, b], rfl, by show 2 ≤ 1000; decide, hz⟩))))))⟩)) fun t ht => ?_))))))
  refine w_cons (w_var (x := wd) rfl (w_cons (w_lst (w_cons (w_var (x := a) rfl (w_cons (w_var (x := b) rfl (w_nil ⟨len5 rfl, w_nil ⟨t, wd, [a, b], rfl, hC, hw, it [a, b] (by simp), by show 2 ≤ 5; decide, ht, q_iteF (w_next ?_)⟩⟩))))))))
  dsimp only
  refine w_seq (w_if (w_not (w_bl (w_call (w_cons (told05 (xs := [c, b, a]) hC ce hw (it [c, b, a] (by simp)) (by show 3 ≤ 5; decide) (fun Pn Zn hz => w_imetV5 (line3 (K := K) (C := C) (XC := XC) hC fun fs hfs => ⟨⟨fs, rfl, hfs⟩, w_cons (w_var (x := wd) rfl (w_cons (w_var (x := c) rfl (w_cons (w_var (x := b) rfl (w_cons (w_var (x := a) rfl (w_nil ⟨wd, [c, b, a], rfl, by show 3 ≤ 1000; decide, hz⟩))))))))⟩)) fun t ht => ?_))))))
  refine w_cons (w_var (x := wd) rfl (w_cons (w_lst (w_cons (w_var (x := c) rfl (w_cons (w_var (x := b) rfl (w_cons (w_var (x := a) rfl (w_nil ⟨len5 rfl, w_nil ⟨t, wd, [c, b, a], rfl, hC, hw, it [c, b, a] (by simp), by show 3 ≤ 5; decide, ht, q_iteF (w_next ?_)⟩⟩))))))))))
  dsimp only
  refine w_seq (w_if (w_not (w_bl (w_call (w_cons (told05 (xs := [d, a, c, b]) hC ce hw (it [d, a, c, b] (by simp)) (by show 4 ≤ 5; decide) (fun Pn Zn hz => w_cmetV5 (w_con ⟨rfl, w_cons (w_var (x := wd) rfl (w_cons (w_var (x := d) rfl (w_cons (w_var (x := a) rfl (w_cons (w_var (x := c) rfl (w_cons (w_var (x := b) rfl (w_nil ⟨wd, [d, a, c, b], rfl, by show 4 ≤ 1000; decide, hz⟩))))))))))⟩)) fun t ht => ?_))))))
  refine w_cons (w_var (x := wd) rfl (w_cons (w_lst (w_cons (w_var (x := d) rfl (w_cons (w_var (x := a) rfl (w_cons (w_var (x := c) rfl (w_cons (w_var (x := b) rfl (w_nil ⟨len5 rfl, w_nil ⟨t, wd, [d, a, c, b], rfl, hC, hw, it [d, a, c, b] (by simp), by show 4 ≤ 5; decide, ht, q_iteF (w_next ?_)⟩⟩))))))))))))
  dsimp only
  refine w_if (w_not (w_bl (w_call (w_cons (told05 (xs := [g, d, c, b, a]) hC ce hw (it [g, d, c, b, a] (by simp)) (by show 5 ≤ 5; decide) (fun Pn Zn hz => w_cmetV5 (w_con ⟨rfl, w_cons (w_var (x := wd) rfl (w_cons (w_var (x := g) rfl (w_cons (w_var (x := d) rfl (w_cons (w_var (x := c) rfl (w_cons (w_var (x := b) rfl (w_cons (w_var (x := a) rfl (w_nil ⟨wd, [g, d, c, b, a], rfl, by show 5 ≤ 1000; decide, hz⟩))))))))))))⟩)) fun t ht => ?_)))))
  refine w_cons (w_var (x := wd) rfl (w_cons (w_lst (w_cons (w_var (x := g) rfl (w_cons (w_var (x := d) rfl (w_cons (w_var (x := c) rfl (w_cons (w_var (x := b) rfl (w_cons (w_var (x := a) rfl (w_nil ⟨len5 rfl, w_nil ⟨t, wd, [g, d, c, b, a], rfl, hC, hw, it [g, d, c, b, a] (by simp), by show 5 ≤ 5; decide, ht, q_iteF (w_next ?_)⟩⟩))))))))))))))
  exact ⟨o7, _, _, _, _, _, _, _, _, p7, rfl⟩
 ·rintro η ⟨o', s2, s3, s4, s5, s6, s7, s8, s9, p', rfl⟩
  dsimp only
  exact w_ret (w_con ⟨o', rfl, hp o' p'⟩)
theorem rd_law05 (h : sp_law05 K C XC args P) : ts_law05 K C XC { nx := fun _ => P .non, rt := fun x _ => P x } (startP 2 args) := by
 obtain ⟨ns, rfl, hns, hC, ce, hp⟩ := h
 have e : startP 2 [.scr ns] = [.va (.scr ns), .no] := rfl
 rw [e]
 have sz : 1000 < sizeLine := by decide
 refine w_ret (w_cb (w_cons (w_val (w_lc (w_rng1 (w_cb (w_cons (w_con (w_cons (w_cb (w_cons (w_cb (w_cons (w_var (x := .scr ns) rfl (w_nil (q_lenC (w_cons (w_con (w_nil (q_min ?_))))))))))))))))))))
 refine w_nil (q_max ?_)
 obtain ⟨N, hN, N0, N6⟩ : ∃ N : Int, (if (if (8 : Int) < (ns.length : Int) then (8 : Int) else (ns.length : Int)) > 2 then (if (8 : Int) < (ns.length : Int) then (8 : Int) else (ns.length : Int)) else 2) = N ∧ 0 ≤ N ∧ N ≤ 8 := ⟨_, rfl, by split <;> (first | split | skip) <;> omega, by split <;> (first | split | skip) <;> omega⟩
 rw [hN]
 refine ⟨by omega, by omega, fun i acc η => acc = List.replicate i (.bl true) ∧ η = [.va (.scr ns), .no], ⟨rfl, rfl⟩, ?_, ?_⟩
 ·rintro i x acc η hi ⟨rfl, rfl⟩
  obtain ⟨hn, rfl⟩ := rangeP_get hi
  refine w_gname (w_yes (q_iteT ?_))
  refine w_callRF8 (w_callF8 (w_cons (w_call (w_cons (w_var (x := .scr ns) rfl (w_cons (w_var rfl (w_nil ⟨ns, _, rfl, by omega, by omega, fun c => ?_⟩))))))))
  refine w_nil ⟨c, rfl, fun s d s0 s1 d0 => w_nil ⟨⟨s, d, 0, rfl, s0, s1, d0⟩, rfl, hC, ce, fun o' p' => ?_⟩⟩
  exact ⟨by rw [List.length_replicate]; omega, by rw [List.replicate_succ'], rfl⟩
 ·rintro acc η ⟨rfl, rfl⟩
  rw [rangeP_len]
  refine w_nil (q_all (all_true8 _) ?_)
  rw [show ∀ n : Nat, (List.replicate n true).all id = true from fun n => by simp]
  exact hp
end
end Z
set_option maxHeartbeats 4000000
namespace ZK
open PySem PySem.Spec L2 Z
open PyProof.Rows hiding St
def top (i : Nat) : Stmt := PySem.Challenge.pw_seatchains_k05_lines_made_of_trips.main.body.getD i (.Pass ⟨0, 0, 0, 0⟩)
abbrev s_law_cell : Stmt := top 47
abbrev N_law_cell : List Str := [("_law_script" : Str), ("_law_k" : Str), ("_law_state" : Str), ("_law_cell_here" : Str)]
theorem sc_law_cell : FnScope N_law_cell [("_law_script" : Str), ("_law_k" : Str)] (defScope s_law_cell) := ⟨rfl, rfl, rfl, by decide +kernel, rfl, by decide +kernel, by decide +kernel⟩
abbrev s_law_pool : Stmt := top 48
abbrev N_law_pool : List Str := [("_law_cell_here" : Str), ("_law_digits" : Str)]
theorem sc_law_pool : FnScope N_law_pool [("_law_cell_here" : Str)] (defScope s_law_pool) := ⟨rfl, rfl, rfl, by decide +kernel, rfl, by decide +kernel, by decide +kernel⟩
abbrev s_is_integer : Stmt := top 31
abbrev N_is_integer : List Str := [("thing" : Str)]
theorem sc_is_integer : FnScope N_is_integer [("thing" : Str)] (defScope s_is_integer) := ⟨rfl, rfl, rfl, by decide +kernel, rfl, by decide +kernel, by decide +kernel⟩
abbrev s_check_seatsX : Stmt := top 41
abbrev N_check_seatsX : List Str := [("seats" : Str)]
theorem sc_check_seatsX : FnScope N_check_seatsX [("seats" : Str)] (defScope s_check_seatsX) := ⟨rfl, rfl, rfl, by decide +kernel, rfl, by decide +kernel, by decide +kernel⟩
abbrev s_is_later : Stmt := top 33
abbrev N_is_later : List Str := [("thing" : Str), ("start" : Str)]
theorem sc_is_later : FnScope N_is_later [("thing" : Str), ("start" : Str)] (defScope s_is_later) := ⟨rfl, rfl, rfl, by decide +kernel, rfl, by decide +kernel, by decide +kernel⟩
abbrev s_is_station : Stmt := top 32
abbrev N_is_station : List Str := [("thing" : Str)]
theorem sc_is_station : FnScope N_is_station [("thing" : Str)] (defScope s_is_station) := ⟨rfl, rfl, rfl, by decide +kernel, rfl, by decide +kernel, by decide +kernel⟩
abbrev s_is_trip_name : Stmt := top 34
abbrev N_is_trip_name : List Str := [("thing" : Str), ("letter" : Str)]
theorem sc_is_trip_name : FnScope N_is_trip_name [("thing" : Str)] (defScope s_is_trip_name) := ⟨rfl, rfl, rfl, by decide +kernel, rfl, by decide +kernel, by decide +kernel⟩
abbrev s_is_tripE : Stmt := top 35
abbrev N_is_tripE : List Str := [("thing" : Str), ("name" : Str), ("start" : Str), ("end" : Str)]
theorem sc_is_tripE : FnScope N_is_tripE [("thing" : Str)] (defScope s_is_tripE) := ⟨rfl, rfl, rfl, by decide +kernel, rfl, by decide +kernel, by decide +kernel⟩
abbrev s_valid_beginningE : Stmt := top 42
abbrev N_valid_beginningE : List Str := [("trips" : Str), ("before" : Str), ("at" : Str), ("thing" : Str)]
theorem sc_valid_beginningE : FnScope N_valid_beginningE [("trips" : Str)] (defScope s_valid_beginningE) := ⟨rfl, rfl, rfl, by decide +kernel, rfl, by decide +kernel, by decide +kernel⟩
abbrev s_Line_capacity : Stmt := inClass (top 40) 10
abbrev N_Line_capacity : List Str := [("self" : Str)]
theorem sc_Line_capacity : FnScope N_Line_capacity [("self" : Str)] (defScope s_Line_capacity) := ⟨rfl, rfl, rfl, by decide +kernel, rfl, by decide +kernel, by decide +kernel⟩
abbrev s_Line_trips : Stmt := inClass (top 40) 11
abbrev N_Line_trips : List Str := [("self" : Str)]
theorem sc_Line_trips : FnScope N_Line_trips [("self" : Str)] (defScope s_Line_trips) := ⟨rfl, rfl, rfl, by decide +kernel, rfl, by decide +kernel, by decide +kernel⟩
abbrev s_Line_len : Stmt := inClass (top 40) 4
abbrev N_Line_len : List Str := [("self" : Str)]
theorem sc_Line_len : FnScope N_Line_len [("self" : Str)] (defScope s_Line_len) := ⟨rfl, rfl, rfl, by decide +kernel, rfl, by decide +kernel, by decide +kernel⟩
abbrev s_Line_eq : Stmt := inClass (top 40) 3
abbrev N_Line_eq : List Str := [("self" : Str), ("other" : Str)]
theorem sc_Line_eq : FnScope N_Line_eq [("self" : Str), ("other" : Str)] (defScope s_Line_eq) := ⟨rfl, rfl, rfl, by decide +kernel, rfl, by decide +kernel, by decide +kernel⟩
abbrev s_Line_str : Stmt := inClass (top 40) 5
abbrev N_Line_str : List Str := [("self" : Str), ("words" : Str), ("name" : Str), ("start" : Str), ("end" : Str)]
theorem sc_Line_str : FnScope N_Line_str [("self" : Str)] (defScope s_Line_str) := ⟨rfl, rfl, rfl, by decide +kernel, rfl, by decide +kernel, by decide +kernel⟩
abbrev s_Line_initX : Stmt := inClass (top 40) 2
abbrev N_Line_initX : List Str := [("self" : Str), ("seats" : Str), ("trips" : Str), ("valid" : Str)]
theorem sc_Line_initX : FnScope N_Line_initX [("self" : Str), ("seats" : Str), ("trips" : Str)] (defScope s_Line_initX) := ⟨rfl, rfl, rfl, by decide +kernel, rfl, by decide +kernel, by decide +kernel⟩
abbrev s_load_of : Stmt := top 43
abbrev N_load_of : List Str := [("trips" : Str), ("station" : Str), ("name" : Str), ("start" : Str), ("end" : Str)]
theorem sc_load_of : FnScope N_load_of [("trips" : Str), ("station" : Str)] (defScope s_load_of) := ⟨rfl, rfl, rfl, by decide +kernel, rfl, by decide +kernel, by decide +kernel⟩
abbrev s_Line_order : Stmt := inClass (top 40) 12
abbrev N_Line_order : List Str := [("self" : Str), ("row" : Str)]
theorem sc_Line_order : FnScope N_Line_order [("self" : Str)] (defScope s_Line_order) := ⟨rfl, rfl, rfl, by decide +kernel, rfl, by decide +kernel, by decide +kernel⟩
abbrev s_Line_peak : Stmt := inClass (top 40) 13
abbrev N_Line_peak : List Str := [("self" : Str), ("row" : Str)]
theorem sc_Line_peak : FnScope N_Line_peak [("self" : Str)] (defScope s_Line_peak) := ⟨rfl, rfl, rfl, by decide +kernel, rfl, by decide +kernel, by decide +kernel⟩
abbrev s_Line_made : Stmt := inClass (top 40) 9
abbrev N_Line_made : List Str := [("cls" : Str), ("seats" : Str), ("trips" : Str), ("at" : Str), ("thing" : Str)]
theorem sc_Line_made : FnScope N_Line_made [("cls" : Str), ("seats" : Str), ("trips" : Str)] (defScope s_Line_made) := ⟨rfl, rfl, rfl, by decide +kernel, rfl, by decide +kernel, by decide +kernel⟩
abbrev s_law_draw : Stmt := top 49
abbrev N_law_draw : List Str := [("_law_pool_here" : Str), ("_law_many" : Str), ("_law_state" : Str), ("_law_digit" : Str)]
theorem sc_law_draw : FnScope N_law_draw [("_law_pool_here" : Str), ("_law_many" : Str)] (defScope s_law_draw) := ⟨rfl, rfl, rfl, by decide +kernel, rfl, by decide +kernel, by decide +kernel⟩
abbrev s_law_far : Stmt := top 51
abbrev N_law_far : List Str := [("_law_pool_here" : Str), ("_law_high" : Str), ("_law_found" : Str), ("_law_here" : Str), ("_law_way" : Str), ("_law_k" : Str)]
theorem sc_law_far : FnScope N_law_far [("_law_pool_here" : Str), ("_law_high" : Str)] (defScope s_law_far) := ⟨rfl, rfl, rfl, by decide +kernel, rfl, by decide +kernel, by decide +kernel⟩
abbrev s_law_rides : Stmt := top 52
abbrev N_law_rides : List Str := [("_law_pool_here" : Str), ("_law_words_here" : Str), ("_law_high" : Str), ("_law_places" : Str), ("_law_found" : Str), ("_law_last" : Str), ("_law_word" : Str), ("_law_way" : Str), ("_law_begin" : Str)]
theorem sc_law_rides : FnScope N_law_rides [("_law_pool_here" : Str), ("_law_words_here" : Str), ("_law_high" : Str)] (defScope s_law_rides) := ⟨rfl, rfl, rfl, by decide +kernel, rfl, by decide +kernel, by decide +kernel⟩
abbrev s_law_trip : Stmt := top 57
abbrev N_law_trip : List Str := [("_law_matter" : Str), ("_law_letters" : Str), ("_law_place" : Str), ("_law_letter" : Str)]
theorem sc_law_trip : FnScope N_law_trip [("_law_matter" : Str)] (defScope s_law_trip) := ⟨rfl, rfl, rfl, by decide +kernel, rfl, by decide +kernel, by decide +kernel⟩
abbrev s_law_due : Stmt := top 58
abbrev N_law_due : List Str := [("_law_width" : Str), ("_law_some_here" : Str), ("_law_wrong" : Str), ("_law_rides_here" : Str), ("_law_twice" : Str), ("_law_k" : Str)]
theorem sc_law_due : FnScope N_law_due [("_law_width" : Str), ("_law_some_here" : Str)] (defScope s_law_due) := ⟨rfl, rfl, rfl, by decide +kernel, rfl, by decide +kernel, by decide +kernel⟩
abbrev s_law_same : Stmt := top 59
abbrev N_law_same : List Str := [("_law_told" : Str), ("_law_width" : Str), ("_law_some_here" : Str), ("_law_made" : Str), ("_law_new" : Str)]
theorem sc_law_same : FnScope N_law_same [("_law_told" : Str), ("_law_width" : Str), ("_law_some_here" : Str)] (defScope s_law_same) := ⟨rfl, rfl, rfl, by decide +kernel, rfl, by decide +kernel, by decide +kernel⟩
abbrev s_law_some : Stmt := top 60
abbrev N_law_some : List Str := [("_law_pool_here" : Str), ("_law_rides_here" : Str), ("_law_odd" : Str), ("_law_found" : Str), ("_law_turn" : Str), ("_law_ride" : Str), ("_law_way" : Str)]
theorem sc_law_some : FnScope N_law_some [("_law_pool_here" : Str), ("_law_rides_here" : Str)] (defScope s_law_some) := ⟨rfl, rfl, rfl, by decide +kernel, rfl, by decide +kernel, by decide +kernel⟩
abbrev s_law_other_fields : Stmt := top 55
abbrev N_law_other_fields : List Str := [("_law_e" : Str)]
theorem sc_law_other_fields : FnScope N_law_other_fields [("_law_e" : Str)] (defScope s_law_other_fields) := ⟨rfl, rfl, rfl, by decide +kernel, rfl, by decide +kernel, by decide +kernel⟩
abbrev s_law_fields : Stmt := top 54
abbrev N_law_fields : List Str := [("_law_e" : Str)]
theorem sc_law_fields : FnScope N_law_fields [("_law_e" : Str)] (defScope s_law_fields) := ⟨rfl, rfl, rfl, by decide +kernel, rfl, by decide +kernel, by decide +kernel⟩
abbrev s_law_kind : Stmt := top 53
abbrev N_law_kind : List Str := [("_law_e" : Str), ("_law_kinds" : Str), ("_law_bases" : Str), ("_law_own" : Str), ("_law_at" : Str), ("_law_words_here" : Str)]
theorem sc_law_kind : FnScope N_law_kind [("_law_e" : Str)] (defScope s_law_kind) := ⟨rfl, rfl, rfl, by decide +kernel, rfl, by decide +kernel, by decide +kernel⟩
abbrev s_law_caught : Stmt := top 56
abbrev N_law_caught : List Str := [("_law_call" : Str), ("_law_e" : Str)]
theorem sc_law_caught : FnScope N_law_caught [("_law_call" : Str)] (defScope s_law_caught) := ⟨rfl, rfl, rfl, by decide +kernel, rfl, by decide +kernel, by decide +kernel⟩
abbrev s_law_words : Stmt := top 50
abbrev N_law_words : List Str := [("_law_pool_here" : Str), ("_law_many" : Str), ("_law_letters" : Str), ("_law_menu" : Str), ("_law_way" : Str), ("_law_begin" : Str), ("_law_stem" : Str), ("_law_at" : Str), ("_law_k" : Str)]
theorem sc_law_words : FnScope N_law_words [("_law_pool_here" : Str), ("_law_many" : Str)] (defScope s_law_words) := ⟨rfl, rfl, rfl, by decide +kernel, rfl, by decide +kernel, by decide +kernel⟩
abbrev s_law_right05 : Stmt := top 61
abbrev N_law_right05 : List Str := [("_law_pool_here" : Str), ("_law_rides_here" : Str), ("_law_turn" : Str), ("_law_wrong" : Str), ("_law_width" : Str), ("_law_a" : Str), ("_law_b" : Str), ("_law_c" : Str), ("_law_d" : Str), ("_law_g" : Str)]
theorem sc_law_right05 : FnScope N_law_right05 [("_law_pool_here" : Str)] (defScope s_law_right05) := ⟨rfl, rfl, rfl, by decide +kernel, rfl, by decide +kernel, by decide +kernel⟩
abbrev s_law05 : Stmt := top 62
abbrev N_law05 : List Str := [("_law_script" : Str), ("_law_k" : Str)]
theorem sc_law05 : FnScope N_law05 [("_law_script" : Str)] (defScope s_law05) := ⟨rfl, rfl, rfl, by decide +kernel, rfl, by decide +kernel, by decide +kernel⟩
abbrev x_InvalidSeats : Stmt := inClass (top 3) 0
theorem xt_InvalidSeats : XTxt x_InvalidSeats "InvalidSeats.__init__" "value" where
 ex := ⟨_, _, _, _, _, _, _, _, _, _, _, _, _, rfl, rfl, rfl, fun _ _ _ _ => rfl, fun _ _ _ _ => ⟨_, rfl⟩, fun _ _ _ _ => rfl, fun _ _ _ _ => rfl⟩
 n1 := rfl
 n2 := rfl
 n3 := rfl
 n4 := rfl
 n5 := rfl
 n6 := rfl
 n7 := rfl
 n8 := by decide +kernel
 b := fun _ _ _ _ _ _ _ _ _ => rfl
abbrev x_InvalidTrips : Stmt := inClass (top 4) 0
theorem xt_InvalidTrips : XTxt x_InvalidTrips "InvalidTrips.__init__" "index" where
 ex := ⟨_, _, _, _, _, _, _, _, _, _, _, _, _, rfl, rfl, rfl, fun _ _ _ _ => rfl, fun _ _ _ _ => ⟨_, rfl⟩, fun _ _ _ _ => rfl, fun _ _ _ _ => rfl⟩
 n1 := rfl
 n2 := rfl
 n3 := rfl
 n4 := rfl
 n5 := rfl
 n6 := rfl
 n7 := rfl
 n8 := by decide +kernel
 b := fun _ _ _ _ _ _ _ _ _ => rfl
structure Ad where
 CLine : Addr
 cL : Addr
 tL : Addr
 eL : Addr
 mL : Value
 XC : Str → Addr
 pS : Addr
 qT : Addr
 qC : Addr
 cT : Addr
 tT : Addr
 cT3 : Addr
 tT3 : Addr
 qc_made : Addr
 q_order : Addr
 q_peak : Addr
 f_law_cell : Addr
 d_law_cell : FuncData
 f_law_pool : Addr
 d_law_pool : FuncData
 f_is_integer : Addr
 d_is_integer : FuncData
 f_check_seatsX : Addr
 d_check_seatsX : FuncData
 f_is_later : Addr
 d_is_later : FuncData
 f_is_station : Addr
 d_is_station : FuncData
 f_is_trip_name : Addr
 d_is_trip_name : FuncData
 f_is_tripE : Addr
 d_is_tripE : FuncData
 f_valid_beginningE : Addr
 d_valid_beginningE : FuncData
 f_Line_capacity : Addr
 d_Line_capacity : FuncData
 f_Line_trips : Addr
 d_Line_trips : FuncData
 f_Line_len : Addr
 d_Line_len : FuncData
 f_Line_eq : Addr
 d_Line_eq : FuncData
 f_Line_str : Addr
 d_Line_str : FuncData
 f_Line_initX : Addr
 d_Line_initX : FuncData
 f_load_of : Addr
 d_load_of : FuncData
 f_Line_order : Addr
 d_Line_order : FuncData
 f_Line_peak : Addr
 d_Line_peak : FuncData
 f_Line_made : Addr
 d_Line_made : FuncData
 f_law_draw : Addr
 d_law_draw : FuncData
 f_law_far : Addr
 d_law_far : FuncData
 f_law_rides : Addr
 d_law_rides : FuncData
 f_law_trip : Addr
 d_law_trip : FuncData
 f_law_due : Addr
 d_law_due : FuncData
 f_law_same : Addr
 d_law_same : FuncData
 f_law_some : Addr
 d_law_some : FuncData
 f_law_other_fields : Addr
 d_law_other_fields : FuncData
 f_law_fields : Addr
 d_law_fields : FuncData
 f_law_kind : Addr
 d_law_kind : FuncData
 f_law_caught : Addr
 d_law_caught : FuncData
 f_law_words : Addr
 d_law_words : FuncData
 f_law_right05 : Addr
 d_law_right05 : FuncData
 f_law05 : Addr
 d_law05 : FuncData
structure Tx (P : Program) (w : World) (K : PySem.W.Frag) (mg : Str → Option Value) (a : Ad) : Prop where
 cl : Cls K a.CLine
 clt : ClsT K a.CLine
 g_Line : mg "Line" = some (.ref a.CLine)
 mkL : Mk K a.CLine a.f_Line_initX
 dfl : ∀ {O H}, Reps K O H [.tup []] [.ref a.eL]
 cr : ClX.CRead K a.CLine a.mL
 tne01 : a.tL ≠ a.tT
 tne02 : a.tL ≠ a.tT3
 tne12 : a.tT ≠ a.tT3
 cm_made : ClX.CMet K a.CLine a.mL "made" a.qc_made a.f_Line_made
 ci_made : ClX.CInst K a.CLine "made" a.qc_made a.f_Line_made
 p_trips : PropOf K a.CLine "trips" a.qT a.f_Line_trips
 p_capacity : PropOf K a.CLine "capacity" a.qC a.f_Line_capacity
 p_order : PropOf K a.CLine "order" a.q_order a.f_Line_order
 p_peak : PropOf K a.CLine "peak" a.q_peak a.f_Line_peak
 ow : OwnC K a.CLine a.f_Line_eq a.f_Line_len a.f_Line_str
 g_Busy : mg "Busy" = some (.ref (a.XC "Busy"))
 g_Full : mg "Full" = some (.ref (a.XC "Full"))
 g_InvalidAction : mg "InvalidAction" = some (.ref (a.XC "InvalidAction"))
 g_InvalidCommand : mg "InvalidCommand" = some (.ref (a.XC "InvalidCommand"))
 g_InvalidExchange : mg "InvalidExchange" = some (.ref (a.XC "InvalidExchange"))
 g_InvalidFixed : mg "InvalidFixed" = some (.ref (a.XC "InvalidFixed"))
 g_InvalidName : mg "InvalidName" = some (.ref (a.XC "InvalidName"))
 g_InvalidNumber : mg "InvalidNumber" = some (.ref (a.XC "InvalidNumber"))
 g_InvalidPlan : mg "InvalidPlan" = some (.ref (a.XC "InvalidPlan"))
 g_InvalidSeat : mg "InvalidSeat" = some (.ref (a.XC "InvalidSeat"))
 g_InvalidSeats : mg "InvalidSeats" = some (.ref (a.XC "InvalidSeats"))
 g_InvalidStation : mg "InvalidStation" = some (.ref (a.XC "InvalidStation"))
 g_InvalidText : mg "InvalidText" = some (.ref (a.XC "InvalidText"))
 g_InvalidTrips : mg "InvalidTrips" = some (.ref (a.XC "InvalidTrips"))
 g_NameTaken : mg "NameTaken" = some (.ref (a.XC "NameTaken"))
 g_NotALine : mg "NotALine" = some (.ref (a.XC "NotALine"))
 g_NotFree : mg "NotFree" = some (.ref (a.XC "NotFree"))
 g_NothingToUndo : mg "NothingToUndo" = some (.ref (a.XC "NothingToUndo"))
 g_Overfull : mg "Overfull" = some (.ref (a.XC "Overfull"))
 g_SeatError : mg "SeatError" = some (.ref (a.XC "SeatError"))
 g_SizeError : mg "SizeError" = some (.ref (a.XC "SizeError"))
 g_StateError : mg "StateError" = some (.ref (a.XC "StateError"))
 g_TooManyEntries : mg "TooManyEntries" = some (.ref (a.XC "TooManyEntries"))
 g_TooManyPlans : mg "TooManyPlans" = some (.ref (a.XC "TooManyPlans"))
 g_TooManyTrips : mg "TooManyTrips" = some (.ref (a.XC "TooManyTrips"))
 xa_InvalidSeats : XAll P K mg "InvalidSeats" (a.XC "InvalidSeats") "value"
 xa_InvalidTrips : XAll P K mg "InvalidTrips" (a.XC "InvalidTrips") "index"
 n_seat_count : NoAttr K a.CLine "seat_count"
 n_rows : NoAttr K a.CLine "rows"
 n_queue : NoAttr K a.CLine "queue"
 F_law_cell : Fun K "_law_cell" "_law_cell" s_law_cell a.f_law_cell a.d_law_cell
 g__law_cell : mg "_law_cell" = some (.ref a.f_law_cell)
 k__law_cell : PySem.W.keepIn K (.ref a.f_law_cell) = true
 F_law_pool : Fun K "_law_pool" "_law_pool" s_law_pool a.f_law_pool a.d_law_pool
 g__law_pool : mg "_law_pool" = some (.ref a.f_law_pool)
 k__law_pool : PySem.W.keepIn K (.ref a.f_law_pool) = true
 F_is_integer : Fun K "is_integer" "is_integer" s_is_integer a.f_is_integer a.d_is_integer
 g_is_integer : mg "is_integer" = some (.ref a.f_is_integer)
 k_is_integer : PySem.W.keepIn K (.ref a.f_is_integer) = true
 F_check_seatsX : Fun K "check_seats" "check_seats" s_check_seatsX a.f_check_seatsX a.d_check_seatsX
 g_check_seats : mg "check_seats" = some (.ref a.f_check_seatsX)
 k_check_seats : PySem.W.keepIn K (.ref a.f_check_seatsX) = true
 F_is_later : Fun K "is_later" "is_later" s_is_later a.f_is_later a.d_is_later
 g_is_later : mg "is_later" = some (.ref a.f_is_later)
 k_is_later : PySem.W.keepIn K (.ref a.f_is_later) = true
 F_is_station : Fun K "is_station" "is_station" s_is_station a.f_is_station a.d_is_station
 g_is_station : mg "is_station" = some (.ref a.f_is_station)
 k_is_station : PySem.W.keepIn K (.ref a.f_is_station) = true
 F_is_trip_name : Fun K "is_trip_name" "is_trip_name" s_is_trip_name a.f_is_trip_name a.d_is_trip_name
 g_is_trip_name : mg "is_trip_name" = some (.ref a.f_is_trip_name)
 k_is_trip_name : PySem.W.keepIn K (.ref a.f_is_trip_name) = true
 F_is_tripE : Fun K "is_trip" "is_trip" s_is_tripE a.f_is_tripE a.d_is_tripE
 g_is_trip : mg "is_trip" = some (.ref a.f_is_tripE)
 k_is_trip : PySem.W.keepIn K (.ref a.f_is_tripE) = true
 F_valid_beginningE : Fun K "valid_beginning" "valid_beginning" s_valid_beginningE a.f_valid_beginningE a.d_valid_beginningE
 g_valid_beginning : mg "valid_beginning" = some (.ref a.f_valid_beginningE)
 k_valid_beginning : PySem.W.keepIn K (.ref a.f_valid_beginningE) = true
 F_Line_capacity : Fun K "capacity" "Line.capacity" s_Line_capacity a.f_Line_capacity a.d_Line_capacity
 F_Line_trips : Fun K "trips" "Line.trips" s_Line_trips a.f_Line_trips a.d_Line_trips
 F_Line_len : Fun K "__len__" "Line.__len__" s_Line_len a.f_Line_len a.d_Line_len
 F_Line_eq : Fun K "__eq__" "Line.__eq__" s_Line_eq a.f_Line_eq a.d_Line_eq
 F_Line_str : Fun K "__str__" "Line.__str__" s_Line_str a.f_Line_str a.d_Line_str
 F_Line_initX : FunX K "__init__" "Line.__init__" s_Line_initX [.ref a.eL] a.cL a.f_Line_initX a.d_Line_initX
 F_load_of : Fun K "load_of" "load_of" s_load_of a.f_load_of a.d_load_of
 g_load_of : mg "load_of" = some (.ref a.f_load_of)
 k_load_of : PySem.W.keepIn K (.ref a.f_load_of) = true
 F_Line_order : Fun K "order" "Line.order" s_Line_order a.f_Line_order a.d_Line_order
 F_Line_peak : Fun K "peak" "Line.peak" s_Line_peak a.f_Line_peak a.d_Line_peak
 F_Line_made : FunC K "made" "Line.made" s_Line_made a.cT a.f_Line_made a.d_Line_made
 F_law_draw : Fun K "_law_draw" "_law_draw" s_law_draw a.f_law_draw a.d_law_draw
 g__law_draw : mg "_law_draw" = some (.ref a.f_law_draw)
 k__law_draw : PySem.W.keepIn K (.ref a.f_law_draw) = true
 F_law_far : Fun K "_law_far" "_law_far" s_law_far a.f_law_far a.d_law_far
 g__law_far : mg "_law_far" = some (.ref a.f_law_far)
 k__law_far : PySem.W.keepIn K (.ref a.f_law_far) = true
 F_law_rides : Fun K "_law_rides" "_law_rides" s_law_rides a.f_law_rides a.d_law_rides
 g__law_rides : mg "_law_rides" = some (.ref a.f_law_rides)
 k__law_rides : PySem.W.keepIn K (.ref a.f_law_rides) = true
 F_law_trip : Fun K "_law_trip" "_law_trip" s_law_trip a.f_law_trip a.d_law_trip
 g__law_trip : mg "_law_trip" = some (.ref a.f_law_trip)
 k__law_trip : PySem.W.keepIn K (.ref a.f_law_trip) = true
 F_law_due : Fun K "_law_due" "_law_due" s_law_due a.f_law_due a.d_law_due
 g__law_due : mg "_law_due" = some (.ref a.f_law_due)
 k__law_due : PySem.W.keepIn K (.ref a.f_law_due) = true
 F_law_same : Fun K "_law_same" "_law_same" s_law_same a.f_law_same a.d_law_same
 g__law_same : mg "_law_same" = some (.ref a.f_law_same)
 k__law_same : PySem.W.keepIn K (.ref a.f_law_same) = true
 F_law_some : Fun K "_law_some" "_law_some" s_law_some a.f_law_some a.d_law_some
 g__law_some : mg "_law_some" = some (.ref a.f_law_some)
 k__law_some : PySem.W.keepIn K (.ref a.f_law_some) = true
 F_law_other_fields : Fun K "_law_other_fields" "_law_other_fields" s_law_other_fields a.f_law_other_fields a.d_law_other_fields
 g__law_other_fields : mg "_law_other_fields" = some (.ref a.f_law_other_fields)
 k__law_other_fields : PySem.W.keepIn K (.ref a.f_law_other_fields) = true
 F_law_fields : Fun K "_law_fields" "_law_fields" s_law_fields a.f_law_fields a.d_law_fields
 g__law_fields : mg "_law_fields" = some (.ref a.f_law_fields)
 k__law_fields : PySem.W.keepIn K (.ref a.f_law_fields) = true
 F_law_kind : Fun K "_law_kind" "_law_kind" s_law_kind a.f_law_kind a.d_law_kind
 g__law_kind : mg "_law_kind" = some (.ref a.f_law_kind)
 k__law_kind : PySem.W.keepIn K (.ref a.f_law_kind) = true
 F_law_caught : Fun K "_law_caught" "_law_caught" s_law_caught a.f_law_caught a.d_law_caught
 g__law_caught : mg "_law_caught" = some (.ref a.f_law_caught)
 k__law_caught : PySem.W.keepIn K (.ref a.f_law_caught) = true
 F_law_words : Fun K "_law_words" "_law_words" s_law_words a.f_law_words a.d_law_words
 g__law_words : mg "_law_words" = some (.ref a.f_law_words)
 k__law_words : PySem.W.keepIn K (.ref a.f_law_words) = true
 F_law_right05 : FunC K "_law_right" "_law_right" s_law_right05 a.cT3 a.f_law_right05 a.d_law_right05
 g__law_right : mg "_law_right" = some (.ref a.f_law_right05)
 k__law_right : PySem.W.keepIn K (.ref a.f_law_right05) = true
 F_law05 : Fun K "law" "law" s_law05 a.f_law05 a.d_law05
 g_law : mg "law" = some (.ref a.f_law05)
 k_law : PySem.W.keepIn K (.ref a.f_law05) = true
 b_ArithmeticError : mg "ArithmeticError" = none
 v_LETTERS : ∃ u, mg "LETTERS" = some u ∧ RelV (.str ("abcdefghijklmnopqrstuvwxyz" : Str)) u
 v_LONGEST_NAME : ∃ u, mg "LONGEST_NAME" = some u ∧ RelV (.int 8) u
 b_LookupError : mg "LookupError" = none
 v_MAX_SEATS : ∃ u, mg "MAX_SEATS" = some u ∧ RelV (.int 20) u
 v_MAX_TRIPS : ∃ u, mg "MAX_TRIPS" = some u ∧ RelV (.int 24) u
 b_ValueError : mg "ValueError" = none
 b_abs : mg "abs" = none
 b_all : mg "all" = none
 b_bool : mg "bool" = none
 b_divmod : mg "divmod" = none
 b_enumerate : mg "enumerate" = none
 b_int : mg "int" = none
 b_isinstance : mg "isinstance" = none
 b_len : mg "len" = none
 b_max : mg "max" = none
 b_min : mg "min" = none
 b_range : mg "range" = none
 b_repr : mg "repr" = none
 b_sorted : mg "sorted" = none
 b_str : mg "str" = none
 b_super : mg "super" = none
 b_tuple : mg "tuple" = none
section
variable {P : Program} {w : World} {K : PySem.W.Frag} {mg : Str → Option Value} {base : Heap} {a : Ad}
abbrev TT (a : Ad) : List (Addr × Str) := [(a.tL, ("Line.__init__.<locals>.<lambda>" : Str)), (a.tT, ("Line.made.<locals>.<lambda>" : Str)), (a.tT3, ("_law_right.<locals>.<lambda>" : Str))]
structure TB2 (base : Heap) (mg : Str → Option Value) (a : Ad) : Prop where
 t1 : LamX.TabB base mg a.cL a.tL
 t2 : LamX.TabB base mg a.cT a.tT
 t3 : LamX.TabB base mg a.cT3 a.tT3
theorem TT_mem_t1 (a : Ad) : (a.tL, ("Line.__init__.<locals>.<lambda>" : Str)) ∈ TT a := List.mem_cons_self
theorem TT_one_t1 (t : Tx P w K mg a) : ∀ q ∈ TT a, q.1 = a.tL → q.2 = ("Line.__init__.<locals>.<lambda>" : Str) := fun q hq e => by
 simp only [TT, List.mem_cons, List.not_mem_nil, or_false] at hq
 rcases hq with rfl | rfl | rfl
 ·rfl
 ·exact absurd e.symm t.tne01
 ·exact absurd e.symm t.tne02
theorem TT_mem_t2 (a : Ad) : (a.tT, ("Line.made.<locals>.<lambda>" : Str)) ∈ TT a := List.mem_cons_of_mem _ (List.mem_cons_self)
theorem TT_one_t2 (t : Tx P w K mg a) : ∀ q ∈ TT a, q.1 = a.tT → q.2 = ("Line.made.<locals>.<lambda>" : Str) := fun q hq e => by
 simp only [TT, List.mem_cons, List.not_mem_nil, or_false] at hq
 rcases hq with rfl | rfl | rfl
 ·exact absurd e t.tne01
 ·rfl
 ·exact absurd e.symm t.tne12
theorem TT_mem_t3 (a : Ad) : (a.tT3, ("_law_right.<locals>.<lambda>" : Str)) ∈ TT a := List.mem_cons_of_mem _ (List.mem_cons_of_mem _ (List.mem_cons_self))
theorem TT_one_t3 (t : Tx P w K mg a) : ∀ q ∈ TT a, q.1 = a.tT3 → q.2 = ("_law_right.<locals>.<lambda>" : Str) := fun q hq e => by
 simp only [TT, List.mem_cons, List.not_mem_nil, or_false] at hq
 rcases hq with rfl | rfl | rfl
 ·exact absurd e t.tne02
 ·exact absurd e t.tne12
 ·rfl
theorem bd_law_cell (t : Tx P w K mg a) : Binds K a.d_law_cell [("_law_script" : Str), ("_law_k" : Str)] [] := t.F_law_cell.binds fun _ _ _ _ _ _ us hl => match us, hl with | [_, _], _ => rfl
theorem ok_law_cell (t : Tx P w K mg a) (tb : TB2 base mg a) : FnOk P w K mg base CX0 1 a.f_law_cell a.d_law_cell [("_law_script" : Str), ("_law_k" : Str)] (upSp K (TT a) (sp_law_cell K a.CLine)) :=
 okP t.F_law_cell sc_law_cell (fun _ _ h => len_law_cell h) (by decide) fun cdv A outer s H E hr => ⟨ts_law_cell K a.CLine, zs_cons (z_if (zt_cmp zo_lt (zv 1) (z_callB zc_len (by rfl) t.b_len (by decide +kernel) (za_cons (zv 0) (za_nil)))) (zs_one (z_ret (z_ix (zv 0) (zv 1)))) (zs_nil)) (zs_cons (z_set (i := 2) sc_law_cell.nd rfl (Or.inl rfl) (z_op zo_mod (z_op zo_mulA (z_int) (z_op zo_add (z_op zo_add (z_op zo_mulA (zv 1) (zv 1)) (z_op zo_mulA (z_int) (zv 1))) (z_int))) (z_int))) (zs_cons (z_for PassesOwn.never rfl (zi_list (z_slice (zv 0) (zp_none) (zp_some (z_int)))) (zg_name (i := 3) sc_law_cell.nd rfl (Or.inl rfl)) (zs_one (z_set (i := 2) sc_law_cell.nd rfl (Or.inl rfl) (z_op zo_mod (z_op zo_add (z_op zo_mulA (zv 2) (z_int)) (zv 3)) (z_int))))) (zs_one (z_ret (zv 2))))), fun _ _ h => rd_law_cell h⟩
theorem bd_law_pool (t : Tx P w K mg a) : Binds K a.d_law_pool [("_law_cell_here" : Str)] [] := t.F_law_pool.binds fun _ _ _ _ _ _ us hl => match us, hl with | [_], _ => rfl
theorem ok_law_pool (t : Tx P w K mg a) (tb : TB2 base mg a) : FnOk P w K mg base CX0 1 a.f_law_pool a.d_law_pool [("_law_cell_here" : Str)] (upSpF K (TT a) (sp_law_pool K a.CLine)) :=
 okF t.F_law_pool sc_law_pool (fun _ _ h => len_law_pool h) (by decide) fun cdv A outer s H E hr => ⟨ts_law_pool K a.CLine, zsf_cons (z_set (i := 1) sc_law_pool.nd rfl (Or.inl rfl) (z_int)) (zsf_cons (z_if ((zw_or (zt_cmp zo_lt (zv 0) (z_int)) (zw_or1 (zt_cmp zo_ge (zv 0) (z_op zo_pow (z_int) (z_int))))).pt) (zs_one (z_set (i := 1) sc_law_pool.nd rfl (Or.inl rfl) (z_callB zc_abs (by rfl) t.b_abs (by decide +kernel) (za_cons (zv 0) (za_nil))))) (zs_nil)) (zsf_ret (zf_lst (za_cons (z_op zo_mod (zv 0) (z_int)) (za_cons (zv 1) (za_cons (z_int) (za_nil))))))), fun _ _ h => rd_law_pool h⟩
theorem bd_is_integer (t : Tx P w K mg a) : Binds K a.d_is_integer [("thing" : Str)] [] := t.F_is_integer.binds fun _ _ _ _ _ _ us hl => match us, hl with | [_], _ => rfl
theorem ok_is_integer (t : Tx P w K mg a) (tb : TB2 base mg a) : FnOk P w K mg base CX0 1 a.f_is_integer a.d_is_integer [("thing" : Str)] (upSp K (TT a) (sp_is_integer K a.CLine)) :=
 okP t.F_is_integer sc_is_integer (fun _ _ h => len_is_integer h) (by decide) fun cdv A outer s H E hr => ⟨ts_is_integer K a.CLine, zs_one (z_ret (z_and (z_callB zc_isi (by rfl) t.b_isinstance (by decide +kernel) (za_cons (zv 0) (za_cons (z_ty (by rfl) t.b_int (by decide +kernel)) (za_nil)))) (z_one (z_not (z_callB zc_isi (by rfl) t.b_isinstance (by decide +kernel) (za_cons (zv 0) (za_cons (z_ty (by rfl) t.b_bool (by decide +kernel)) (za_nil)))))))), fun _ _ h => rd_is_integer h⟩
theorem bd_check_seatsX (t : Tx P w K mg a) : Binds K a.d_check_seatsX [("seats" : Str)] [] := t.F_check_seatsX.binds fun _ _ _ _ _ _ us hl => match us, hl with | [_], _ => rfl
theorem okx_check_seatsX (t : Tx P w K mg a) (tb : TB2 base mg a) : FnOk P w K mg base (L2N.CX P w) 2 a.f_check_seatsX a.d_check_seatsX [("seats" : Str)] (upSpX K (TT a) (sp_check_seatsX K a.CLine a.XC)) :=
 okXP t.F_check_seatsX sc_check_seatsX (fun _ _ _ h => len_check_seatsX h) (by decide) fun cdv A outer s H E hr tk hp => ⟨ts_check_seatsX K a.CLine a.XC, zxs_one (zx_if ((zw_or (zt_not (zt_val (z_call (ok_is_integer t tb) (hr.mono (by decide)) (by rfl) t.g_is_integer t.k_is_integer (bd_is_integer t) .nil (fun _ _ => .nil) (za_cons (zv 0) (za_nil))))) (zw_or1 (zt_not (zt_chain zo_le zo_le (z_int) (zv 0) (z_gi (by rfl) t.v_MAX_SEATS))))).pt) (zxs_one (zx_raise t.xa_InvalidSeats.ok t.b_super tk rfl (L2H.roomH_of (hr.mono (by decide))) (by rfl) (zv 0))) (zxs_pl (zs_nil))), fun _ _ _ h => rd_check_seatsX h⟩
theorem bd_is_later (t : Tx P w K mg a) : Binds K a.d_is_later [("thing" : Str), ("start" : Str)] [] := t.F_is_later.binds fun _ _ _ _ _ _ us hl => match us, hl with | [_, _], _ => rfl
theorem ok_is_later (t : Tx P w K mg a) (tb : TB2 base mg a) : FnOk P w K mg base CX0 2 a.f_is_later a.d_is_later [("thing" : Str), ("start" : Str)] (upSp K (TT a) (sp_is_later K a.CLine)) :=
 okP t.F_is_later sc_is_later (fun _ _ h => len_is_later h) (by decide) fun cdv A outer s H E hr => ⟨ts_is_later K a.CLine, zs_one (z_ret (z_and (z_call (ok_is_integer t tb) (hr.mono (by decide)) (by rfl) t.g_is_integer t.k_is_integer (bd_is_integer t) .nil (fun _ _ => .nil) (za_cons (zv 0) (za_nil))) (z_one (z_cmp zo_gt (zv 0) (zv 1))))), fun _ _ h => rd_is_later h⟩
theorem bd_is_station (t : Tx P w K mg a) : Binds K a.d_is_station [("thing" : Str)] [] := t.F_is_station.binds fun _ _ _ _ _ _ us hl => match us, hl with | [_], _ => rfl
theorem ok_is_station (t : Tx P w K mg a) (tb : TB2 base mg a) : FnOk P w K mg base CX0 2 a.f_is_station a.d_is_station [("thing" : Str)] (upSp K (TT a) (sp_is_station K a.CLine)) :=
 okP t.F_is_station sc_is_station (fun _ _ h => len_is_station h) (by decide) fun cdv A outer s H E hr => ⟨ts_is_station K a.CLine, zs_one (z_ret (z_and (z_call (ok_is_integer t tb) (hr.mono (by decide)) (by rfl) t.g_is_integer t.k_is_integer (bd_is_integer t) .nil (fun _ _ => .nil) (za_cons (zv 0) (za_nil))) (z_one (z_cmp zo_ge (zv 0) (z_int))))), fun _ _ h => rd_is_station h⟩
theorem bd_is_trip_name (t : Tx P w K mg a) : Binds K a.d_is_trip_name [("thing" : Str)] [] := t.F_is_trip_name.binds fun _ _ _ _ _ _ us hl => match us, hl with | [_], _ => rfl
theorem ok_is_trip_name (t : Tx P w K mg a) (tb : TB2 base mg a) : FnOk P w K mg base CX0 1 a.f_is_trip_name a.d_is_trip_name [("thing" : Str)] (upSp K (TT a) (sp_is_trip_name K a.CLine)) :=
 okP t.F_is_trip_name sc_is_trip_name (fun _ _ h => len_is_trip_name h) (by decide) fun cdv A outer s H E hr => ⟨ts_is_trip_name K a.CLine, zs_cons (z_if ((zw_or (zt_not (zt_val (z_callB zc_isi (by rfl) t.b_isinstance (by decide +kernel) (za_cons (zv 0) (za_cons (z_ty (by rfl) t.b_str (by decide +kernel)) (za_nil)))))) (zw_or1 (zt_not (zt_chain zo_le zo_le (z_int) (z_callB zc_len (by rfl) t.b_len (by decide +kernel) (za_cons (zv 0) (za_nil))) (z_gi (by rfl) t.v_LONGEST_NAME))))).pt) (zs_one (z_ret (z_bl))) (zs_nil)) (zs_one (z_ret (z_callB (zc_all rfl) (by rfl) t.b_all (by decide +kernel) (za_cons (z_val (zf_lc (own := [(("letter" : Str), 1)]) (pe_lc (own := [(("letter" : Str), 1)]) rfl sc_is_trip_name.nd (zi_str (zv 0)) (blkOk_by (own := [(("letter" : Str), 1)]) (N := N_is_trip_name) (sc := defScope s_is_trip_name) (by decide +kernel)) (fun _ _ _ _ _ => zgw_name (by decide) (pg_name (i := 1) sc_is_trip_name.nd rfl (Or.inl rfl))) (fun _ _ _ _ _ => zts_nil) (fun _ _ _ _ _ => z_cmp zo_in (zv 1) (z_gs (by rfl) t.v_LETTERS))))) (za_nil))))), fun _ _ h => rd_is_trip_name h⟩
theorem bd_is_tripE (t : Tx P w K mg a) : Binds K a.d_is_tripE [("thing" : Str)] [] := t.F_is_tripE.binds fun _ _ _ _ _ _ us hl => match us, hl with | [_], _ => rfl
theorem ok_is_tripE (t : Tx P w K mg a) (tb : TB2 base mg a) : FnOk P w K mg base CX0 3 a.f_is_tripE a.d_is_tripE [("thing" : Str)] (upSp K (TT a) (sp_is_tripE K a.CLine)) :=
 okP t.F_is_tripE sc_is_tripE (fun _ _ h => len_is_tripE h) (by decide) fun cdv A outer s H E hr => ⟨ts_is_tripE K a.CLine, zs_cons (z_if ((zw_or (zt_not (zt_val (z_callB zc_isi (by rfl) t.b_isinstance (by decide +kernel) (za_cons (zv 0) (za_cons (z_ty (by rfl) t.b_tuple (by decide +kernel)) (za_nil)))))) (zw_or1 (zt_cmp zo_neI (z_callB zc_len (by rfl) t.b_len (by decide +kernel) (za_cons (zv 0) (za_nil))) (z_int)))).pt) (zs_one (z_ret (z_bl))) (zs_nil)) (zs_cons (z_asg (zv 0) (zg_tup (pg_tup rfl (zgs_cons1 (zg_name (i := 1) sc_is_tripE.nd rfl (Or.inl rfl)) (zgs_cons1 (zg_name (i := 2) sc_is_tripE.nd rfl (Or.inl rfl)) (zgs_cons1 (zg_name (i := 3) sc_is_tripE.nd rfl (Or.inl rfl)) (zgs_nil))))))) (zs_one (z_ret (z_and (z_call (ok_is_trip_name t tb) (hr.mono (by decide)) (by rfl) t.g_is_trip_name t.k_is_trip_name (bd_is_trip_name t) .nil (fun _ _ => .nil) (za_cons (zv 1) (za_nil))) (z_and (z_call (ok_is_station t tb) (hr.mono (by decide)) (by rfl) t.g_is_station t.k_is_station (bd_is_station t) .nil (fun _ _ => .nil) (za_cons (zv 2) (za_nil))) (z_one (z_call (ok_is_later t tb) (hr.mono (by decide)) (by rfl) t.g_is_later t.k_is_later (bd_is_later t) .nil (fun _ _ => .nil) (za_cons (zv 3) (za_cons (zv 2) (za_nil)))))))))), fun _ _ h => rd_is_tripE h⟩
theorem bd_valid_beginningE (t : Tx P w K mg a) : Binds K a.d_valid_beginningE [("trips" : Str)] [] := t.F_valid_beginningE.binds fun _ _ _ _ _ _ us hl => match us, hl with | [_], _ => rfl
theorem ok_valid_beginningE (t : Tx P w K mg a) (tb : TB2 base mg a) : FnOk P w K mg base CX0 4 a.f_valid_beginningE a.d_valid_beginningE [("trips" : Str)] (upSp K (TT a) (sp_valid_beginningE K a.CLine)) :=
 okP t.F_valid_beginningE sc_valid_beginningE (fun _ _ h => len_valid_beginningE h) (by decide) fun cdv A outer s H E hr => ⟨ts_valid_beginningE K a.CLine, zs_cons (z_set (i := 1) sc_valid_beginningE.nd rfl (Or.inl rfl) (z_str)) (zs_cons (z_for PassesOwn.never rfl (zi_enum1 (by rfl) t.b_enumerate (zv 0)) (zg_tup (pg_tup rfl (zgs_cons1 (zg_name (i := 2) sc_valid_beginningE.nd rfl (Or.inl rfl)) (zgs_cons1 (zg_name (i := 3) sc_valid_beginningE.nd rfl (Or.inl rfl)) (zgs_nil))))) (zs_cons (z_if ((zw_or (zt_cmp zo_eqI (zv 2) (z_gi (by rfl) t.v_MAX_TRIPS)) (zw_or (zt_not (zt_val (z_call (ok_is_tripE t tb) (hr.mono (by decide)) (by rfl) t.g_is_trip t.k_is_trip (bd_is_tripE t) .nil (fun _ _ => .nil) (za_cons (zv 3) (za_nil))))) (zw_or1 (zt_cmp zo_le (z_ix (zv 3) (z_int)) (zv 1))))).pt) (zs_one (z_ret (zv 2))) (zs_nil)) (zs_one (z_set (i := 1) sc_valid_beginningE.nd rfl (Or.inl rfl) (z_ix (zv 3) (z_int)))))) (zs_one (z_ret (z_callB zc_len (by rfl) t.b_len (by decide +kernel) (za_cons (zv 0) (za_nil)))))), fun _ _ h => rd_valid_beginningE h⟩
theorem bd_Line_capacity (t : Tx P w K mg a) : Binds K a.d_Line_capacity [("self" : Str)] [] := t.F_Line_capacity.binds fun _ _ _ _ _ _ us hl => match us, hl with | [_], _ => rfl
theorem ok_Line_capacity (t : Tx P w K mg a) (tb : TB2 base mg a) : FnOk P w K mg base CX0 1 a.f_Line_capacity a.d_Line_capacity [("self" : Str)] (upSp K (TT a) (sp_Line_capacity K a.CLine)) :=
 okP t.F_Line_capacity sc_Line_capacity (fun _ _ h => len_Line_capacity h) (by decide) fun cdv A outer s H E hr => ⟨ts_Line_capacity K a.CLine, zs_one (z_ret (z_fld t.cl t.n_seat_count (zv 0))), fun _ _ h => rd_Line_capacity h⟩
theorem bd_Line_trips (t : Tx P w K mg a) : Binds K a.d_Line_trips [("self" : Str)] [] := t.F_Line_trips.binds fun _ _ _ _ _ _ us hl => match us, hl with | [_], _ => rfl
theorem ok_Line_trips (t : Tx P w K mg a) (tb : TB2 base mg a) : FnOk P w K mg base CX0 1 a.f_Line_trips a.d_Line_trips [("self" : Str)] (upSp K (TT a) (sp_Line_trips K a.CLine)) :=
 okP t.F_Line_trips sc_Line_trips (fun _ _ h => len_Line_trips h) (by decide) fun cdv A outer s H E hr => ⟨ts_Line_trips K a.CLine, zs_one (z_ret (z_fld t.cl t.n_rows (zv 0))), fun _ _ h => rd_Line_trips h⟩
theorem bd_Line_len (t : Tx P w K mg a) : Binds K a.d_Line_len [("self" : Str)] [] := t.F_Line_len.binds fun _ _ _ _ _ _ us hl => match us, hl with | [_], _ => rfl
theorem ok_Line_len (t : Tx P w K mg a) (tb : TB2 base mg a) : FnOk P w K mg base CX0 1 a.f_Line_len a.d_Line_len [("self" : Str)] (upSp K (TT a) (sp_Line_len K a.CLine)) :=
 okP t.F_Line_len sc_Line_len (fun _ _ h => len_Line_len h) (by decide) fun cdv A outer s H E hr => ⟨ts_Line_len K a.CLine, zs_one (z_ret (z_callB zc_len (by rfl) t.b_len (by decide +kernel) (za_cons (z_fld t.cl t.n_rows (zv 0)) (za_nil)))), fun _ _ h => rd_Line_len h⟩
theorem bd_Line_eq (t : Tx P w K mg a) : Binds K a.d_Line_eq [("self" : Str), ("other" : Str)] [] := t.F_Line_eq.binds fun _ _ _ _ _ _ us hl => match us, hl with | [_, _], _ => rfl
theorem ok_Line_eq (t : Tx P w K mg a) (tb : TB2 base mg a) : FnOk P w K mg base CX0 1 a.f_Line_eq a.d_Line_eq [("self" : Str), ("other" : Str)] (upSp K (TT a) (sp_Line_eq K a.CLine)) :=
 okP t.F_Line_eq sc_Line_eq (fun _ _ h => len_Line_eq h) (by decide) fun cdv A outer s H E hr => ⟨ts_Line_eq K a.CLine, zs_one (z_ret (z_and (z_callB zc_isi (by rfl) t.b_isinstance (by decide +kernel) (za_cons (zv 1) (za_cons (z_gc (by rfl) t.g_Line) (za_nil)))) (z_and (z_cmp (zo_eq hr.units) (z_fld t.cl t.n_seat_count (zv 0)) (z_fld t.cl t.n_seat_count (zv 1))) (z_one (z_cmp (zo_eq hr.units) (z_fld t.cl t.n_rows (zv 0)) (z_fld t.cl t.n_rows (zv 1))))))), fun _ _ h => rd_Line_eq h⟩
theorem bd_Line_str (t : Tx P w K mg a) : Binds K a.d_Line_str [("self" : Str)] [] := t.F_Line_str.binds fun _ _ _ _ _ _ us hl => match us, hl with | [_], _ => rfl
theorem ok_Line_str (t : Tx P w K mg a) (tb : TB2 base mg a) : FnOk P w K mg base CX0 1 a.f_Line_str a.d_Line_str [("self" : Str)] (upSp K (TT a) (sp_Line_str K a.CLine)) :=
 okP t.F_Line_str sc_Line_str (fun _ _ h => len_Line_str h) (by decide) fun cdv A outer s H E hr => ⟨ts_Line_str K a.CLine, zs_cons (z_setLc (own := [(("name" : Str), 2), (("start" : Str), 3), (("end" : Str), 4)]) (i := 1) (ps_setLc (own := [(("name" : Str), 2), (("start" : Str), 3), (("end" : Str), 4)]) rfl sc_Line_str.nd (i := 1) rfl rfl rfl (zi_tup (z_fld t.cl t.n_rows (zv 0))) (blkOk_by (own := [(("name" : Str), 2), (("start" : Str), 3), (("end" : Str), 4)]) (N := N_Line_str) (sc := defScope s_Line_str) (by decide +kernel)) (fun _ _ _ _ _ => zgw_tup (pg_tup rfl (zgsw_cons (pgs_cons (zgw_name (by decide) (pg_name (i := 2) sc_Line_str.nd rfl (Or.inl rfl))) (zgsw_cons (pgs_cons (zgw_name (by decide) (pg_name (i := 3) sc_Line_str.nd rfl (Or.inl rfl))) (zgsw_cons (pgs_cons (zgw_name (by decide) (pg_name (i := 4) sc_Line_str.nd rfl (Or.inl rfl))) (zgsw_nil))))))))) (fun _ _ _ _ _ => zts_nil) (fun _ _ _ _ _ => z_js (ts := [tFmtP (tVarP 2), tConP (.str (":" : Str)), tFmtP (tVarP 3), tConP (.str ("-" : Str)), tFmtP (tVarP 4)]) (.cons (z_fmt (zv 2)) (.cons (z_str) (.cons (z_fmt (zv 3)) (.cons (z_str) (.cons (z_fmt (zv 4)) (.nil))))))))) (zs_one (z_ret (z_join rfl (pe_join (z_str) (z_lst (za_cons (z_callTy zc_str (by rfl) t.b_str (by decide +kernel) (za_cons (z_fld t.cl t.n_seat_count (zv 0)) (za_nil))) (za_star (zv 1) (za_nil)))))))), fun _ _ h => rd_Line_str h⟩
theorem bd_Line_initX (t : Tx P w K mg a) : Binds K a.d_Line_initX [("self" : Str), ("seats" : Str), ("trips" : Str)] [] := t.F_Line_initX.b0 (by simp) fun T kV doc pm an cdv ct us its h1 h2 => match us, its, h1, h2 with | [_, _, _], [_], _, _ => ⟨_, rfl, rfl⟩
theorem b1_Line_initX (t : Tx P w K mg a) : ∃ ds, Vals [.ref a.eL] ds ∧ Binds K a.d_Line_initX [("self" : Str), ("seats" : Str), ("trips" : Str)] ds := t.F_Line_initX.d.binds1 2 0 (by simp) rfl fun T kV doc pm an cdv ct us its h1 h2 => match us, its, h1, h2 with | [_, _], [_], _, _ => ⟨_, rfl, rfl⟩
theorem okx_Line_initX (t : Tx P w K mg a) (tb : TB2 base mg a) : FnOk P w K mg base (L2N.CX P w) 5 a.f_Line_initX a.d_Line_initX [("self" : Str), ("seats" : Str), ("trips" : Str)] (upSpRX K (TT a) (sp_Line_initX K a.CLine a.XC)) :=
 okXRX (nm := ("self" : Str)) (N := [("seats" : Str), ("trips" : Str), ("valid" : Str)]) (ps := [("seats" : Str), ("trips" : Str)]) t.F_Line_initX sc_Line_initX (fun _ _ _ _ h => len_Line_initX h) (by decide) fun A outer s H E hr tk hp => ⟨ts_Line_initX K a.CLine a.XC, zxs_cons (zx_expr (zx_call (okx_check_seatsX t tb) tk (hr.mono (by decide)) (by rfl) t.g_check_seats t.k_check_seats (bd_check_seatsX t) .nil (fun _ _ => .nil) (za_cons (zv 1) (za_nil)))) (zxs_cons (zx_if (zt_not (zt_val (z_callB zc_isi (by rfl) t.b_isinstance (by decide +kernel) (za_cons (zv 2) (za_cons (z_ty (by rfl) t.b_tuple (by decide +kernel)) (za_nil)))))) (zxs_one (zx_raise t.xa_InvalidTrips.ok t.b_super tk rfl (L2H.roomH_of (hr.mono (by decide))) (by rfl) (z_non))) (zxs_pl (zs_nil))) (zxs_cons (zx_pl (z_set (i := 3) sc_Line_initX.nd rfl (Or.inl rfl) (z_call (ok_valid_beginningE t tb) (hr.mono (by decide)) (by rfl) t.g_valid_beginning t.k_valid_beginning (bd_valid_beginningE t) .nil (fun _ _ => .nil) (za_cons (zv 2) (za_nil))))) (zxs_cons (zx_if (zt_cmp zo_lt (zv 3) (z_callB zc_len (by rfl) t.b_len (by decide +kernel) (za_cons (zv 2) (za_nil)))) (zxs_one (zx_raise t.xa_InvalidTrips.ok t.b_super tk rfl (L2H.roomH_of (hr.mono (by decide))) (by rfl) (zv 3))) (zxs_pl (zs_nil))) (zxs_pl (zs_cons (z_fldS t.cl t.n_seat_count (pv 0) (zv 1)) (zs_cons (z_fldS t.cl t.n_rows (pv 0) (zv 2)) (zs_one (z_fldS t.cl t.n_queue (pv 0) (z_callTy zc_tuple (by rfl) t.b_tuple (by decide +kernel) (za_cons (z_sortL (x := Str.empty) (i := 1) (j := 0) (nm := ("row" : Str)) (by rfl) t.b_sorted (zv 2) hr ⟨rfl, rfl, rfl, rfl, by decide +kernel⟩ rfl tb.t1 rfl (TT_mem_t1 a) (TT_one_t1 t) (by decide +kernel) rfl (fun _ _ _ _ _ => rfl) ⟨by decide, by decide⟩ ⟨by decide, by decide⟩ (by decide)) (za_nil))))))))))), fun _ _ _ _ h => rd_Line_initX h⟩
theorem bd_load_of (t : Tx P w K mg a) : Binds K a.d_load_of [("trips" : Str), ("station" : Str)] [] := t.F_load_of.binds fun _ _ _ _ _ _ us hl => match us, hl with | [_, _], _ => rfl
theorem ok_load_of (t : Tx P w K mg a) (tb : TB2 base mg a) : FnOk P w K mg base CX0 1 a.f_load_of a.d_load_of [("trips" : Str), ("station" : Str)] (upSp K (TT a) (sp_load_of K a.CLine)) :=
 okP t.F_load_of sc_load_of (fun _ _ h => len_load_of h) (by decide) fun cdv A outer s H E hr => ⟨ts_load_of K a.CLine, zs_one (z_ret (z_callB zc_len (by rfl) t.b_len (by decide +kernel) (za_cons (z_val (zf_lc (own := [(("name" : Str), 2), (("start" : Str), 3), (("end" : Str), 4)]) (pe_lc (own := [(("name" : Str), 2), (("start" : Str), 3), (("end" : Str), 4)]) rfl sc_load_of.nd (zi_tup (zv 0)) (blkOk_by (own := [(("name" : Str), 2), (("start" : Str), 3), (("end" : Str), 4)]) (N := N_load_of) (sc := defScope s_load_of) (by decide +kernel)) (fun _ _ _ _ _ => zgw_tup (pg_tup rfl (zgsw_cons (pgs_cons (zgw_name (by decide) (pg_name (i := 2) sc_load_of.nd rfl (Or.inl rfl))) (zgsw_cons (pgs_cons (zgw_name (by decide) (pg_name (i := 3) sc_load_of.nd rfl (Or.inl rfl))) (zgsw_cons (pgs_cons (zgw_name (by decide) (pg_name (i := 4) sc_load_of.nd rfl (Or.inl rfl))) (zgsw_nil))))))))) (fun _ _ _ _ _ => zts_one (zt_chain zo_le zo_lt (zv 3) (zv 1) (zv 4))) (fun _ _ _ _ _ => zv 2)))) (za_nil)))), fun _ _ h => rd_load_of h⟩
theorem bd_Line_order (t : Tx P w K mg a) : Binds K a.d_Line_order [("self" : Str)] [] := t.F_Line_order.binds fun _ _ _ _ _ _ us hl => match us, hl with | [_], _ => rfl
theorem ok_Line_order (t : Tx P w K mg a) (tb : TB2 base mg a) : FnOk P w K mg base CX0 1 a.f_Line_order a.d_Line_order [("self" : Str)] (upSp K (TT a) (sp_Line_order K a.CLine)) :=
 okP t.F_Line_order sc_Line_order (fun _ _ h => len_Line_order h) (by decide) fun cdv A outer s H E hr => ⟨ts_Line_order K a.CLine, zs_one (z_ret (z_callTy zc_tuple (by rfl) t.b_tuple (by decide +kernel) (za_cons (z_val (zf_lc (own := [(("row" : Str), 1)]) (pe_lc (own := [(("row" : Str), 1)]) rfl sc_Line_order.nd (zi_tup (z_fld t.cl t.n_queue (zv 0))) (blkOk_by (own := [(("row" : Str), 1)]) (N := N_Line_order) (sc := defScope s_Line_order) (by decide +kernel)) (fun _ _ _ _ _ => zgw_name (by decide) (pg_name (i := 1) sc_Line_order.nd rfl (Or.inl rfl))) (fun _ _ _ _ _ => zts_nil) (fun _ _ _ _ _ => z_ix (zv 1) (z_int))))) (za_nil)))), fun _ _ h => rd_Line_order h⟩
theorem bd_Line_peak (t : Tx P w K mg a) : Binds K a.d_Line_peak [("self" : Str)] [] := t.F_Line_peak.binds fun _ _ _ _ _ _ us hl => match us, hl with | [_], _ => rfl
theorem ok_Line_peak (t : Tx P w K mg a) (tb : TB2 base mg a) : FnOk P w K mg base CX0 2 a.f_Line_peak a.d_Line_peak [("self" : Str)] (upSp K (TT a) (sp_Line_peak K a.CLine)) :=
 okP t.F_Line_peak sc_Line_peak (fun _ _ h => len_Line_peak h) (by decide) fun cdv A outer s H E hr => ⟨ts_Line_peak K a.CLine, zs_one (z_ret (z_maxD rfl hr.units (by rfl) t.b_max (by decide +kernel) (za_cons (z_val (zf_lc (own := [(("row" : Str), 1)]) (pe_lc (own := [(("row" : Str), 1)]) rfl sc_Line_peak.nd (zi_tup (z_fld t.cl t.n_rows (zv 0))) (blkOk_by (own := [(("row" : Str), 1)]) (N := N_Line_peak) (sc := defScope s_Line_peak) (by decide +kernel)) (fun _ _ _ _ _ => zgw_name (by decide) (pg_name (i := 1) sc_Line_peak.nd rfl (Or.inl rfl))) (fun _ _ _ _ _ => zts_nil) (fun _ _ _ _ _ => z_call (ok_load_of t tb) (hr.mono (by decide)) (by rfl) t.g_load_of t.k_load_of (bd_load_of t) .nil (fun _ _ => .nil) (za_cons (z_fld t.cl t.n_rows (zv 0)) (za_cons (z_ix (zv 1) (z_int)) (za_nil))))))) (za_nil)) (zk_cons (z_int) (zk_nil)))), fun _ _ h => rd_Line_peak h⟩
theorem bp_Line_made (t : Tx P w K mg a) : ∀ (u v : Value) (rest : List Value), bindArgs a.d_Line_made ⟨u :: v :: rest, []⟩ = (newTuple rest >>= fun t => pure [(("cls" : Str), u), (("seats" : Str), v), (("trips" : Str), t)]) := by
 obtain ⟨oc, od, kV, doc, pm, an, ct, osl, e, _, _⟩ := t.F_Line_made.ex
 rw [e]
 exact fun u v rest => match rest with | [] => rfl | _ :: _ => rfl
theorem bq_Line_made (t : Tx P w K mg a) : ∀ (u v : Value), bindArgs a.d_Line_made ⟨[u], [(("seats" : Str), v)]⟩ = (newTuple [] >>= fun t => pure [(("cls" : Str), u), (("seats" : Str), v), (("trips" : Str), t)]) := by
 obtain ⟨oc, od, kV, doc, pm, an, ct, osl, e, _, _⟩ := t.F_Line_made.ex
 rw [e]
 exact fun u v => rfl
theorem oka_Line_made (t : Tx P w K mg a) (tb : TB2 base mg a) : FnA P w K mg base 7 a.f_Line_made a.d_Line_made [("cls" : Str), ("seats" : Str)] ("trips" : Str) (upSpX K (TT a) (sp_Line_made K a.CLine a.XC)) :=
 okXAC t.F_Line_made sc_Line_made (fun _ _ _ h => len_Line_made h) (by decide) fun A outer s H E hr tk hp hpa => ⟨ts_Line_made K a.CLine a.XC, zxs_cons (zx_expr (zx_call (okx_check_seatsX t tb) (L2N.takesN tk) (hr.mono (by decide)) (by rfl) t.g_check_seats t.k_check_seats (bd_check_seatsX t) .nil (fun _ _ => .nil) (za_cons (zv 1) (za_nil)))) (zxs_cons (zx_for hp rfl (zi_enum1 (by rfl) t.b_enumerate (zv 2)) (zg_tup (pg_tup rfl (zgs_cons1 (zg_name (i := 3) sc_Line_made.nd rfl (Or.inl rfl)) (zgs_cons1 (zg_name (i := 4) sc_Line_made.nd rfl (Or.inl rfl)) (zgs_nil))))) (zxs_one (zx_if (zt_not (zt_val (z_call (ok_is_tripE t tb) (hr.mono (by decide)) (by rfl) t.g_is_trip t.k_is_trip (bd_is_tripE t) .nil (fun _ _ => .nil) (za_cons (zv 4) (za_nil))))) (zxs_one (zx_raise t.xa_InvalidTrips.ok t.b_super (L2N.takesN tk) rfl (L2H.roomH_of (hr.mono (by decide))) (by rfl) (zv 3))) (zxs_pl (zs_nil))))) (zxs_one (zx_ret (zx_newL (i := 0) t.mkL (okx_Line_initX t tb) (L2N.takesN tk) (hr.mono (by decide)) rfl (Or.inl rfl) (bd_Line_initX t) .nil (fun _ _ => .nil) (za_cons (zv 1) (za_cons (z_callTy zc_tuple (by rfl) t.b_tuple (by decide +kernel) (za_cons (z_sortL1 (x := Str.empty) (i := 0) (nm := ("row" : Str)) (by rfl) t.b_sorted (zv 2) hr ⟨rfl, rfl, rfl, rfl, by decide +kernel⟩ rfl tb.t2 rfl (TT_mem_t2 a) (TT_one_t2 t) (by decide +kernel) rfl (fun _ _ _ _ _ => rfl) ⟨by decide, by decide⟩ (by decide)) (za_nil))) (za_nil))))))), fun _ _ _ h => rd_Line_made h⟩
theorem okr_Line_made (t : Tx P w K mg a) (tb : TB2 base mg a) : FnR P w K mg base (L2.CX P w) 7 a.f_Line_made (upSpX2 K (TT a) (sp_Line_made K a.CLine a.XC)) := fnR_A (oka_Line_made t tb) (bp_Line_made t)
theorem bd_law_draw (t : Tx P w K mg a) : Binds K a.d_law_draw [("_law_pool_here" : Str), ("_law_many" : Str)] [] := t.F_law_draw.binds fun _ _ _ _ _ _ us hl => match us, hl with | [_, _], _ => rfl
theorem ok_law_draw (t : Tx P w K mg a) (tb : TB2 base mg a) : FnOk P w K mg base CX0 1 a.f_law_draw a.d_law_draw [("_law_pool_here" : Str), ("_law_many" : Str)] (upSpR K (TT a) (sp_law_draw K a.CLine)) :=
 okR (nm := ("_law_pool_here" : Str)) (N := [("_law_many" : Str), ("_law_state" : Str), ("_law_digit" : Str)]) (ps := [("_law_many" : Str)]) t.F_law_draw sc_law_draw (fun _ _ _ h => len_law_draw h) (by decide) fun cdv A outer s H E hr => ⟨ts_law_draw K a.CLine, zs_cons (z_asg (z_op zo_add (z_ixO (pv 0) (z_int)) (z_int)) (zg_sub (pv 0) (z_int) (pg_sub (pv 0) (z_int) set_list))) (zs_cons (z_set (i := 2) sc_law_draw.nd rfl (Or.inl rfl) (z_ixO (pv 0) (z_int))) (zs_cons (z_asg (z_op zo_mod (z_op zo_add (z_op zo_add (z_op zo_mulA (zv 2) (z_op zo_add (z_op zo_mod (zv 2) (z_int)) (z_int))) (z_op zo_mulA (z_int) (z_ixO (pv 0) (z_int)))) (z_int)) (z_int)) (zg_sub (pv 0) (z_int) (pg_sub (pv 0) (z_int) set_list))) (zs_cons (z_if (zt_cmp zo_gt (z_ixO (pv 0) (z_int)) (z_int)) (zs_cons (z_asg (z_callB zc_divmodW (by rfl) t.b_divmod (by decide +kernel) (za_cons (z_ixO (pv 0) (z_int)) (za_cons (zv 1) (za_nil)))) (zg_tup (pg_tup rfl (zgs_cons1 (zg_sub (pv 0) (z_int) (pg_sub (pv 0) (z_int) set_list)) (zgs_cons1 (zg_name (i := 3) sc_law_draw.nd rfl (Or.inl rfl)) (zgs_nil)))))) (zs_one (z_ret (zv 3)))) (zs_nil)) (zs_one (z_ret (z_op zo_mod (z_op zo_div (z_ixO (pv 0) (z_int)) (z_int)) (zv 1))))))), fun _ _ _ h => rd_law_draw h⟩
theorem bd_law_far (t : Tx P w K mg a) : Binds K a.d_law_far [("_law_pool_here" : Str), ("_law_high" : Str)] [] := t.F_law_far.binds fun _ _ _ _ _ _ us hl => match us, hl with | [_, _], _ => rfl
theorem ok_law_far (t : Tx P w K mg a) (tb : TB2 base mg a) : FnOk P w K mg base CX0 2 a.f_law_far a.d_law_far [("_law_pool_here" : Str), ("_law_high" : Str)] (upSpR K (TT a) (sp_law_far K a.CLine)) :=
 okR (nm := ("_law_pool_here" : Str)) (N := [("_law_high" : Str), ("_law_found" : Str), ("_law_here" : Str), ("_law_way" : Str), ("_law_k" : Str)]) (ps := [("_law_high" : Str)]) t.F_law_far sc_law_far (fun _ _ _ h => len_law_far h) (by decide) fun cdv A outer s H E hr => ⟨ts_law_far K a.CLine, zs_cons (z_par3 (i := 2) (j := 3) (l := 4) rfl (ps_par3 (i := 2) (j := 3) (l := 4) rfl sc_law_far.nd rfl rfl rfl (by decide) (by decide) (by decide) rfl rfl rfl (zr_f (zf_lst (za_nil)) (zr_v (z_callR (ok_law_draw t tb) (hr.mono (by decide)) (by rfl) t.g__law_draw t.k__law_draw (bd_law_draw t) (pa_cons (pv 0) (za_cons (z_int) (za_nil)))) (zr_v (z_callR (ok_law_draw t tb) (hr.mono (by decide)) (by rfl) t.g__law_draw t.k__law_draw (bd_law_draw t) (pa_cons (pv 0) (za_cons (z_int) (za_nil)))) (zr_nil)))) (by rfl))) (zs_cons (z_for PassesOwn.never rfl (zi_range1 (by rfl) t.b_range (z_op zo_add (zv 1) (z_int))) (zg_name (i := 5) sc_law_far.nd rfl (Or.inl rfl)) (zs_cons (z_app rfl (ps_expr (pe_bm PySem.F.plainAttrs_list PySem.F.slot_list_append PySem.F.type_list_append mt_append (pv 2) (pa_cons (z_ifExp (zt_cmp zo_gt (zv 4) (z_int)) (zv 5) (zv 3)) pa_nil)))) (zs_one (z_set (i := 3) sc_law_far.nd rfl (Or.inl rfl) (z_op zo_add (z_op zo_add (zv 3) (z_int)) (z_ix (z_lst (za_cons (z_int) (za_cons (z_callR (ok_law_draw t tb) (hr.mono (by decide)) (by rfl) t.g__law_draw t.k__law_draw (bd_law_draw t) (pa_cons (pv 0) (za_cons (z_int) (za_nil)))) (za_cons (z_op zo_pow (z_int) (z_int)) (za_nil))))) (z_callR (ok_law_draw t tb) (hr.mono (by decide)) (by rfl) t.g__law_draw t.k__law_draw (bd_law_draw t) (pa_cons (pv 0) (za_cons (z_int) (za_nil)))))))))) (zs_one (z_ret (zv 2)))), fun _ _ _ h => rd_law_far h⟩
theorem bd_law_rides (t : Tx P w K mg a) : Binds K a.d_law_rides [("_law_pool_here" : Str), ("_law_words_here" : Str), ("_law_high" : Str)] [] := t.F_law_rides.binds fun _ _ _ _ _ _ us hl => match us, hl with | [_, _, _], _ => rfl
theorem ok_law_rides (t : Tx P w K mg a) (tb : TB2 base mg a) : FnOk P w K mg base CX0 3 a.f_law_rides a.d_law_rides [("_law_pool_here" : Str), ("_law_words_here" : Str), ("_law_high" : Str)] (upSpR K (TT a) (sp_law_rides K a.CLine)) :=
 okR (nm := ("_law_pool_here" : Str)) (N := [("_law_words_here" : Str), ("_law_high" : Str), ("_law_places" : Str), ("_law_found" : Str), ("_law_last" : Str), ("_law_word" : Str), ("_law_way" : Str), ("_law_begin" : Str)]) (ps := [("_law_words_here" : Str), ("_law_high" : Str)]) t.F_law_rides sc_law_rides (fun _ _ _ h => len_law_rides h) (by decide) fun cdv A outer s H E hr => ⟨ts_law_rides K a.CLine, zs_cons (z_par3 (i := 3) (j := 4) (l := 5) rfl (ps_par3 (i := 3) (j := 4) (l := 5) rfl sc_law_rides.nd rfl rfl rfl (by decide) (by decide) (by decide) rfl rfl rfl (zr_v (z_callR (ok_law_far t tb) (hr.mono (by decide)) (by rfl) t.g__law_far t.k__law_far (bd_law_far t) (pa_cons (pv 0) (za_cons (zv 2) (za_nil)))) (zr_f (zf_lst (za_nil)) (zr_v (z_int) (zr_nil)))) (by rfl))) (zs_cons (z_for PassesOwn.never rfl (zi_list (zv 1)) (zg_name (i := 6) sc_law_rides.nd rfl (Or.inl rfl)) (zs_cons (z_set (i := 7) sc_law_rides.nd rfl (Or.inl rfl) (z_callR (ok_law_draw t tb) (hr.mono (by decide)) (by rfl) t.g__law_draw t.k__law_draw (bd_law_draw t) (pa_cons (pv 0) (za_cons (z_int) (za_nil))))) (zs_cons (z_set (i := 8) sc_law_rides.nd rfl (Or.inl rfl) (z_ifExp ((zw_and (zt_cmp (zo_eq hr.units) (zv 7) (z_int)) (zw_and1 (zt_cmp zo_lt (zv 5) (zv 2)))).pt) (zv 5) (z_callR (ok_law_draw t tb) (hr.mono (by decide)) (by rfl) t.g__law_draw t.k__law_draw (bd_law_draw t) (pa_cons (pv 0) (za_cons (zv 2) (za_nil)))))) (zs_cons (z_set (i := 5) sc_law_rides.nd rfl (Or.inl rfl) (z_op zo_add (z_op zo_add (zv 8) (z_int)) (z_callR (ok_law_draw t tb) (hr.mono (by decide)) (by rfl) t.g__law_draw t.k__law_draw (bd_law_draw t) (pa_cons (pv 0) (za_cons (z_ifExp (zt_cmp zo_gt (z_op zo_sub (zv 2) (zv 8)) (z_int)) (z_ix (z_lst (za_cons (z_int) (za_cons (z_int) (za_cons (z_op zo_sub (zv 2) (zv 8)) (za_cons (z_op zo_sub (zv 2) (zv 8)) (za_nil)))))) (zv 7)) (z_int)) (za_nil)))))) (zs_cons (z_set (i := 5) sc_law_rides.nd rfl (Or.inl rfl) (z_callB (zc_min2 rfl) (by rfl) t.b_min (by decide +kernel) (za_cons (zv 5) (za_cons (zv 2) (za_nil))))) (zs_one (z_app rfl (ps_expr (pe_bm PySem.F.plainAttrs_list PySem.F.slot_list_append PySem.F.type_list_append mt_append (pv 4) (pa_cons (z_tup (za_cons (zv 6) (za_cons (z_ix (zv 3) (zv 8)) (za_cons (z_ix (zv 3) (zv 5)) (za_nil))))) pa_nil)))))))))) (zs_one (z_ret (z_callTy zc_tuple (by rfl) t.b_tuple (by decide +kernel) (za_cons (z_callB (zc_sorted hr.units) (by rfl) t.b_sorted (by decide +kernel) (za_cons (zv 4) (za_nil))) (za_nil)))))), fun _ _ _ h => rd_law_rides h⟩
theorem bd_law_trip (t : Tx P w K mg a) : Binds K a.d_law_trip [("_law_matter" : Str)] [] := t.F_law_trip.binds fun _ _ _ _ _ _ us hl => match us, hl with | [_], _ => rfl
theorem ok_law_trip (t : Tx P w K mg a) (tb : TB2 base mg a) : FnOk P w K mg base CX0 1 a.f_law_trip a.d_law_trip [("_law_matter" : Str)] (upSp K (TT a) (sp_law_trip K a.CLine)) :=
 okP t.F_law_trip sc_law_trip (fun _ _ h => len_law_trip h) (by decide) fun cdv A outer s H E hr => ⟨ts_law_trip K a.CLine, zs_cons (z_if ((zw_or (zt_not (zt_val (z_callB zc_isi (by rfl) t.b_isinstance (by decide +kernel) (za_cons (zv 0) (za_cons (z_ty (by rfl) t.b_tuple (by decide +kernel)) (za_nil)))))) (zw_or (zt_cmp zo_neI (z_callB zc_len (by rfl) t.b_len (by decide +kernel) (za_cons (zv 0) (za_nil))) (z_int)) (zw_or1 (zt_not (zt_val (z_callB zc_isi (by rfl) t.b_isinstance (by decide +kernel) (za_cons (z_ix (zv 0) (z_int)) (za_cons (z_ty (by rfl) t.b_str (by decide +kernel)) (za_nil))))))))).pt) (zs_one (z_ret (z_bl))) (zs_nil)) (zs_cons (z_setLc (own := [(("_law_letter" : Str), 3)]) (i := 1) (ps_setLc (own := [(("_law_letter" : Str), 3)]) rfl sc_law_trip.nd (i := 1) rfl rfl rfl (zi_str (z_ix (zv 0) (z_int))) (blkOk_by (own := [(("_law_letter" : Str), 3)]) (N := N_law_trip) (sc := defScope s_law_trip) (by decide +kernel)) (fun _ _ _ _ _ => zgw_name (by decide) (pg_name (i := 3) sc_law_trip.nd rfl (Or.inl rfl))) (fun _ _ _ _ _ => zts_nil) (fun _ _ _ _ _ => z_cmp zo_in (zv 3) (z_str)))) (zs_cons (z_if ((zw_or (zt_not (zt_chain zo_lt zo_lt (z_int) (z_callB zc_len (by rfl) t.b_len (by decide +kernel) (za_cons (zv 1) (za_nil))) (z_int))) (zw_or1 (zt_not (zt_val (z_callB (zc_all rfl) (by rfl) t.b_all (by decide +kernel) (za_cons (zv 1) (za_nil))))))).pt) (zs_one (z_ret (z_bl))) (zs_nil)) (zs_cons (z_for PassesOwn.never rfl (zi_tup (z_slice (zv 0) (zp_some (z_int)) (zp_none))) (zg_name (i := 2) sc_law_trip.nd rfl (Or.inl rfl)) (zs_one (z_if ((zw_or (zt_not (zt_val (z_callB zc_isi (by rfl) t.b_isinstance (by decide +kernel) (za_cons (zv 2) (za_cons (z_ty (by rfl) t.b_int (by decide +kernel)) (za_nil)))))) (zw_or1 (zt_val (z_callB zc_isi (by rfl) t.b_isinstance (by decide +kernel) (za_cons (zv 2) (za_cons (z_ty (by rfl) t.b_bool (by decide +kernel)) (za_nil))))))).pt) (zs_one (z_ret (z_bl))) (zs_nil)))) (zs_one (z_ret (z_chain1 zo_le zo_lt (z_int) (z_ix (zv 0) (z_int)) (z_ix (zv 0) (z_int)))))))), fun _ _ h => rd_law_trip h⟩
theorem bd_law_due (t : Tx P w K mg a) : Binds K a.d_law_due [("_law_width" : Str), ("_law_some_here" : Str)] [] := t.F_law_due.binds fun _ _ _ _ _ _ us hl => match us, hl with | [_, _], _ => rfl
theorem ok_law_due (t : Tx P w K mg a) (tb : TB2 base mg a) : FnOk P w K mg base CX0 2 a.f_law_due a.d_law_due [("_law_width" : Str), ("_law_some_here" : Str)] (upSp K (TT a) (sp_law_due K a.CLine)) :=
 okP t.F_law_due sc_law_due (fun _ _ h => len_law_due h) (by decide) fun cdv A outer s H E hr => ⟨ts_law_due K a.CLine, zs_cons (z_if ((zw_or (zt_not (zt_val (z_callB zc_isi (by rfl) t.b_isinstance (by decide +kernel) (za_cons (zv 0) (za_cons (z_ty (by rfl) t.b_int (by decide +kernel)) (za_nil)))))) (zw_or (zt_val (z_callB zc_isi (by rfl) t.b_isinstance (by decide +kernel) (za_cons (zv 0) (za_cons (z_ty (by rfl) t.b_bool (by decide +kernel)) (za_nil))))) (zw_or1 (zt_not (zt_chain zo_lt zo_lt (z_int) (zv 0) (z_int)))))).pt) (zs_one (z_ret (z_lst (za_cons (z_str) (za_cons (zv 0) (za_nil)))))) (zs_nil)) (zs_cons (z_setLc (own := [(("_law_k" : Str), 5)]) (i := 2) (ps_setLc (own := [(("_law_k" : Str), 5)]) rfl sc_law_due.nd (i := 2) rfl rfl rfl (zi_range1 (by rfl) t.b_range (z_callB zc_len (by rfl) t.b_len (by decide +kernel) (za_cons (zv 1) (za_nil)))) (blkOk_by (own := [(("_law_k" : Str), 5)]) (N := N_law_due) (sc := defScope s_law_due) (by decide +kernel)) (fun _ _ _ _ _ => zgw_name (by decide) (pg_name (i := 5) sc_law_due.nd rfl (Or.inl rfl))) (fun _ _ _ _ _ => zts_one (zt_not (zt_val (z_call (ok_law_trip t tb) (hr.mono (by decide)) (by rfl) t.g__law_trip t.k__law_trip (bd_law_trip t) .nil (fun _ _ => .nil) (za_cons (z_ix (zv 1) (zv 5)) (za_nil)))))) (fun _ _ _ _ _ => zv 5))) (zs_cons (z_if (zt_cmp (zo_ne hr.units) (zv 2) (z_lst (za_nil))) (zs_one (z_ret (z_lst (za_cons (z_str) (za_cons (z_ix (zv 2) (z_int)) (za_nil)))))) (zs_nil)) (zs_cons (z_set (i := 3) sc_law_due.nd rfl (Or.inr rfl) (z_callB (zc_sorted hr.units) (by rfl) t.b_sorted (by decide +kernel) (za_cons (zv 1) (za_nil)))) (zs_cons (z_setLc (own := [(("_law_k" : Str), 5)]) (i := 4) (ps_setLc (own := [(("_law_k" : Str), 5)]) rfl sc_law_due.nd (i := 4) rfl rfl rfl (zi_range2 (by rfl) t.b_range (z_int) (z_callB zc_len (by rfl) t.b_len (by decide +kernel) (za_cons (zv 3) (za_nil))) rfl rfl (pi_range2 (by rfl) t.b_range (pa_cons (z_int) (pa_cons (z_callB zc_len (by rfl) t.b_len (by decide +kernel) (za_cons (zv 3) (za_nil))) pa_nil)))) (blkOk_by (own := [(("_law_k" : Str), 5)]) (N := N_law_due) (sc := defScope s_law_due) (by decide +kernel)) (fun _ _ _ _ _ => zgw_name (by decide) (pg_name (i := 5) sc_law_due.nd rfl (Or.inl rfl))) (fun _ _ _ _ _ => zts_one (zt_cmp zo_eqI (z_ix (z_ix (zv 3) (zv 5)) (z_int)) (z_ix (z_ix (zv 3) (z_op zo_sub (zv 5) (z_int))) (z_int)))) (fun _ _ _ _ _ => zv 5))) (zs_one (z_ret (z_ifExp (zt_cmp (zo_ne hr.units) (zv 4) (z_lst (za_nil))) (z_lst (za_cons (z_str) (za_cons (z_ix (zv 4) (z_int)) (za_nil)))) (z_lst (za_cons (z_str) (za_cons (z_lst (za_cons (zv 0) (za_cons (z_callTy zc_tuple (by rfl) t.b_tuple (by decide +kernel) (za_cons (zv 3) (za_nil))) (za_nil)))) (za_nil))))))))))), fun _ _ h => rd_law_due h⟩
theorem bd_law_same (t : Tx P w K mg a) : Binds K a.d_law_same [("_law_told" : Str), ("_law_width" : Str), ("_law_some_here" : Str)] [] := t.F_law_same.binds fun _ _ _ _ _ _ us hl => match us, hl with | [_, _, _], _ => rfl
theorem ok_law_same (t : Tx P w K mg a) (tb : TB2 base mg a) : FnG P w K mg base 7 a.f_law_same a.d_law_same [("_law_told" : Str), ("_law_width" : Str), ("_law_some_here" : Str)] (upSp K (TT a) (sp_law_same K a.CLine a.XC)) :=
 okGP t.F_law_same sc_law_same (fun _ _ h => len_law_same h) (by decide) fun cdv A outer s H E hG hr => ⟨ts_law_same K a.CLine a.XC, zs_cons (z_if ((zw_and (zt_cmp zo_eqI (z_ix (zv 0) (z_int)) (z_str)) (zw_and1 (zt_val (z_callB zc_isi (by rfl) t.b_isinstance (by decide +kernel) (za_cons (z_ix (zv 0) (z_int)) (za_cons (z_gc (by rfl) t.g_Line) (za_nil))))))).pt) (zs_cons (z_set (i := 3) sc_law_same.nd rfl (Or.inl rfl) (z_ix (zv 0) (z_int))) (zs_cons (z_set (i := 4) sc_law_same.nd rfl (Or.inl rfl) (z_nox (zx_new t.mkL (okx_Line_initX t tb) L2N.takes0 (hr.mono (by decide)) (by rfl) t.g_Line (bd_Line_initX t) .nil (fun _ _ => .nil) (za_cons (z_prop (zv 3) t.cl t.p_capacity (ok_Line_capacity t tb) (hr.mono (by decide)) (bd_Line_capacity t)) (za_cons (z_prop (zv 3) t.cl t.p_trips (ok_Line_trips t tb) (hr.mono (by decide)) (bd_Line_trips t)) (za_nil)))))) (zs_cons (z_if ((zw_or (zt_cmpO t.ow (op_neO (ok_Line_eq t tb) (hr.mono (by decide)) t.ow (bd_Line_eq t)) (zv 3) (zv 4)) (zw_or (zt_cmp (zo_ne hr.units) (z_prop (zv 3) t.cl t.p_order (ok_Line_order t tb) (hr.mono (by decide)) (bd_Line_order t)) (z_prop (zv 4) t.cl t.p_order (ok_Line_order t tb) (hr.mono (by decide)) (bd_Line_order t))) (zw_or1 (zt_cmp zo_neI (z_prop (zv 3) t.cl t.p_peak (ok_Line_peak t tb) (hr.mono (by decide)) (bd_Line_peak t)) (z_prop (zv 4) t.cl t.p_peak (ok_Line_peak t tb) (hr.mono (by decide)) (bd_Line_peak t)))))).pt) (zs_one (z_ret (z_bl))) (zs_nil)) (zs_cons (z_if ((zw_or (zt_cmp zo_neI (z_strO t.ow (call_strO (ok_Line_str t tb) (hr.mono (by decide)) t.ow (bd_Line_str t)) (by rfl) t.b_str (by decide +kernel) (za_cons (zv 3) (za_nil))) (z_strO t.ow (call_strO (ok_Line_str t tb) (hr.mono (by decide)) t.ow (bd_Line_str t)) (by rfl) t.b_str (by decide +kernel) (za_cons (zv 4) (za_nil)))) (zw_or1 (zt_cmp zo_neI (z_lenO t.ow (call_lenO (ok_Line_len t tb) (hr.mono (by decide)) t.ow (bd_Line_len t)) (by rfl) t.b_len (by decide +kernel) (za_cons (zv 3) (za_nil))) (z_lenO t.ow (call_lenO (ok_Line_len t tb) (hr.mono (by decide)) t.ow (bd_Line_len t)) (by rfl) t.b_len (by decide +kernel) (za_cons (zv 4) (za_nil)))))).pt) (zs_one (z_ret (z_bl))) (zs_nil)) (zs_one (z_set (i := 0) sc_law_same.nd rfl (Or.inl rfl) (z_lst (za_cons (z_str) (za_cons (z_lst (za_cons (z_prop (zv 3) t.cl t.p_capacity (ok_Line_capacity t tb) (hr.mono (by decide)) (bd_Line_capacity t)) (za_cons (z_prop (zv 3) t.cl t.p_trips (ok_Line_trips t tb) (hr.mono (by decide)) (bd_Line_trips t)) (za_nil)))) (za_nil)))))))))) (zs_nil)) (zs_one (z_ret (z_cmp zo_eqI (z_callB (zc_reprE hG hr.units) (by rfl) t.b_repr (by decide +kernel) (za_cons (zv 0) (za_nil))) (z_callB (zc_reprE hG hr.units) (by rfl) t.b_repr (by decide +kernel) (za_cons (z_call (ok_law_due t tb) (hr.mono (by decide)) (by rfl) t.g__law_due t.k__law_due (bd_law_due t) .nil (fun _ _ => .nil) (za_cons (zv 1) (za_cons (zv 2) (za_nil)))) (za_nil)))))), fun _ _ h => rd_law_same h⟩
theorem bd_law_some (t : Tx P w K mg a) : Binds K a.d_law_some [("_law_pool_here" : Str), ("_law_rides_here" : Str)] [] := t.F_law_some.binds fun _ _ _ _ _ _ us hl => match us, hl with | [_, _], _ => rfl
theorem ok_law_some (t : Tx P w K mg a) (tb : TB2 base mg a) : FnOk P w K mg base CX0 2 a.f_law_some a.d_law_some [("_law_pool_here" : Str), ("_law_rides_here" : Str)] (upSpR K (TT a) (sp_law_some K a.CLine)) :=
 okR (nm := ("_law_pool_here" : Str)) (N := [("_law_rides_here" : Str), ("_law_odd" : Str), ("_law_found" : Str), ("_law_turn" : Str), ("_law_ride" : Str), ("_law_way" : Str)]) (ps := [("_law_rides_here" : Str)]) t.F_law_some sc_law_some (fun _ _ _ h => len_law_some h) (by decide) fun cdv A outer s H E hr => ⟨ts_law_some K a.CLine, zs_cons (z_par2 (i := 2) (j := 3) rfl (ps_par (i := 2) (j := 3) rfl sc_law_some.nd rfl rfl (by decide) rfl rfl (zr_v (z_lst (za_cons (z_non) (za_cons (z_int) (za_cons (z_tup (za_nil)) (za_cons (z_tup (za_cons (z_str) (za_cons (z_int) (za_nil)))) (za_cons (z_lst (za_cons (z_str) (za_cons (z_int) (za_cons (z_int) (za_nil))))) (za_cons (z_tup (za_cons (z_str) (za_cons (z_int) (za_cons (z_int) (za_nil))))) (za_cons (z_tup (za_cons (z_str) (za_cons (z_int) (za_cons (z_int) (za_nil))))) (za_cons (z_tup (za_cons (z_str) (za_cons (z_bl) (za_cons (z_int) (za_nil))))) (za_cons (z_tup (za_cons (z_lst (za_cons (z_str) (za_nil))) (za_cons (z_int) (za_cons (z_int) (za_nil))))) (za_cons (z_dic0) (za_nil)))))))))))) (zr_f (zf_lst (za_nil)) (zr_nil))) (by rfl))) (zs_cons (z_for PassesOwn.never rfl (zi_range1 (by rfl) t.b_range (z_int)) (zg_name (i := 4) sc_law_some.nd rfl (Or.inl rfl)) (zs_cons (z_set (i := 5) sc_law_some.nd rfl (Or.inl rfl) (z_ix (zv 1) (z_callR (ok_law_draw t tb) (hr.mono (by decide)) (by rfl) t.g__law_draw t.k__law_draw (bd_law_draw t) (pa_cons (pv 0) (za_cons (z_callB zc_len (by rfl) t.b_len (by decide +kernel) (za_cons (zv 1) (za_nil))) (za_nil)))))) (zs_cons (z_set (i := 6) sc_law_some.nd rfl (Or.inl rfl) (z_callR (ok_law_draw t tb) (hr.mono (by decide)) (by rfl) t.g__law_draw t.k__law_draw (bd_law_draw t) (pa_cons (pv 0) (za_cons (z_int) (za_nil))))) (zs_one (z_app rfl (ps_expr (pe_bm PySem.F.plainAttrs_list PySem.F.slot_list_append PySem.F.type_list_append mt_append (pv 3) (pa_cons (z_ifExp (zt_cmp zo_eqI (zv 6) (z_int)) (z_ix (zv 2) (z_callR (ok_law_draw t tb) (hr.mono (by decide)) (by rfl) t.g__law_draw t.k__law_draw (bd_law_draw t) (pa_cons (pv 0) (za_cons (z_int) (za_nil))))) (z_ifExp (zt_cmp zo_eqI (zv 6) (z_int)) (z_tup (za_cons (z_ix (zv 5) (z_int)) (za_cons (z_int) (za_cons (z_int) (za_nil))))) (zv 5))) pa_nil)))))))) (zs_one (z_ret (zv 3)))), fun _ _ _ h => rd_law_some h⟩
theorem bd_law_other_fields (t : Tx P w K mg a) : Binds K a.d_law_other_fields [("_law_e" : Str)] [] := t.F_law_other_fields.binds fun _ _ _ _ _ _ us hl => match us, hl with | [_], _ => rfl
theorem okz_law_other_fields (t : Tx P w K mg a) (tb : TB2 base mg a) : FnZ P w K mg base 1 a.f_law_other_fields a.d_law_other_fields [("_law_e" : Str)] (fun a1 cls1 d1 => upSp K (TT a) (sp_law_other_fields K a.CLine a.XC a1 cls1 d1)) :=
 okPZ t.F_law_other_fields sc_law_other_fields (fun _ _ _ _ _ h => len_law_other_fields h) (by decide) fun cdv A outer s H E p cls d hp hr => ⟨ts_law_other_fields K a.CLine a.XC p.1 cls d, zs_cons (z_if (zt_val (z_callB (zc_isX hp) (by rfl) t.b_isinstance (by decide +kernel) (za_cons (zv 0) (za_cons (z_gc (by rfl) t.g_InvalidSeat) (za_nil))))) (zs_one (z_ret (z_lst (za_cons (z_xf hp (zv 0)) (za_nil))))) (zs_nil)) (zs_cons (z_if (zt_val (z_callB (zc_isX hp) (by rfl) t.b_isinstance (by decide +kernel) (za_cons (zv 0) (za_cons (z_gc (by rfl) t.g_InvalidNumber) (za_nil))))) (zs_one (z_ret (z_lst (za_cons (z_xf hp (zv 0)) (za_nil))))) (zs_nil)) (zs_cons (z_if (zt_val (z_callB (zc_isX hp) (by rfl) t.b_isinstance (by decide +kernel) (za_cons (zv 0) (za_cons (z_gc (by rfl) t.g_InvalidText) (za_nil))))) (zs_one (z_ret (z_lst (za_cons (z_xf hp (zv 0)) (za_nil))))) (zs_nil)) (zs_one (z_ret (z_ifExp (zt_val (z_callB (zc_isX hp) (by rfl) t.b_isinstance (by decide +kernel) (za_cons (zv 0) (za_cons (z_gc (by rfl) t.g_InvalidCommand) (za_nil))))) (z_lst (za_cons (z_xf hp (zv 0)) (za_nil))) (z_lst (za_nil))))))), fun _ _ h => rd_law_other_fields h⟩
theorem bd_law_fields (t : Tx P w K mg a) : Binds K a.d_law_fields [("_law_e" : Str)] [] := t.F_law_fields.binds fun _ _ _ _ _ _ us hl => match us, hl with | [_], _ => rfl
theorem okz_law_fields (t : Tx P w K mg a) (tb : TB2 base mg a) : FnZ P w K mg base 2 a.f_law_fields a.d_law_fields [("_law_e" : Str)] (fun a1 cls1 d1 => upSp K (TT a) (sp_law_fields K a.CLine a.XC a1 cls1 d1)) :=
 okPZ t.F_law_fields sc_law_fields (fun _ _ _ _ _ h => len_law_fields h) (by decide) fun cdv A outer s H E p cls d hp hr => ⟨ts_law_fields K a.CLine a.XC p.1 cls d, zs_cons (z_if (zt_val (z_callB (zc_isXT hp) (by rfl) t.b_isinstance (by decide +kernel) (za_cons (zv 0) (za_cons (z_tup (za_cons (z_gc (by rfl) t.g_InvalidTrips) (za_cons (z_gc (by rfl) t.g_InvalidPlan) (za_cons (z_gc (by rfl) t.g_InvalidFixed) (za_cons (z_gc (by rfl) t.g_InvalidExchange) (za_cons (z_gc (by rfl) t.g_InvalidAction) (za_nil))))))) (za_nil))))) (zs_one (z_ret (z_lst (za_cons (z_xf hp (zv 0)) (za_nil))))) (zs_nil)) (zs_cons (z_if (zt_val (z_callB (zc_isXT hp) (by rfl) t.b_isinstance (by decide +kernel) (za_cons (zv 0) (za_cons (z_tup (za_cons (z_gc (by rfl) t.g_TooManyTrips) (za_cons (z_gc (by rfl) t.g_TooManyPlans) (za_cons (z_gc (by rfl) t.g_TooManyEntries) (za_nil))))) (za_nil))))) (zs_one (z_ret (z_lst (za_cons (z_xf hp (zv 0)) (za_nil))))) (zs_nil)) (zs_cons (z_if (zt_val (z_callB (zc_isXT hp) (by rfl) t.b_isinstance (by decide +kernel) (za_cons (zv 0) (za_cons (z_tup (za_cons (z_gc (by rfl) t.g_InvalidName) (za_cons (z_gc (by rfl) t.g_NameTaken) (za_cons (z_gc (by rfl) t.g_NotFree) (za_nil))))) (za_nil))))) (zs_one (z_ret (z_lst (za_cons (z_xf hp (zv 0)) (za_nil))))) (zs_nil)) (zs_cons (z_if (zt_val (z_callB (zc_isXT hp) (by rfl) t.b_isinstance (by decide +kernel) (za_cons (zv 0) (za_cons (z_tup (za_cons (z_gc (by rfl) t.g_InvalidStation) (za_cons (z_gc (by rfl) t.g_Overfull) (za_cons (z_gc (by rfl) t.g_Full) (za_nil))))) (za_nil))))) (zs_one (z_ret (z_lst (za_cons (z_xf hp (zv 0)) (za_nil))))) (zs_nil)) (zs_cons (z_if (zt_val (z_callB (zc_isXT hp) (by rfl) t.b_isinstance (by decide +kernel) (za_cons (zv 0) (za_cons (z_tup (za_cons (z_gc (by rfl) t.g_InvalidSeats) (za_cons (z_gc (by rfl) t.g_NotALine) (za_nil)))) (za_nil))))) (zs_one (z_ret (z_lst (za_cons (z_xf hp (zv 0)) (za_nil))))) (zs_nil)) (zs_one (z_ret (z_callZ (okz_law_other_fields t tb) (hr.mono (by decide)) hp (by rfl) t.g__law_other_fields t.k__law_other_fields (bd_law_other_fields t) (za_cons (zv 0) (za_nil))))))))), fun _ _ h => rd_law_fields h⟩
theorem bd_law_kind (t : Tx P w K mg a) : Binds K a.d_law_kind [("_law_e" : Str)] [] := t.F_law_kind.binds fun _ _ _ _ _ _ us hl => match us, hl with | [_], _ => rfl
theorem okz_law_kind (t : Tx P w K mg a) (tb : TB2 base mg a) : FnZ P w K mg base 1 a.f_law_kind a.d_law_kind [("_law_e" : Str)] (fun a1 cls1 d1 => upSp K (TT a) (sp_law_kind K a.CLine a.XC a1 cls1 d1)) :=
 okPZ t.F_law_kind sc_law_kind (fun _ _ _ _ _ h => len_law_kind h) (by decide) fun cdv A outer s H E p cls d hp hr => ⟨ts_law_kind K a.CLine a.XC p.1 cls d, zs_cons (z_set (i := 1) sc_law_kind.nd rfl (Or.inl rfl) (z_lst (za_cons (z_callB (zc_isX hp) (by rfl) t.b_isinstance (by decide +kernel) (za_cons (zv 0) (za_cons (z_gc (by rfl) t.g_InvalidSeats) (za_nil)))) (za_cons (z_callB (zc_isX hp) (by rfl) t.b_isinstance (by decide +kernel) (za_cons (zv 0) (za_cons (z_gc (by rfl) t.g_InvalidTrips) (za_nil)))) (za_cons (z_callB (zc_isX hp) (by rfl) t.b_isinstance (by decide +kernel) (za_cons (zv 0) (za_cons (z_gc (by rfl) t.g_InvalidName) (za_nil)))) (za_nil)))))) (zs_cons (z_set (i := 1) sc_law_kind.nd rfl (Or.inl rfl) (z_op zo_add (zv 1) (z_lst (za_cons (z_callB (zc_isX hp) (by rfl) t.b_isinstance (by decide +kernel) (za_cons (zv 0) (za_cons (z_gc (by rfl) t.g_InvalidSeat) (za_nil)))) (za_cons (z_callB (zc_isX hp) (by rfl) t.b_isinstance (by decide +kernel) (za_cons (zv 0) (za_cons (z_gc (by rfl) t.g_InvalidStation) (za_nil)))) (za_cons (z_callB (zc_isX hp) (by rfl) t.b_isinstance (by decide +kernel) (za_cons (zv 0) (za_cons (z_gc (by rfl) t.g_InvalidPlan) (za_nil)))) (za_nil))))))) (zs_cons (z_set (i := 1) sc_law_kind.nd rfl (Or.inl rfl) (z_op zo_add (zv 1) (z_lst (za_cons (z_callB (zc_isX hp) (by rfl) t.b_isinstance (by decide +kernel) (za_cons (zv 0) (za_cons (z_gc (by rfl) t.g_InvalidFixed) (za_nil)))) (za_cons (z_callB (zc_isX hp) (by rfl) t.b_isinstance (by decide +kernel) (za_cons (zv 0) (za_cons (z_gc (by rfl) t.g_InvalidExchange) (za_nil)))) (za_cons (z_callB (zc_isX hp) (by rfl) t.b_isinstance (by decide +kernel) (za_cons (zv 0) (za_cons (z_gc (by rfl) t.g_InvalidNumber) (za_nil)))) (za_nil))))))) (zs_cons (z_set (i := 1) sc_law_kind.nd rfl (Or.inl rfl) (z_op zo_add (zv 1) (z_lst (za_cons (z_callB (zc_isX hp) (by rfl) t.b_isinstance (by decide +kernel) (za_cons (zv 0) (za_cons (z_gc (by rfl) t.g_InvalidText) (za_nil)))) (za_cons (z_callB (zc_isX hp) (by rfl) t.b_isinstance (by decide +kernel) (za_cons (zv 0) (za_cons (z_gc (by rfl) t.g_InvalidAction) (za_nil)))) (za_cons (z_callB (zc_isX hp) (by rfl) t.b_isinstance (by decide +kernel) (za_cons (zv 0) (za_cons (z_gc (by rfl) t.g_InvalidCommand) (za_nil)))) (za_nil))))))) (zs_cons (z_set (i := 1) sc_law_kind.nd rfl (Or.inl rfl) (z_op zo_add (zv 1) (z_lst (za_cons (z_callB (zc_isX hp) (by rfl) t.b_isinstance (by decide +kernel) (za_cons (zv 0) (za_cons (z_gc (by rfl) t.g_NotALine) (za_nil)))) (za_cons (z_callB (zc_isX hp) (by rfl) t.b_isinstance (by decide +kernel) (za_cons (zv 0) (za_cons (z_gc (by rfl) t.g_Overfull) (za_nil)))) (za_cons (z_callB (zc_isX hp) (by rfl) t.b_isinstance (by decide +kernel) (za_cons (zv 0) (za_cons (z_gc (by rfl) t.g_Full) (za_nil)))) (za_nil))))))) (zs_cons (z_set (i := 1) sc_law_kind.nd rfl (Or.inl rfl) (z_op zo_add (zv 1) (z_lst (za_cons (z_callB (zc_isX hp) (by rfl) t.b_isinstance (by decide +kernel) (za_cons (zv 0) (za_cons (z_gc (by rfl) t.g_NameTaken) (za_nil)))) (za_cons (z_callB (zc_isX hp) (by rfl) t.b_isinstance (by decide +kernel) (za_cons (zv 0) (za_cons (z_gc (by rfl) t.g_NotFree) (za_nil)))) (za_cons (z_callB (zc_isX hp) (by rfl) t.b_isinstance (by decide +kernel) (za_cons (zv 0) (za_cons (z_gc (by rfl) t.g_Busy) (za_nil)))) (za_nil))))))) (zs_cons (z_set (i := 1) sc_law_kind.nd rfl (Or.inl rfl) (z_op zo_add (zv 1) (z_lst (za_cons (z_callB (zc_isX hp) (by rfl) t.b_isinstance (by decide +kernel) (za_cons (zv 0) (za_cons (z_gc (by rfl) t.g_NothingToUndo) (za_nil)))) (za_cons (z_callB (zc_isX hp) (by rfl) t.b_isinstance (by decide +kernel) (za_cons (zv 0) (za_cons (z_gc (by rfl) t.g_TooManyTrips) (za_nil)))) (za_cons (z_callB (zc_isX hp) (by rfl) t.b_isinstance (by decide +kernel) (za_cons (zv 0) (za_cons (z_gc (by rfl) t.g_TooManyPlans) (za_nil)))) (za_nil))))))) (zs_cons (z_set (i := 1) sc_law_kind.nd rfl (Or.inl rfl) (z_op zo_add (zv 1) (z_lst (za_cons (z_callB (zc_isX hp) (by rfl) t.b_isinstance (by decide +kernel) (za_cons (zv 0) (za_cons (z_gc (by rfl) t.g_TooManyEntries) (za_nil)))) (za_nil))))) (zs_cons (z_set (i := 2) sc_law_kind.nd rfl (Or.inl rfl) (z_lst (za_cons (z_callB (zc_isX hp) (by rfl) t.b_isinstance (by decide +kernel) (za_cons (zv 0) (za_cons (z_gc (by rfl) t.g_SeatError) (za_nil)))) (za_cons (z_callB (zc_isX hp) (by rfl) t.b_isinstance (by decide +kernel) (za_cons (zv 0) (za_cons (z_gc (by rfl) t.g_StateError) (za_nil)))) (za_cons (z_callB (zc_isX hp) (by rfl) t.b_isinstance (by decide +kernel) (za_cons (zv 0) (za_cons (z_gc (by rfl) t.g_SizeError) (za_nil)))) (za_nil)))))) (zs_cons (z_set (i := 3) sc_law_kind.nd rfl (Or.inl rfl) (z_lst (za_cons (z_callB (zc_isX hp) (by rfl) t.b_isinstance (by decide +kernel) (za_cons (zv 0) (za_cons (z_ty (by rfl) t.b_ValueError (by decide +kernel)) (za_nil)))) (za_cons (z_callB (zc_isX hp) (by rfl) t.b_isinstance (by decide +kernel) (za_cons (zv 0) (za_cons (z_ty (by rfl) t.b_LookupError (by decide +kernel)) (za_nil)))) (za_cons (z_callB (zc_isX hp) (by rfl) t.b_isinstance (by decide +kernel) (za_cons (zv 0) (za_cons (z_ty (by rfl) t.b_ArithmeticError (by decide +kernel)) (za_nil)))) (za_nil)))))) (zs_cons (z_if (zt_cmp (zo_ne (Nat.lt_of_succ_lt (roomH65 hr))) (z_cntB rfl (pe_bm PySem.F.plainAttrs_list PySem.F.slot_list_count PySem.F.type_list_count mt_lcountB (zv 1) (pa_cons (z_bl) pa_nil))) (z_int)) (zs_one (z_ret (z_str))) (zs_nil)) (zs_cons (z_set (i := 4) sc_law_kind.nd rfl (Or.inl rfl) (z_idxD rfl (pe_bm PySem.F.plainAttrs_list PySem.F.slot_list_index PySem.F.type_list_index (mt_indexD (roomH65 hr)) (zv 1) (pa_cons (z_bl) pa_nil)))) (zs_cons (z_if ((zw_or (zt_cmp (zo_ne (Nat.lt_of_succ_lt (roomH65 hr))) (zv 2) (z_lst (za_cons (z_cmp zo_lt (zv 4) (z_int)) (za_cons (z_chain1 zo_lt zo_lt (z_int) (zv 4) (z_int)) (za_cons (z_cmp zo_gt (zv 4) (z_int)) (za_nil)))))) (zw_or1 (zt_cmp (zo_ne (Nat.lt_of_succ_lt (roomH65 hr))) (zv 3) (zv 2)))).pt) (zs_one (z_ret (z_str))) (zs_nil)) (zs_cons (z_set (i := 5) sc_law_kind.nd rfl (Or.inl rfl) (z_str)) (zs_cons (z_set (i := 5) sc_law_kind.nd rfl (Or.inl rfl) (z_op zo_add (zv 5) (z_str))) (zs_one (z_ret (z_ix (z_split rfl (pe_split (zv 5) (z_str))) (zv 4)))))))))))))))))), fun _ _ h => rd_law_kind h⟩
theorem bd_law_caught (t : Tx P w K mg a) : Binds K a.d_law_caught [("_law_call" : Str)] [] := t.F_law_caught.binds fun _ _ _ _ _ _ us hl => match us, hl with | [_], _ => rfl
def suiteOf_law_caught : List Stmt → List Stmt
 | [.Try _ (.ExceptHandler _ _ bd _ :: _) _ _ _] => bd
 | _ => []
theorem su_law_caught (t : Tx P w K mg a) (tb : TB2 base mg a) {cdv : Value} {A : Around} {outer : List Env} {s : Shared} {H : Hp} (hr : Room 10 (A.deeper (envOfC "_law_caught" (defScope s_law_caught) s.heap.objs.size a.f_law_caught cdv))) {e : Addr} {oe : Obj} {cls : Value} {d : Option Addr} {pn : List (Addr × Obj)} (hz : L2.Zc cls d oe) (hf : ∃ vs, oe.data = .fields vs) :
  PSs ((cxOf CX0 P w K mg base N_law_caught "_law_caught" (defScope s_law_caught) a.f_law_caught cdv A outer s H E0).nox.suite e ((e, oe) :: pn)) (suiteOf_law_caught (defBody s_law_caught)) (upS K (TT a) (ts_law_caught K a.CLine a.XC e cls d)) :=
 zs_one (z_ret (z_op zo_add (z_lst (za_cons (z_callZ (okz_law_kind t tb) (roomH_mark (hr.mono (by decide))) (pinX_suiteC hz hf) (by rfl) t.g__law_kind t.k__law_kind (bd_law_kind t) (za_cons (zv 1) (za_nil))) (za_nil))) (z_callZ (okz_law_fields t tb) (roomH_mark (hr.mono (by decide))) (pinX_suiteC hz hf) (by rfl) t.g__law_fields t.k__law_fields (bd_law_fields t) (za_cons (zv 1) (za_nil)))))
theorem bd_law_words (t : Tx P w K mg a) : Binds K a.d_law_words [("_law_pool_here" : Str), ("_law_many" : Str)] [] := t.F_law_words.binds fun _ _ _ _ _ _ us hl => match us, hl with | [_, _], _ => rfl
theorem ok_law_words (t : Tx P w K mg a) (tb : TB2 base mg a) : FnOk P w K mg base CX0 2 a.f_law_words a.d_law_words [("_law_pool_here" : Str), ("_law_many" : Str)] (upSpR K (TT a) (sp_law_words K a.CLine)) :=
 okR (nm := ("_law_pool_here" : Str)) (N := [("_law_many" : Str), ("_law_letters" : Str), ("_law_menu" : Str), ("_law_way" : Str), ("_law_begin" : Str), ("_law_stem" : Str), ("_law_at" : Str), ("_law_k" : Str)]) (ps := [("_law_many" : Str)]) t.F_law_words sc_law_words (fun _ _ _ h => len_law_words h) (by decide) fun cdv A outer s H E hr => ⟨ts_law_words K a.CLine, zs_cons (z_set (i := 2) sc_law_words.nd rfl (Or.inr rfl) (z_str)) (zs_cons (z_set (i := 3) sc_law_words.nd rfl (Or.inr rfl) (z_lst (za_cons (z_str) (za_cons (z_str) (za_cons (z_str) (za_cons (z_str) (za_cons (z_str) (za_cons (z_str) (za_cons (z_str) (za_cons (z_str) (za_cons (z_str) (za_cons (z_str) (za_cons (z_str) (za_cons (z_str) (za_nil))))))))))))))) (zs_cons (z_set (i := 3) sc_law_words.nd rfl (Or.inr rfl) (z_op zo_add (zv 3) (z_lst (za_cons (z_str) (za_cons (z_str) (za_cons (z_str) (za_cons (z_str) (za_cons (z_str) (za_cons (z_str) (za_cons (z_str) (za_cons (z_str) (za_cons (z_str) (za_cons (z_str) (za_cons (z_str) (za_cons (z_str) (za_nil)))))))))))))))) (zs_cons (z_asg (z_tup (za_cons (z_callR (ok_law_draw t tb) (hr.mono (by decide)) (by rfl) t.g__law_draw t.k__law_draw (bd_law_draw t) (pa_cons (pv 0) (za_cons (z_int) (za_nil)))) (za_cons (z_callR (ok_law_draw t tb) (hr.mono (by decide)) (by rfl) t.g__law_draw t.k__law_draw (bd_law_draw t) (pa_cons (pv 0) (za_cons (z_int) (za_nil)))) (za_nil)))) (zg_tup (pg_tup rfl (zgs_cons1 (zg_name (i := 4) sc_law_words.nd rfl (Or.inl rfl)) (zgs_cons1 (zg_name (i := 5) sc_law_words.nd rfl (Or.inr rfl)) (zgs_nil)))))) (zs_cons (z_if (zt_cmp (zo_eq hr.units) (zv 4) (z_int)) (zs_one (z_ret (z_val (zf_lc (own := [(("_law_k" : Str), 8)]) (pe_lc (own := [(("_law_k" : Str), 8)]) rfl sc_law_words.nd (zi_range1 (by rfl) t.b_range (zv 1)) (blkOk_by (own := [(("_law_k" : Str), 8)]) (N := N_law_words) (sc := defScope s_law_words) (by decide +kernel)) (fun _ _ _ _ _ => zgw_name (by decide) (pg_name (i := 8) sc_law_words.nd rfl (Or.inl rfl))) (fun _ _ _ _ _ => zts_nil) (fun _ _ _ _ _ => z_ix (zv 3) (z_op zo_mod (z_op zo_add (zv 5) (z_op zo_mulA (z_int) (zv 8))) (z_int)))))))) (zs_nil)) (zs_cons (z_if (zt_cmp (zo_eq hr.units) (zv 4) (z_int)) (zs_one (z_ret (z_val (zf_lc (own := [(("_law_k" : Str), 8)]) (pe_lc (own := [(("_law_k" : Str), 8)]) rfl sc_law_words.nd (zi_range1 (by rfl) t.b_range (zv 1)) (blkOk_by (own := [(("_law_k" : Str), 8)]) (N := N_law_words) (sc := defScope s_law_words) (by decide +kernel)) (fun _ _ _ _ _ => zgw_name (by decide) (pg_name (i := 8) sc_law_words.nd rfl (Or.inl rfl))) (fun _ _ _ _ _ => zts_nil) (fun _ _ _ _ _ => z_op zo_mulA (z_ix (zv 2) (z_op zo_mod (z_op zo_add (zv 5) (z_op zo_mulA (z_int) (zv 8))) (z_int))) (z_op zo_add (z_int) (z_op zo_mod (zv 8) (z_int))))))))) (zs_nil)) (zs_cons (z_set (i := 6) sc_law_words.nd rfl (Or.inr rfl) (z_join rfl (pe_join (z_str) (z_val (zf_lc (own := [(("_law_k" : Str), 8)]) (pe_lc (own := [(("_law_k" : Str), 8)]) rfl sc_law_words.nd (zi_range1 (by rfl) t.b_range (z_callR (ok_law_draw t tb) (hr.mono (by decide)) (by rfl) t.g__law_draw t.k__law_draw (bd_law_draw t) (pa_cons (pv 0) (za_cons (z_int) (za_nil))))) (blkOk_by (own := [(("_law_k" : Str), 8)]) (N := N_law_words) (sc := defScope s_law_words) (by decide +kernel)) (fun _ _ _ _ _ => zgw_name (by decide) (pg_name (i := 8) sc_law_words.nd rfl (Or.inl rfl))) (fun _ _ _ _ _ => zts_nil) (fun _ _ _ _ _ => z_ix (zv 2) (z_callR (ok_law_draw t tb) (hr.mono (by decide)) (by rfl) t.g__law_draw t.k__law_draw (bd_law_draw t) (pa_cons (pv 0) (za_cons (z_int) (za_nil))))))))))) (zs_cons (z_set (i := 7) sc_law_words.nd rfl (Or.inr rfl) (z_callR (ok_law_draw t tb) (hr.mono (by decide)) (by rfl) t.g__law_draw t.k__law_draw (bd_law_draw t) (pa_cons (pv 0) (za_cons (z_op zo_add (z_callB zc_len (by rfl) t.b_len (by decide +kernel) (za_cons (zv 6) (za_nil))) (z_int)) (za_nil))))) (zs_one (z_ret (z_val (zf_lc (own := [(("_law_k" : Str), 8)]) (pe_lc (own := [(("_law_k" : Str), 8)]) rfl sc_law_words.nd (zi_range1 (by rfl) t.b_range (zv 1)) (blkOk_by (own := [(("_law_k" : Str), 8)]) (N := N_law_words) (sc := defScope s_law_words) (by decide +kernel)) (fun _ _ _ _ _ => zgw_name (by decide) (pg_name (i := 8) sc_law_words.nd rfl (Or.inl rfl))) (fun _ _ _ _ _ => zts_nil) (fun _ _ _ _ _ => z_op zo_add (z_op zo_add (z_slice (zv 6) (zp_none) (zp_some (zv 7))) (z_ix (zv 2) (z_op zo_mod (z_op zo_add (zv 5) (z_op zo_mulA (z_int) (zv 8))) (z_int)))) (z_slice (zv 6) (zp_some (zv 7)) (zp_none))))))))))))))), fun _ _ _ h => rd_law_words h⟩
theorem bd_law_right05 (t : Tx P w K mg a) : Binds K a.d_law_right05 [("_law_pool_here" : Str)] [] := t.F_law_right05.fn.binds fun _ _ _ _ _ _ us hl => match us, hl with | [_], _ => rfl
theorem ok_law_right05 (t : Tx P w K mg a) (tb : TB2 base mg a) : FnG P w K mg base 12 a.f_law_right05 a.d_law_right05 [("_law_pool_here" : Str)] (upSpR K (TT a) (sp_law_right05 K a.CLine a.XC)) :=
 okGRC (nm := ("_law_pool_here" : Str)) (N := [("_law_rides_here" : Str), ("_law_turn" : Str), ("_law_wrong" : Str), ("_law_width" : Str), ("_law_a" : Str), ("_law_b" : Str), ("_law_c" : Str), ("_law_d" : Str), ("_law_g" : Str)]) (ps := []) t.F_law_right05 sc_law_right05 (fun _ _ _ h => len_law_right05 h) (by decide) fun A outer s H E hG hr => ⟨ts_law_right05 K a.CLine a.XC, zs_cons (z_set (i := 1) sc_law_right05.nd rfl (Or.inl rfl) (z_callR (ok_law_rides t tb) (hr.mono (by decide)) (by rfl) t.g__law_rides t.k__law_rides (bd_law_rides t) (pa_cons (pv 0) (za_cons (z_callR (ok_law_words t tb) (hr.mono (by decide)) (by rfl) t.g__law_words t.k__law_words (bd_law_words t) (pa_cons (pv 0) (za_cons (z_op zo_add (z_int) (z_callR (ok_law_draw t tb) (hr.mono (by decide)) (by rfl) t.g__law_draw t.k__law_draw (bd_law_draw t) (pa_cons (pv 0) (za_cons (z_int) (za_nil))))) (za_nil)))) (za_cons (z_int) (za_nil)))))) (zs_cons (z_for PassesOwn.never rfl (zi_range1 (by rfl) t.b_range (z_int)) (zg_name (i := 2) sc_law_right05.nd rfl (Or.inl rfl)) (zs_cons (z_set (i := 3) sc_law_right05.nd rfl (Or.inl rfl) (z_ix (z_lst (za_cons (z_non) (za_cons (z_int) (za_cons (z_int) (za_cons (z_bl) (za_cons (z_str) (za_cons (z_dic0) (za_nil)))))))) (z_callR (ok_law_draw t tb) (hr.mono (by decide)) (by rfl) t.g__law_draw t.k__law_draw (bd_law_draw t) (pa_cons (pv 0) (za_cons (z_int) (za_nil)))))) (zs_cons (z_set (i := 4) sc_law_right05.nd rfl (Or.inr rfl) (z_ix (z_lst (za_cons (z_op zo_add (z_int) (z_callR (ok_law_draw t tb) (hr.mono (by decide)) (by rfl) t.g__law_draw t.k__law_draw (bd_law_draw t) (pa_cons (pv 0) (za_cons (z_int) (za_nil))))) (za_cons (zv 3) (za_nil)))) (z_callTy zc_int1 (by rfl) t.b_int (by decide +kernel) (za_cons (z_cmp zo_eqI (z_callR (ok_law_draw t tb) (hr.mono (by decide)) (by rfl) t.g__law_draw t.k__law_draw (bd_law_draw t) (pa_cons (pv 0) (za_cons (z_int) (za_nil)))) (z_int)) (za_nil))))) (zs_cons (z_asg (z_callR (ok_law_some t tb) (hr.mono (by decide)) (by rfl) t.g__law_some t.k__law_some (bd_law_some t) (pa_cons (pv 0) (za_cons (zv 1) (za_nil)))) (zg_lst (pg_lst rfl (zgs_cons1 (zg_name (i := 5) sc_law_right05.nd rfl (Or.inr rfl)) (zgs_cons1 (zg_name (i := 6) sc_law_right05.nd rfl (Or.inr rfl)) (zgs_cons1 (zg_name (i := 7) sc_law_right05.nd rfl (Or.inr rfl)) (zgs_cons1 (zg_name (i := 8) sc_law_right05.nd rfl (Or.inr rfl)) (zgs_cons1 (zg_name (i := 9) sc_law_right05.nd rfl (Or.inr rfl)) (zgs_nil))))))))) (zs_cons (z_if (zt_not (zt_val (z_callG (ok_law_same t tb) hG (hr.mono (by decide)) (by rfl) t.g__law_same t.k__law_same (bd_law_same t) .nil (fun _ _ => .nil) (za_cons (z_caught t.F_law_caught sc_law_caught rfl rfl rfl (bd_law_caught t) (by rfl) t.g__law_caught t.k__law_caught (fun _ _ _ => (.cons ⟨rfl, rfl, .inl t.g_SeatError⟩ (.cons ⟨rfl, rfl, .inl t.g_StateError⟩ (.cons ⟨rfl, rfl, .inl t.g_SizeError⟩ .nil)))) L2N.tupM3 (by simp) (fun cdv s H hr e oe cls d pn hz hf => su_law_caught t tb hr hz hf) tb.t3 rfl (TT_mem_t3 a) (TT_one_t3 t) (hr.mono (by decide)) (LamX.lamS_by (show LamX.lamSB (defScope s_law_right05) _ = true by decide +kernel)) rfl (fun _ _ _ _ _ => rfl) (fun A outer s H E f c' hr1 => zx_cmetV (z_gc (by rfl) t.g_Line) t.cr t.cm_made (okr_Line_made t tb) L2T.lam_takes (hr1.mono (by decide)) (za_cons (zv 4) (za_nil)))) (za_cons (zv 4) (za_cons (z_lst (za_nil)) (za_nil))))))) (zs_one (z_ret (z_bl))) (zs_nil)) (zs_cons (z_if (zt_not (zt_val (z_callG (ok_law_same t tb) hG (hr.mono (by decide)) (by rfl) t.g__law_same t.k__law_same (bd_law_same t) .nil (fun _ _ => .nil) (za_cons (z_caught t.F_law_caught sc_law_caught rfl rfl rfl (bd_law_caught t) (by rfl) t.g__law_caught t.k__law_caught (fun _ _ _ => (.cons ⟨rfl, rfl, .inl t.g_SeatError⟩ (.cons ⟨rfl, rfl, .inl t.g_StateError⟩ (.cons ⟨rfl, rfl, .inl t.g_SizeError⟩ .nil)))) L2N.tupM3 (by simp) (fun cdv s H hr e oe cls d pn hz hf => su_law_caught t tb hr hz hf) tb.t3 rfl (TT_mem_t3 a) (TT_one_t3 t) (hr.mono (by decide)) (LamX.lamS_by (show LamX.lamSB (defScope s_law_right05) _ = true by decide +kernel)) rfl (fun _ _ _ _ _ => rfl) (fun A outer s H E f c' hr1 => zx_cmetVK (z_gc (by rfl) t.g_Line) t.cr t.cm_made (oka_Line_made t tb) (hr1.mono (by decide)) (bq_Line_made t) L2T.lam_takes (zk_cons (zv 4) (zk_nil)))) (za_cons (zv 4) (za_cons (z_lst (za_nil)) (za_nil))))))) (zs_one (z_ret (z_bl))) (zs_nil)) (zs_cons (z_if (zt_not (zt_val (z_callG (ok_law_same t tb) hG (hr.mono (by decide)) (by rfl) t.g__law_same t.k__law_same (bd_law_same t) .nil (fun _ _ => .nil) (za_cons (z_caught t.F_law_caught sc_law_caught rfl rfl rfl (bd_law_caught t) (by rfl) t.g__law_caught t.k__law_caught (fun _ _ _ => (.cons ⟨rfl, rfl, .inl t.g_SeatError⟩ (.cons ⟨rfl, rfl, .inl t.g_StateError⟩ (.cons ⟨rfl, rfl, .inl t.g_SizeError⟩ .nil)))) L2N.tupM3 (by simp) (fun cdv s H hr e oe cls d pn hz hf => su_law_caught t tb hr hz hf) tb.t3 rfl (TT_mem_t3 a) (TT_one_t3 t) (hr.mono (by decide)) (LamX.lamS_by (show LamX.lamSB (defScope s_law_right05) _ = true by decide +kernel)) rfl (fun _ _ _ _ _ => rfl) (fun A outer s H E f c' hr1 => zx_cmetV (z_gc (by rfl) t.g_Line) t.cr t.cm_made (okr_Line_made t tb) L2T.lam_takes (hr1.mono (by decide)) (za_cons (zv 4) (za_cons (zv 5) (za_nil))))) (za_cons (zv 4) (za_cons (z_lst (za_cons (zv 5) (za_nil))) (za_nil))))))) (zs_one (z_ret (z_bl))) (zs_nil)) (zs_cons (z_if (zt_not (zt_val (z_callG (ok_law_same t tb) hG (hr.mono (by decide)) (by rfl) t.g__law_same t.k__law_same (bd_law_same t) .nil (fun _ _ => .nil) (za_cons (z_caught t.F_law_caught sc_law_caught rfl rfl rfl (bd_law_caught t) (by rfl) t.g__law_caught t.k__law_caught (fun _ _ _ => (.cons ⟨rfl, rfl, .inl t.g_SeatError⟩ (.cons ⟨rfl, rfl, .inl t.g_StateError⟩ (.cons ⟨rfl, rfl, .inl t.g_SizeError⟩ .nil)))) L2N.tupM3 (by simp) (fun cdv s H hr e oe cls d pn hz hf => su_law_caught t tb hr hz hf) tb.t3 rfl (TT_mem_t3 a) (TT_one_t3 t) (hr.mono (by decide)) (LamX.lamS_by (show LamX.lamSB (defScope s_law_right05) _ = true by decide +kernel)) rfl (fun _ _ _ _ _ => rfl) (fun A outer s H E f c' hr1 => zx_cmetV (z_gc (by rfl) t.g_Line) t.cr t.cm_made (okr_Line_made t tb) L2T.lam_takes (hr1.mono (by decide)) (za_cons (zv 4) (za_cons (zv 5) (za_cons (zv 6) (za_nil)))))) (za_cons (zv 4) (za_cons (z_lst (za_cons (zv 5) (za_cons (zv 6) (za_nil)))) (za_nil))))))) (zs_one (z_ret (z_bl))) (zs_nil)) (zs_cons (z_if (zt_not (zt_val (z_callG (ok_law_same t tb) hG (hr.mono (by decide)) (by rfl) t.g__law_same t.k__law_same (bd_law_same t) .nil (fun _ _ => .nil) (za_cons (z_caught t.F_law_caught sc_law_caught rfl rfl rfl (bd_law_caught t) (by rfl) t.g__law_caught t.k__law_caught (fun _ _ _ => (.cons ⟨rfl, rfl, .inl t.g_SeatError⟩ (.cons ⟨rfl, rfl, .inl t.g_StateError⟩ (.cons ⟨rfl, rfl, .inl t.g_SizeError⟩ .nil)))) L2N.tupM3 (by simp) (fun cdv s H hr e oe cls d pn hz hf => su_law_caught t tb hr hz hf) tb.t3 rfl (TT_mem_t3 a) (TT_one_t3 t) (hr.mono (by decide)) (LamX.lamS_by (show LamX.lamSB (defScope s_law_right05) _ = true by decide +kernel)) rfl (fun _ _ _ _ _ => rfl) (fun A outer s H E f c' hr1 => zx_imetV (z_nox (zx_new t.mkL (okx_Line_initX t tb) L2N.takes0 (hr1.mono (by decide)) (by rfl) t.g_Line (b1_Line_initX t).choose_spec.2 (b1_Line_initX t).choose_spec.1 (fun _ _ => t.dfl) (za_cons (z_int) (za_nil)))) t.ci_made (okr_Line_made t tb) L2T.lam_takes (hr1.mono (by decide)) (za_cons (zv 4) (za_cons (zv 7) (za_cons (zv 6) (za_cons (zv 5) (za_nil))))))) (za_cons (zv 4) (za_cons (z_lst (za_cons (zv 7) (za_cons (zv 6) (za_cons (zv 5) (za_nil))))) (za_nil))))))) (zs_one (z_ret (z_bl))) (zs_nil)) (zs_cons (z_if (zt_not (zt_val (z_callG (ok_law_same t tb) hG (hr.mono (by decide)) (by rfl) t.g__law_same t.k__law_same (bd_law_same t) .nil (fun _ _ => .nil) (za_cons (z_caught t.F_law_caught sc_law_caught rfl rfl rfl (bd_law_caught t) (by rfl) t.g__law_caught t.k__law_caught (fun _ _ _ => (.cons ⟨rfl, rfl, .inl t.g_SeatError⟩ (.cons ⟨rfl, rfl, .inl t.g_StateError⟩ (.cons ⟨rfl, rfl, .inl t.g_SizeError⟩ .nil)))) L2N.tupM3 (by simp) (fun cdv s H hr e oe cls d pn hz hf => su_law_caught t tb hr hz hf) tb.t3 rfl (TT_mem_t3 a) (TT_one_t3 t) (hr.mono (by decide)) (LamX.lamS_by (show LamX.lamSB (defScope s_law_right05) _ = true by decide +kernel)) rfl (fun _ _ _ _ _ => rfl) (fun A outer s H E f c' hr1 => zx_cmetV (z_gc (by rfl) t.g_Line) t.cr t.cm_made (okr_Line_made t tb) L2T.lam_takes (hr1.mono (by decide)) (za_cons (zv 4) (za_cons (zv 8) (za_cons (zv 5) (za_cons (zv 7) (za_cons (zv 6) (za_nil)))))))) (za_cons (zv 4) (za_cons (z_lst (za_cons (zv 8) (za_cons (zv 5) (za_cons (zv 7) (za_cons (zv 6) (za_nil)))))) (za_nil))))))) (zs_one (z_ret (z_bl))) (zs_nil)) (zs_one (z_if (zt_not (zt_val (z_callG (ok_law_same t tb) hG (hr.mono (by decide)) (by rfl) t.g__law_same t.k__law_same (bd_law_same t) .nil (fun _ _ => .nil) (za_cons (z_caught t.F_law_caught sc_law_caught rfl rfl rfl (bd_law_caught t) (by rfl) t.g__law_caught t.k__law_caught (fun _ _ _ => (.cons ⟨rfl, rfl, .inl t.g_SeatError⟩ (.cons ⟨rfl, rfl, .inl t.g_StateError⟩ (.cons ⟨rfl, rfl, .inl t.g_SizeError⟩ .nil)))) L2N.tupM3 (by simp) (fun cdv s H hr e oe cls d pn hz hf => su_law_caught t tb hr hz hf) tb.t3 rfl (TT_mem_t3 a) (TT_one_t3 t) (hr.mono (by decide)) (LamX.lamS_by (show LamX.lamSB (defScope s_law_right05) _ = true by decide +kernel)) rfl (fun _ _ _ _ _ => rfl) (fun A outer s H E f c' hr1 => zx_cmetV (z_gc (by rfl) t.g_Line) t.cr t.cm_made (okr_Line_made t tb) L2T.lam_takes (hr1.mono (by decide)) (za_cons (zv 4) (za_cons (zv 9) (za_cons (zv 8) (za_cons (zv 7) (za_cons (zv 6) (za_cons (zv 5) (za_nil))))))))) (za_cons (zv 4) (za_cons (z_lst (za_cons (zv 9) (za_cons (zv 8) (za_cons (zv 7) (za_cons (zv 6) (za_cons (zv 5) (za_nil))))))) (za_nil))))))) (zs_one (z_ret (z_bl))) (zs_nil))))))))))))) (zs_one (z_ret (z_bl)))), fun _ _ _ h => rd_law_right05 h⟩
theorem ok_law05 (t : Tx P w K mg a) (tb : TB2 base mg a) : FnG P w K mg base 13 a.f_law05 a.d_law05 [("_law_script" : Str)] (upSp K (TT a) (sp_law05 K a.CLine a.XC)) :=
 okGP t.F_law05 sc_law05 (fun _ _ h => len_law05 h) (by decide) fun cdv A outer s H E hG hr => ⟨ts_law05 K a.CLine a.XC, zs_one (z_ret (z_callB (zc_all rfl) (by rfl) t.b_all (by decide +kernel) (za_cons (z_val (zf_lc (own := [(("_law_k" : Str), 1)]) (pe_lc (own := [(("_law_k" : Str), 1)]) rfl sc_law05.nd (zi_range1 (by rfl) t.b_range (z_callB (zc_max2 rfl) (by rfl) t.b_max (by decide +kernel) (za_cons (z_int) (za_cons (z_callB (zc_min2 rfl) (by rfl) t.b_min (by decide +kernel) (za_cons (z_callB zc_len (by rfl) t.b_len (by decide +kernel) (za_cons (zv 0) (za_nil))) (za_cons (z_int) (za_nil)))) (za_nil))))) (blkOk_by (own := [(("_law_k" : Str), 1)]) (N := N_law05) (sc := defScope s_law05) (by decide +kernel)) (fun _ _ _ _ _ => zgw_name (by decide) (pg_name (i := 1) sc_law05.nd rfl (Or.inl rfl))) (fun _ _ _ _ _ => zts_nil) (fun _ _ _ _ _ => z_callRFG (ok_law_right05 t tb) hG (hr.mono (by decide)) (by rfl) t.g__law_right t.k__law_right (bd_law_right05 t) (pa_cons (z_callF (ok_law_pool t tb) (hr.mono (by decide)) (by rfl) t.g__law_pool t.k__law_pool (bd_law_pool t) (za_cons (z_call (ok_law_cell t tb) (hr.mono (by decide)) (by rfl) t.g__law_cell t.k__law_cell (bd_law_cell t) .nil (fun _ _ => .nil) (za_cons (zv 0) (za_cons (zv 1) (za_nil)))) (za_nil))) (za_nil)))))) (za_nil)))), fun _ _ h => rd_law05 h⟩
end
end ZK
namespace ZK
open PySem PySem.Spec L2 Z
open PyProof.Rows hiding St
theorem law_mk {l : PySem.W.OpenLaw} {w : World} {K : PySem.W.Frag} {h : Heap} {mg : Str → Option Value} {fa CLine cL tL eL qT qC TD cT tT cT3 tT3 qc_made q_order q_peak C_Busy C_Full C_InvalidAction C_InvalidCommand C_InvalidExchange C_InvalidFixed C_InvalidName C_InvalidNumber C_InvalidPlan C_InvalidSeat C_InvalidSeats C_InvalidStation C_InvalidText C_InvalidTrips C_NameTaken C_NotALine C_NotFree C_NothingToUndo C_Overfull C_SeatError C_SizeError C_StateError C_TooManyEntries C_TooManyPlans C_TooManyTrips fX_InvalidSeats cc_InvalidSeats cda_InvalidSeats fX_InvalidTrips cc_InvalidTrips cda_InvalidTrips f_law_cell f_law_pool f_is_integer f_check_seatsX f_is_later f_is_station f_is_trip_name f_is_tripE f_valid_beginningE f_Line_capacity f_Line_trips f_Line_len f_Line_eq f_Line_str f_Line_initX f_load_of f_Line_order f_Line_peak f_Line_made f_law_draw f_law_far f_law_rides f_law_trip f_law_due f_law_same f_law_some f_law_other_fields f_law_fields f_law_kind f_law_caught f_law_words f_law_right05 f_law05 : Addr} {mL : Value} {rT : List Value} {rC : List Value}
  {r_order : List Value} {r_peak : List Value} {rM_made : List Value} {ocX_InvalidSeats kVX_InvalidSeats dcX_InvalidSeats pmX_InvalidSeats ctX_InvalidSeats clX_InvalidSeats cclX_InvalidSeats : Value} {odX_InvalidSeats anX_InvalidSeats cldX_InvalidSeats cddX_InvalidSeats : Option Addr} {slX_InvalidSeats csX_InvalidSeats ccX_InvalidSeats : Array (Option Value)} {vsX_InvalidSeats : Array Value} {fileX_InvalidSeats : Str} {tfX_InvalidSeats : Tok} {ocX_InvalidTrips kVX_InvalidTrips dcX_InvalidTrips pmX_InvalidTrips ctX_InvalidTrips clX_InvalidTrips cclX_InvalidTrips : Value} {odX_InvalidTrips anX_InvalidTrips cldX_InvalidTrips cddX_InvalidTrips : Option Addr} {slX_InvalidTrips csX_InvalidTrips ccX_InvalidTrips : Array (Option Value)} {vsX_InvalidTrips : Array Value} {fileX_InvalidTrips : Str} {tfX_InvalidTrips : Tok} {oc_law_cell kV_law_cell dc_law_cell pm_law_cell cd_law_cell ct_law_cell : Value} {od_law_cell an_law_cell : Option Addr} {sl_law_cell : Array (Option Value)} {oc_law_pool kV_law_pool dc_law_pool pm_law_pool cd_law_pool ct_law_pool : Value} {od_law_pool an_law_pool : Option Addr} {sl_law_pool : Array (Option Value)} {oc_is_integer kV_is_integer dc_is_integer pm_is_integer cd_is_integer ct_is_integer : Value} {od_is_integer an_is_integer : Option Addr} {sl_is_integer : Array (Option Value)} {oc_check_seatsX kV_check_seatsX dc_check_seatsX pm_check_seatsX cd_check_seatsX ct_check_seatsX : Value} {od_check_seatsX an_check_seatsX : Option Addr} {sl_check_seatsX : Array (Option Value)} {oc_is_later kV_is_later dc_is_later pm_is_later cd_is_later ct_is_later : Value} {od_is_later an_is_later : Option Addr} {sl_is_later : Array (Option Value)} {oc_is_station kV_is_station dc_is_station pm_is_station cd_is_station ct_is_station : Value} {od_is_station an_is_station : Option Addr} {sl_is_station : Array (Option Value)} {oc_is_trip_name kV_is_trip_name dc_is_trip_name pm_is_trip_name cd_is_trip_name ct_is_trip_name : Value} {od_is_trip_name an_is_trip_name : Option Addr} {sl_is_trip_name : Array (Option Value)} {oc_is_tripE kV_is_tripE dc_is_tripE pm_is_tripE cd_is_tripE ct_is_tripE : Value} {od_is_tripE an_is_tripE : Option Addr} {sl_is_tripE : Array (Option Value)} {oc_valid_beginningE kV_valid_beginningE dc_valid_beginningE pm_valid_beginningE cd_valid_beginningE ct_valid_beginningE : Value} {od_valid_beginningE an_valid_beginningE : Option Addr} {sl_valid_beginningE : Array (Option Value)} {oc_Line_capacity kV_Line_capacity dc_Line_capacity pm_Line_capacity cd_Line_capacity ct_Line_capacity : Value} {od_Line_capacity an_Line_capacity : Option Addr} {sl_Line_capacity : Array (Option Value)} {oc_Line_trips kV_Line_trips dc_Line_trips pm_Line_trips cd_Line_trips ct_Line_trips : Value} {od_Line_trips an_Line_trips : Option Addr} {sl_Line_trips : Array (Option Value)} {oc_Line_len kV_Line_len dc_Line_len pm_Line_len cd_Line_len ct_Line_len : Value} {od_Line_len an_Line_len : Option Addr} {sl_Line_len : Array (Option Value)} {oc_Line_eq kV_Line_eq dc_Line_eq pm_Line_eq cd_Line_eq ct_Line_eq : Value} {od_Line_eq an_Line_eq : Option Addr} {sl_Line_eq : Array (Option Value)} {oc_Line_str kV_Line_str dc_Line_str pm_Line_str cd_Line_str ct_Line_str : Value} {od_Line_str an_Line_str : Option Addr} {sl_Line_str : Array (Option Value)} {oc_Line_initX kV_Line_initX dc_Line_initX pm_Line_initX  ct_Line_initX : Value} {od_Line_initX an_Line_initX : Option Addr} {sl_Line_initX : Array (Option Value)} {oTD oEL oCL : Option Addr} {nTD nEL : Nat} {slT slE slC : Array (Option Value)} {cvs : Array Value} {oc_load_of kV_load_of dc_load_of pm_load_of cd_load_of ct_load_of : Value} {od_load_of an_load_of : Option Addr} {sl_load_of : Array (Option Value)} {oc_Line_order kV_Line_order dc_Line_order pm_Line_order cd_Line_order ct_Line_order : Value} {od_Line_order an_Line_order : Option Addr} {sl_Line_order : Array (Option Value)} {oc_Line_peak kV_Line_peak dc_Line_peak pm_Line_peak cd_Line_peak ct_Line_peak : Value} {od_Line_peak an_Line_peak : Option Addr} {sl_Line_peak : Array (Option Value)} {oc_Line_made kV_Line_made dc_Line_made pm_Line_made  ct_Line_made : Value} {od_Line_made an_Line_made : Option Addr} {sl_Line_made : Array (Option Value)} {oCT : Option Addr} {slCT : Array (Option Value)} {cvT : Array Value} {oc_law_draw kV_law_draw dc_law_draw pm_law_draw cd_law_draw ct_law_draw : Value} {od_law_draw an_law_draw : Option Addr} {sl_law_draw : Array (Option Value)} {oc_law_far kV_law_far dc_law_far pm_law_far cd_law_far ct_law_far : Value} {od_law_far an_law_far : Option Addr} {sl_law_far : Array (Option Value)} {oc_law_rides kV_law_rides dc_law_rides pm_law_rides cd_law_rides ct_law_rides : Value} {od_law_rides an_law_rides : Option Addr} {sl_law_rides : Array (Option Value)} {oc_law_trip kV_law_trip dc_law_trip pm_law_trip cd_law_trip ct_law_trip : Value} {od_law_trip an_law_trip : Option Addr} {sl_law_trip : Array (Option Value)} {oc_law_due kV_law_due dc_law_due pm_law_due cd_law_due ct_law_due : Value} {od_law_due an_law_due : Option Addr} {sl_law_due : Array (Option Value)} {oc_law_same kV_law_same dc_law_same pm_law_same cd_law_same ct_law_same : Value} {od_law_same an_law_same : Option Addr} {sl_law_same : Array (Option Value)} {oc_law_some kV_law_some dc_law_some pm_law_some cd_law_some ct_law_some : Value} {od_law_some an_law_some : Option Addr} {sl_law_some : Array (Option Value)} {oc_law_other_fields kV_law_other_fields dc_law_other_fields pm_law_other_fields cd_law_other_fields ct_law_other_fields : Value} {od_law_other_fields an_law_other_fields : Option Addr} {sl_law_other_fields : Array (Option Value)} {oc_law_fields kV_law_fields dc_law_fields pm_law_fields cd_law_fields ct_law_fields : Value} {od_law_fields an_law_fields : Option Addr} {sl_law_fields : Array (Option Value)} {oc_law_kind kV_law_kind dc_law_kind pm_law_kind cd_law_kind ct_law_kind : Value} {od_law_kind an_law_kind : Option Addr} {sl_law_kind : Array (Option Value)} {oc_law_caught kV_law_caught dc_law_caught pm_law_caught cd_law_caught ct_law_caught : Value} {od_law_caught an_law_caught : Option Addr} {sl_law_caught : Array (Option Value)} {oc_law_words kV_law_words dc_law_words pm_law_words cd_law_words ct_law_words : Value} {od_law_words an_law_words : Option Addr} {sl_law_words : Array (Option Value)} {oc_law_right05 kV_law_right05 dc_law_right05 pm_law_right05  ct_law_right05 : Value} {od_law_right05 an_law_right05 : Option Addr} {sl_law_right05 : Array (Option Value)} {oCT3 : Option Addr} {slCT3 : Array (Option Value)} {cvT3 : Array Value} {oc_law05 kV_law05 dc_law05 pm_law05 cd_law05 ct_law05 : Value} {od_law05 an_law05 : Option Addr} {sl_law05 : Array (Option Value)} {tv_LETTERS : Tok} {tv_LONGEST_NAME : Tok} {tv_MAX_SEATS : Tok} {tv_MAX_TRIPS : Tok}
  (X : K.In h) (G : h.Ns mainGlobals mg) (hfa : mg "law" = some (.ref fa))
  (hC : PySem.W.nsIn K mainGlobals "Line" = some (some (.ref CLine)))
  (c1 : PySem.W.plainGet K CLine Str.empty = true)
  (c2 : PySem.W.hasDictIn K CLine = true)
  (c3 : PySem.W.plainOver K CLine = true)
  (c4 : PySem.W.findIn K (.ref CLine) "__setattr__" = some (some (.builtin "object.__setattr__")))
  (t1 : PySem.W.findIn K (.ref CLine) "__class__" = some (some (.builtin "object.__class__")))
  (t2 : PySem.W.specialIn K (.builtin "object.__class__") "__get__" = some (some (.builtin "getset_descriptor.__get__")))
  (t3 : PySem.W.takesIn K (.builtin "object.__class__") = some true)
  (t4 : PySem.W.mroIn K CLine (.type "object") = some true)
  (t5 : PySem.W.kitOne K (.ref CLine) (.ref CLine) = some true)
  (ty0 : PySem.W.kitOne K (.ref CLine) (.type "int") = some false)
  (ty1 : PySem.W.kitOne K (.ref CLine) (.type "bool") = some false)
  (ty2 : PySem.W.kitOne K (.ref CLine) (.type "str") = some false)
  (ty3 : PySem.W.kitOne K (.ref CLine) (.type "tuple") = some false)
  (ty4 : PySem.W.kitOne K (.ref CLine) (.type "list") = some false)
  (ty5 : PySem.W.kitOne K (.ref CLine) (.type "dict") = some false)
  (no0 : PySem.W.kitOne K (.type "NoneType") (.ref CLine) = some false)
  (no1 : PySem.W.kitOne K (.type "int") (.ref CLine) = some false)
  (no2 : PySem.W.kitOne K (.type "bool") (.ref CLine) = some false)
  (no3 : PySem.W.kitOne K (.type "str") (.ref CLine) = some false)
  (no4 : PySem.W.kitOne K (.type "tuple") (.ref CLine) = some false)
  (no5 : PySem.W.kitOne K (.type "list") (.ref CLine) = some false)
  (no6 : PySem.W.kitOne K (.type "dict") (.ref CLine) = some false)
  (m1 : PySem.W.makesIn K CLine = true)
  (m2 : PySem.W.findIn K (.ref CLine) "__init__" = some (some (.ref f_Line_initX)))
  (m3 : PySem.W.isFn K (.ref f_Line_initX) = true)
  (m4 : PySem.W.keepIn K (.ref CLine) = true)
  (u1 : PySem.W.findIn K (.ref CLine) "capacity" = some (some (.ref qC)))
  (u2 : PySem.W.specialIn K (.ref qC) "__get__" = some (some (.builtin "property.__get__")))
  (u3 : PySem.W.takesIn K (.ref qC) = some true)
  (u4 : PySem.W.recIn K qC "property" = some (.ref f_Line_capacity :: rC))
  (u1_order : PySem.W.findIn K (.ref CLine) "order" = some (some (.ref q_order)))
  (u2_order : PySem.W.specialIn K (.ref q_order) "__get__" = some (some (.builtin "property.__get__")))
  (u3_order : PySem.W.takesIn K (.ref q_order) = some true)
  (u4_order : PySem.W.recIn K q_order "property" = some (.ref f_Line_order :: r_order))
  (u1_peak : PySem.W.findIn K (.ref CLine) "peak" = some (some (.ref q_peak)))
  (u2_peak : PySem.W.specialIn K (.ref q_peak) "__get__" = some (some (.builtin "property.__get__")))
  (u3_peak : PySem.W.takesIn K (.ref q_peak) = some true)
  (u4_peak : PySem.W.recIn K q_peak "property" = some (.ref f_Line_peak :: r_peak))
  (x1 : PySem.W.findIn K (.ref CLine) "__eq__" = some (some (.ref f_Line_eq)))
  (x1f : PySem.W.isFn K (.ref f_Line_eq) = true)
  (x2 : PySem.W.findIn K (.ref CLine) "__len__" = some (some (.ref f_Line_len)))
  (x2f : PySem.W.isFn K (.ref f_Line_len) = true)
  (x3 : PySem.W.findIn K (.ref CLine) "__str__" = some (some (.ref f_Line_str)))
  (x3f : PySem.W.isFn K (.ref f_Line_str) = true)
  (x4 : PySem.W.findIn K (.ref CLine) "__ne__" = some (some (.builtin "object.__ne__")))
  (x5 : PySem.W.findIn K (.ref CLine) "__bool__" = some none)
  (nf0 : PySem.W.notFirst K CLine (.type "NoneType") = true)
  (nf1 : PySem.W.notFirst K CLine (.type "int") = true)
  (nf2 : PySem.W.notFirst K CLine (.type "bool") = true)
  (nf3 : PySem.W.notFirst K CLine (.type "str") = true)
  (nf4 : PySem.W.notFirst K CLine (.type "tuple") = true)
  (nf5 : PySem.W.notFirst K CLine (.type "list") = true)
  (nf6 : PySem.W.notFirst K CLine (.type "dict") = true)
  (r1 : PySem.W.readsIn K CLine mL = true)
  (r2 : PySem.W.specialIn K (.ref CLine) "__getattribute__" = some (some (.builtin "type.__getattribute__")))
  (d1_made : PySem.W.findCls K (.ref CLine) mL "made" = some (.get (.builtin "classmethod.__get__") (.ref qc_made) .none (.ref CLine)))
  (d2_made : PySem.W.recIn K qc_made "classmethod" = some (.ref f_Line_made :: rM_made))
  (d3_made : PySem.W.fnIn K f_Line_made = true)
  (d4_made : PySem.W.isClsIn K CLine = true)
  (d5_made : PySem.W.findIn K (.ref CLine) "made" = some (some (.ref qc_made)))
  (d6_made : PySem.W.typeIn K (.ref qc_made) = some (.type "classmethod"))
  (d7_made : PySem.W.specialIn K (.ref qc_made) "__get__" = some (some (.builtin "classmethod.__get__")))
  (d8_made : PySem.W.takesIn K (.ref qc_made) = some false)
  (q1 : PySem.W.findIn K (.ref CLine) "trips" = some (some (.ref qT)))
  (q2 : PySem.W.specialIn K (.ref qT) "__get__" = some (some (.builtin "property.__get__")))
  (q3 : PySem.W.takesIn K (.ref qT) = some true)
  (q4 : PySem.W.recIn K qT "property" = some (.ref f_Line_trips :: rT))
  (n_seat_count : PySem.W.findIn K (.ref CLine) "seat_count" = some none)
  (n_rows : PySem.W.findIn K (.ref CLine) "rows" = some none)
  (n_queue : PySem.W.findIn K (.ref CLine) "queue" = some none)
  (xg_Busy : PySem.W.nsIn K mainGlobals "Busy" = some (some (.ref C_Busy)))
  (xg_Full : PySem.W.nsIn K mainGlobals "Full" = some (some (.ref C_Full)))
  (xg_InvalidAction : PySem.W.nsIn K mainGlobals "InvalidAction" = some (some (.ref C_InvalidAction)))
  (xg_InvalidCommand : PySem.W.nsIn K mainGlobals "InvalidCommand" = some (some (.ref C_InvalidCommand)))
  (xg_InvalidExchange : PySem.W.nsIn K mainGlobals "InvalidExchange" = some (some (.ref C_InvalidExchange)))
  (xg_InvalidFixed : PySem.W.nsIn K mainGlobals "InvalidFixed" = some (some (.ref C_InvalidFixed)))
  (xg_InvalidName : PySem.W.nsIn K mainGlobals "InvalidName" = some (some (.ref C_InvalidName)))
  (xg_InvalidNumber : PySem.W.nsIn K mainGlobals "InvalidNumber" = some (some (.ref C_InvalidNumber)))
  (xg_InvalidPlan : PySem.W.nsIn K mainGlobals "InvalidPlan" = some (some (.ref C_InvalidPlan)))
  (xg_InvalidSeat : PySem.W.nsIn K mainGlobals "InvalidSeat" = some (some (.ref C_InvalidSeat)))
  (xg_InvalidSeats : PySem.W.nsIn K mainGlobals "InvalidSeats" = some (some (.ref C_InvalidSeats)))
  (xg_InvalidStation : PySem.W.nsIn K mainGlobals "InvalidStation" = some (some (.ref C_InvalidStation)))
  (xg_InvalidText : PySem.W.nsIn K mainGlobals "InvalidText" = some (some (.ref C_InvalidText)))
  (xg_InvalidTrips : PySem.W.nsIn K mainGlobals "InvalidTrips" = some (some (.ref C_InvalidTrips)))
  (xg_NameTaken : PySem.W.nsIn K mainGlobals "NameTaken" = some (some (.ref C_NameTaken)))
  (xg_NotALine : PySem.W.nsIn K mainGlobals "NotALine" = some (some (.ref C_NotALine)))
  (xg_NotFree : PySem.W.nsIn K mainGlobals "NotFree" = some (some (.ref C_NotFree)))
  (xg_NothingToUndo : PySem.W.nsIn K mainGlobals "NothingToUndo" = some (some (.ref C_NothingToUndo)))
  (xg_Overfull : PySem.W.nsIn K mainGlobals "Overfull" = some (some (.ref C_Overfull)))
  (xg_SeatError : PySem.W.nsIn K mainGlobals "SeatError" = some (some (.ref C_SeatError)))
  (xg_SizeError : PySem.W.nsIn K mainGlobals "SizeError" = some (some (.ref C_SizeError)))
  (xg_StateError : PySem.W.nsIn K mainGlobals "StateError" = some (some (.ref C_StateError)))
  (xg_TooManyEntries : PySem.W.nsIn K mainGlobals "TooManyEntries" = some (some (.ref C_TooManyEntries)))
  (xg_TooManyPlans : PySem.W.nsIn K mainGlobals "TooManyPlans" = some (some (.ref C_TooManyPlans)))
  (xg_TooManyTrips : PySem.W.nsIn K mainGlobals "TooManyTrips" = some (some (.ref C_TooManyTrips)))
  (xi_InvalidSeats : PySem.W.findIn K (.ref C_InvalidSeats) "__init__" = some (some (.ref fX_InvalidSeats)))
  (xl_InvalidSeats : K.lookup fX_InvalidSeats = some ⟨ocX_InvalidSeats, odX_InvalidSeats, .func (PySem.W.ksFn "__init__" "InvalidSeats.__init__" (defArgs x_InvalidSeats) (defBody x_InvalidSeats) (defScope x_InvalidSeats) .none kVX_InvalidSeats dcX_InvalidSeats pmX_InvalidSeats anX_InvalidSeats (.ref cda_InvalidSeats) ctX_InvalidSeats cc_InvalidSeats), slX_InvalidSeats⟩)
  (xc_InvalidSeats : K.lookup cc_InvalidSeats = some ⟨clX_InvalidSeats, cldX_InvalidSeats, .cell (some (.ref C_InvalidSeats)), csX_InvalidSeats⟩)
  (xd_InvalidSeats : K.lookup cda_InvalidSeats = some ⟨cclX_InvalidSeats, cddX_InvalidSeats, .fields vsX_InvalidSeats, ccX_InvalidSeats⟩)
  (xv_InvalidSeats : vsX_InvalidSeats[2]? = some (.str fileX_InvalidSeats tfX_InvalidSeats))
  (xf_InvalidSeats : ((l.prog.main.file : Str) == fileX_InvalidSeats) = true)
  (xtp_InvalidSeats : (l.prog.main.scope.names.lookup ("super" : Str)).isSome = false)
  (xB_InvalidSeats : xclB K C_InvalidSeats fX_InvalidSeats "InvalidSeats.__init__" "value" "ValueError" "ValueError.__init__" "ValueError.__new__" [.type "ValueError", .type "Exception", .type "BaseException", .type "object"] cda_InvalidSeats = true)
  (xi_InvalidTrips : PySem.W.findIn K (.ref C_InvalidTrips) "__init__" = some (some (.ref fX_InvalidTrips)))
  (xl_InvalidTrips : K.lookup fX_InvalidTrips = some ⟨ocX_InvalidTrips, odX_InvalidTrips, .func (PySem.W.ksFn "__init__" "InvalidTrips.__init__" (defArgs x_InvalidTrips) (defBody x_InvalidTrips) (defScope x_InvalidTrips) .none kVX_InvalidTrips dcX_InvalidTrips pmX_InvalidTrips anX_InvalidTrips (.ref cda_InvalidTrips) ctX_InvalidTrips cc_InvalidTrips), slX_InvalidTrips⟩)
  (xc_InvalidTrips : K.lookup cc_InvalidTrips = some ⟨clX_InvalidTrips, cldX_InvalidTrips, .cell (some (.ref C_InvalidTrips)), csX_InvalidTrips⟩)
  (xd_InvalidTrips : K.lookup cda_InvalidTrips = some ⟨cclX_InvalidTrips, cddX_InvalidTrips, .fields vsX_InvalidTrips, ccX_InvalidTrips⟩)
  (xv_InvalidTrips : vsX_InvalidTrips[2]? = some (.str fileX_InvalidTrips tfX_InvalidTrips))
  (xf_InvalidTrips : ((l.prog.main.file : Str) == fileX_InvalidTrips) = true)
  (xtp_InvalidTrips : (l.prog.main.scope.names.lookup ("super" : Str)).isSome = false)
  (xB_InvalidTrips : xclB K C_InvalidTrips fX_InvalidTrips "InvalidTrips.__init__" "index" "ValueError" "ValueError.__init__" "ValueError.__new__" [.type "ValueError", .type "Exception", .type "BaseException", .type "object"] cda_InvalidTrips = true)
  (hkInvalidSeats : kindB K C_InvalidSeats [C_InvalidSeats, C_InvalidTrips, C_InvalidName, C_InvalidSeat, C_InvalidStation, C_InvalidPlan, C_InvalidFixed, C_InvalidExchange, C_InvalidNumber, C_InvalidText, C_InvalidAction, C_InvalidCommand, C_NotALine, C_Overfull, C_Full, C_NameTaken, C_NotFree, C_Busy, C_NothingToUndo, C_TooManyTrips, C_TooManyPlans, C_TooManyEntries] C_SeatError C_StateError C_SizeError 0 = true)
  (hxInvalidSeats : PySem.W.exmAny K (.ref C_InvalidSeats) [.ref C_SeatError, .ref C_StateError, .ref C_SizeError] = some true)
  (hkInvalidTrips : kindB K C_InvalidTrips [C_InvalidSeats, C_InvalidTrips, C_InvalidName, C_InvalidSeat, C_InvalidStation, C_InvalidPlan, C_InvalidFixed, C_InvalidExchange, C_InvalidNumber, C_InvalidText, C_InvalidAction, C_InvalidCommand, C_NotALine, C_Overfull, C_Full, C_NameTaken, C_NotFree, C_Busy, C_NothingToUndo, C_TooManyTrips, C_TooManyPlans, C_TooManyEntries] C_SeatError C_StateError C_SizeError 1 = true)
  (hxInvalidTrips : PySem.W.exmAny K (.ref C_InvalidTrips) [.ref C_SeatError, .ref C_StateError, .ref C_SizeError] = some true)
  (a_law_cell : PySem.W.nsIn K mainGlobals "_law_cell" = some (some (.ref f_law_cell)))
  (l_law_cell : K.lookup f_law_cell = some ⟨oc_law_cell, od_law_cell, .func (PySem.W.fnOf "_law_cell" "_law_cell" (defArgs s_law_cell) (defBody s_law_cell) (defScope s_law_cell) .none kV_law_cell dc_law_cell pm_law_cell an_law_cell cd_law_cell ct_law_cell), sl_law_cell⟩)
  (e_law_cell : PySem.W.codeIn K cd_law_cell "_law_cell" = true)
  (k_law_cell : PySem.W.keepIn K (.ref f_law_cell) = true)
  (a_law_pool : PySem.W.nsIn K mainGlobals "_law_pool" = some (some (.ref f_law_pool)))
  (l_law_pool : K.lookup f_law_pool = some ⟨oc_law_pool, od_law_pool, .func (PySem.W.fnOf "_law_pool" "_law_pool" (defArgs s_law_pool) (defBody s_law_pool) (defScope s_law_pool) .none kV_law_pool dc_law_pool pm_law_pool an_law_pool cd_law_pool ct_law_pool), sl_law_pool⟩)
  (e_law_pool : PySem.W.codeIn K cd_law_pool "_law_pool" = true)
  (k_law_pool : PySem.W.keepIn K (.ref f_law_pool) = true)
  (a_is_integer : PySem.W.nsIn K mainGlobals "is_integer" = some (some (.ref f_is_integer)))
  (l_is_integer : K.lookup f_is_integer = some ⟨oc_is_integer, od_is_integer, .func (PySem.W.fnOf "is_integer" "is_integer" (defArgs s_is_integer) (defBody s_is_integer) (defScope s_is_integer) .none kV_is_integer dc_is_integer pm_is_integer an_is_integer cd_is_integer ct_is_integer), sl_is_integer⟩)
  (e_is_integer : PySem.W.codeIn K cd_is_integer "is_integer" = true)
  (k_is_integer : PySem.W.keepIn K (.ref f_is_integer) = true)
  (a_check_seatsX : PySem.W.nsIn K mainGlobals "check_seats" = some (some (.ref f_check_seatsX)))
  (l_check_seatsX : K.lookup f_check_seatsX = some ⟨oc_check_seatsX, od_check_seatsX, .func (PySem.W.fnOf "check_seats" "check_seats" (defArgs s_check_seatsX) (defBody s_check_seatsX) (defScope s_check_seatsX) .none kV_check_seatsX dc_check_seatsX pm_check_seatsX an_check_seatsX cd_check_seatsX ct_check_seatsX), sl_check_seatsX⟩)
  (e_check_seatsX : PySem.W.codeIn K cd_check_seatsX "check_seats" = true)
  (k_check_seatsX : PySem.W.keepIn K (.ref f_check_seatsX) = true)
  (a_is_later : PySem.W.nsIn K mainGlobals "is_later" = some (some (.ref f_is_later)))
  (l_is_later : K.lookup f_is_later = some ⟨oc_is_later, od_is_later, .func (PySem.W.fnOf "is_later" "is_later" (defArgs s_is_later) (defBody s_is_later) (defScope s_is_later) .none kV_is_later dc_is_later pm_is_later an_is_later cd_is_later ct_is_later), sl_is_later⟩)
  (e_is_later : PySem.W.codeIn K cd_is_later "is_later" = true)
  (k_is_later : PySem.W.keepIn K (.ref f_is_later) = true)
  (a_is_station : PySem.W.nsIn K mainGlobals "is_station" = some (some (.ref f_is_station)))
  (l_is_station : K.lookup f_is_station = some ⟨oc_is_station, od_is_station, .func (PySem.W.fnOf "is_station" "is_station" (defArgs s_is_station) (defBody s_is_station) (defScope s_is_station) .none kV_is_station dc_is_station pm_is_station an_is_station cd_is_station ct_is_station), sl_is_station⟩)
  (e_is_station : PySem.W.codeIn K cd_is_station "is_station" = true)
  (k_is_station : PySem.W.keepIn K (.ref f_is_station) = true)
  (a_is_trip_name : PySem.W.nsIn K mainGlobals "is_trip_name" = some (some (.ref f_is_trip_name)))
  (l_is_trip_name : K.lookup f_is_trip_name = some ⟨oc_is_trip_name, od_is_trip_name, .func (PySem.W.fnOf "is_trip_name" "is_trip_name" (defArgs s_is_trip_name) (defBody s_is_trip_name) (defScope s_is_trip_name) .none kV_is_trip_name dc_is_trip_name pm_is_trip_name an_is_trip_name cd_is_trip_name ct_is_trip_name), sl_is_trip_name⟩)
  (e_is_trip_name : PySem.W.codeIn K cd_is_trip_name "is_trip_name" = true)
  (k_is_trip_name : PySem.W.keepIn K (.ref f_is_trip_name) = true)
  (a_is_tripE : PySem.W.nsIn K mainGlobals "is_trip" = some (some (.ref f_is_tripE)))
  (l_is_tripE : K.lookup f_is_tripE = some ⟨oc_is_tripE, od_is_tripE, .func (PySem.W.fnOf "is_trip" "is_trip" (defArgs s_is_tripE) (defBody s_is_tripE) (defScope s_is_tripE) .none kV_is_tripE dc_is_tripE pm_is_tripE an_is_tripE cd_is_tripE ct_is_tripE), sl_is_tripE⟩)
  (e_is_tripE : PySem.W.codeIn K cd_is_tripE "is_trip" = true)
  (k_is_tripE : PySem.W.keepIn K (.ref f_is_tripE) = true)
  (a_valid_beginningE : PySem.W.nsIn K mainGlobals "valid_beginning" = some (some (.ref f_valid_beginningE)))
  (l_valid_beginningE : K.lookup f_valid_beginningE = some ⟨oc_valid_beginningE, od_valid_beginningE, .func (PySem.W.fnOf "valid_beginning" "valid_beginning" (defArgs s_valid_beginningE) (defBody s_valid_beginningE) (defScope s_valid_beginningE) .none kV_valid_beginningE dc_valid_beginningE pm_valid_beginningE an_valid_beginningE cd_valid_beginningE ct_valid_beginningE), sl_valid_beginningE⟩)
  (e_valid_beginningE : PySem.W.codeIn K cd_valid_beginningE "valid_beginning" = true)
  (k_valid_beginningE : PySem.W.keepIn K (.ref f_valid_beginningE) = true)
  (l_Line_capacity : K.lookup f_Line_capacity = some ⟨oc_Line_capacity, od_Line_capacity, .func (PySem.W.fnOf "capacity" "Line.capacity" (defArgs s_Line_capacity) (defBody s_Line_capacity) (defScope s_Line_capacity) .none kV_Line_capacity dc_Line_capacity pm_Line_capacity an_Line_capacity cd_Line_capacity ct_Line_capacity), sl_Line_capacity⟩)
  (e_Line_capacity : PySem.W.codeIn K cd_Line_capacity "Line.capacity" = true)
  (k_Line_capacity : PySem.W.keepIn K (.ref f_Line_capacity) = true)
  (l_Line_trips : K.lookup f_Line_trips = some ⟨oc_Line_trips, od_Line_trips, .func (PySem.W.fnOf "trips" "Line.trips" (defArgs s_Line_trips) (defBody s_Line_trips) (defScope s_Line_trips) .none kV_Line_trips dc_Line_trips pm_Line_trips an_Line_trips cd_Line_trips ct_Line_trips), sl_Line_trips⟩)
  (e_Line_trips : PySem.W.codeIn K cd_Line_trips "Line.trips" = true)
  (k_Line_trips : PySem.W.keepIn K (.ref f_Line_trips) = true)
  (l_Line_len : K.lookup f_Line_len = some ⟨oc_Line_len, od_Line_len, .func (PySem.W.fnOf "__len__" "Line.__len__" (defArgs s_Line_len) (defBody s_Line_len) (defScope s_Line_len) .none kV_Line_len dc_Line_len pm_Line_len an_Line_len cd_Line_len ct_Line_len), sl_Line_len⟩)
  (e_Line_len : PySem.W.codeIn K cd_Line_len "Line.__len__" = true)
  (k_Line_len : PySem.W.keepIn K (.ref f_Line_len) = true)
  (l_Line_eq : K.lookup f_Line_eq = some ⟨oc_Line_eq, od_Line_eq, .func (PySem.W.fnOf "__eq__" "Line.__eq__" (defArgs s_Line_eq) (defBody s_Line_eq) (defScope s_Line_eq) .none kV_Line_eq dc_Line_eq pm_Line_eq an_Line_eq cd_Line_eq ct_Line_eq), sl_Line_eq⟩)
  (e_Line_eq : PySem.W.codeIn K cd_Line_eq "Line.__eq__" = true)
  (k_Line_eq : PySem.W.keepIn K (.ref f_Line_eq) = true)
  (l_Line_str : K.lookup f_Line_str = some ⟨oc_Line_str, od_Line_str, .func (PySem.W.fnOf "__str__" "Line.__str__" (defArgs s_Line_str) (defBody s_Line_str) (defScope s_Line_str) .none kV_Line_str dc_Line_str pm_Line_str an_Line_str cd_Line_str ct_Line_str), sl_Line_str⟩)
  (e_Line_str : PySem.W.codeIn K cd_Line_str "Line.__str__" = true)
  (k_Line_str : PySem.W.keepIn K (.ref f_Line_str) = true)
  (l_Line_initX : K.lookup f_Line_initX = some ⟨oc_Line_initX, od_Line_initX, .func (PySem.W.fnOf "__init__" "Line.__init__" (defArgs s_Line_initX) (defBody s_Line_initX) (defScope s_Line_initX) (.ref TD) kV_Line_initX dc_Line_initX pm_Line_initX an_Line_initX (.ref cL) ct_Line_initX), sl_Line_initX⟩)
  (e_Line_initX : PySem.W.codeIn K (.ref cL) "Line.__init__" = true)
  (k_Line_initX : PySem.W.keepIn K (.ref f_Line_initX) = true)
  (w1 : K.lookup TD = some ⟨.type "tuple", oTD, .seq #[.ref eL] nTD, slT⟩)
  (w2 : K.lookup eL = some ⟨.type "tuple", oEL, .seq #[] nEL, slE⟩)
  (w3 : K.lookup cL = some ⟨.type "code", oCL, .fields cvs, slC⟩)
  (w4 : (cvs[11]? : Option Value) = some (.ref tL))
  (w5 : PySem.W.codeHdIn K cL tL = true)
  (w6 : K.lookup tL = none)
  (a_load_of : PySem.W.nsIn K mainGlobals "load_of" = some (some (.ref f_load_of)))
  (l_load_of : K.lookup f_load_of = some ⟨oc_load_of, od_load_of, .func (PySem.W.fnOf "load_of" "load_of" (defArgs s_load_of) (defBody s_load_of) (defScope s_load_of) .none kV_load_of dc_load_of pm_load_of an_load_of cd_load_of ct_load_of), sl_load_of⟩)
  (e_load_of : PySem.W.codeIn K cd_load_of "load_of" = true)
  (k_load_of : PySem.W.keepIn K (.ref f_load_of) = true)
  (l_Line_order : K.lookup f_Line_order = some ⟨oc_Line_order, od_Line_order, .func (PySem.W.fnOf "order" "Line.order" (defArgs s_Line_order) (defBody s_Line_order) (defScope s_Line_order) .none kV_Line_order dc_Line_order pm_Line_order an_Line_order cd_Line_order ct_Line_order), sl_Line_order⟩)
  (e_Line_order : PySem.W.codeIn K cd_Line_order "Line.order" = true)
  (k_Line_order : PySem.W.keepIn K (.ref f_Line_order) = true)
  (l_Line_peak : K.lookup f_Line_peak = some ⟨oc_Line_peak, od_Line_peak, .func (PySem.W.fnOf "peak" "Line.peak" (defArgs s_Line_peak) (defBody s_Line_peak) (defScope s_Line_peak) .none kV_Line_peak dc_Line_peak pm_Line_peak an_Line_peak cd_Line_peak ct_Line_peak), sl_Line_peak⟩)
  (e_Line_peak : PySem.W.codeIn K cd_Line_peak "Line.peak" = true)
  (k_Line_peak : PySem.W.keepIn K (.ref f_Line_peak) = true)
  (l_Line_made : K.lookup f_Line_made = some ⟨oc_Line_made, od_Line_made, .func (PySem.W.fnOf "made" "Line.made" (defArgs s_Line_made) (defBody s_Line_made) (defScope s_Line_made) .none kV_Line_made dc_Line_made pm_Line_made an_Line_made (.ref cT) ct_Line_made), sl_Line_made⟩)
  (e_Line_made : PySem.W.codeIn K (.ref cT) "Line.made" = true)
  (k_Line_made : PySem.W.keepIn K (.ref f_Line_made) = true)
  (z3 : K.lookup cT = some ⟨.type "code", oCT, .fields cvT, slCT⟩)
  (z4 : (cvT[11]? : Option Value) = some (.ref tT))
  (z5 : PySem.W.codeHdIn K cT tT = true)
  (z6 : K.lookup tT = none)
  (a_law_draw : PySem.W.nsIn K mainGlobals "_law_draw" = some (some (.ref f_law_draw)))
  (l_law_draw : K.lookup f_law_draw = some ⟨oc_law_draw, od_law_draw, .func (PySem.W.fnOf "_law_draw" "_law_draw" (defArgs s_law_draw) (defBody s_law_draw) (defScope s_law_draw) .none kV_law_draw dc_law_draw pm_law_draw an_law_draw cd_law_draw ct_law_draw), sl_law_draw⟩)
  (e_law_draw : PySem.W.codeIn K cd_law_draw "_law_draw" = true)
  (k_law_draw : PySem.W.keepIn K (.ref f_law_draw) = true)
  (a_law_far : PySem.W.nsIn K mainGlobals "_law_far" = some (some (.ref f_law_far)))
  (l_law_far : K.lookup f_law_far = some ⟨oc_law_far, od_law_far, .func (PySem.W.fnOf "_law_far" "_law_far" (defArgs s_law_far) (defBody s_law_far) (defScope s_law_far) .none kV_law_far dc_law_far pm_law_far an_law_far cd_law_far ct_law_far), sl_law_far⟩)
  (e_law_far : PySem.W.codeIn K cd_law_far "_law_far" = true)
  (k_law_far : PySem.W.keepIn K (.ref f_law_far) = true)
  (a_law_rides : PySem.W.nsIn K mainGlobals "_law_rides" = some (some (.ref f_law_rides)))
  (l_law_rides : K.lookup f_law_rides = some ⟨oc_law_rides, od_law_rides, .func (PySem.W.fnOf "_law_rides" "_law_rides" (defArgs s_law_rides) (defBody s_law_rides) (defScope s_law_rides) .none kV_law_rides dc_law_rides pm_law_rides an_law_rides cd_law_rides ct_law_rides), sl_law_rides⟩)
  (e_law_rides : PySem.W.codeIn K cd_law_rides "_law_rides" = true)
  (k_law_rides : PySem.W.keepIn K (.ref f_law_rides) = true)
  (a_law_trip : PySem.W.nsIn K mainGlobals "_law_trip" = some (some (.ref f_law_trip)))
  (l_law_trip : K.lookup f_law_trip = some ⟨oc_law_trip, od_law_trip, .func (PySem.W.fnOf "_law_trip" "_law_trip" (defArgs s_law_trip) (defBody s_law_trip) (defScope s_law_trip) .none kV_law_trip dc_law_trip pm_law_trip an_law_trip cd_law_trip ct_law_trip), sl_law_trip⟩)
  (e_law_trip : PySem.W.codeIn K cd_law_trip "_law_trip" = true)
  (k_law_trip : PySem.W.keepIn K (.ref f_law_trip) = true)
  (a_law_due : PySem.W.nsIn K mainGlobals "_law_due" = some (some (.ref f_law_due)))
  (l_law_due : K.lookup f_law_due = some ⟨oc_law_due, od_law_due, .func (PySem.W.fnOf "_law_due" "_law_due" (defArgs s_law_due) (defBody s_law_due) (defScope s_law_due) .none kV_law_due dc_law_due pm_law_due an_law_due cd_law_due ct_law_due), sl_law_due⟩)
  (e_law_due : PySem.W.codeIn K cd_law_due "_law_due" = true)
  (k_law_due : PySem.W.keepIn K (.ref f_law_due) = true)
  (a_law_same : PySem.W.nsIn K mainGlobals "_law_same" = some (some (.ref f_law_same)))
  (l_law_same : K.lookup f_law_same = some ⟨oc_law_same, od_law_same, .func (PySem.W.fnOf "_law_same" "_law_same" (defArgs s_law_same) (defBody s_law_same) (defScope s_law_same) .none kV_law_same dc_law_same pm_law_same an_law_same cd_law_same ct_law_same), sl_law_same⟩)
  (e_law_same : PySem.W.codeIn K cd_law_same "_law_same" = true)
  (k_law_same : PySem.W.keepIn K (.ref f_law_same) = true)
  (a_law_some : PySem.W.nsIn K mainGlobals "_law_some" = some (some (.ref f_law_some)))
  (l_law_some : K.lookup f_law_some = some ⟨oc_law_some, od_law_some, .func (PySem.W.fnOf "_law_some" "_law_some" (defArgs s_law_some) (defBody s_law_some) (defScope s_law_some) .none kV_law_some dc_law_some pm_law_some an_law_some cd_law_some ct_law_some), sl_law_some⟩)
  (e_law_some : PySem.W.codeIn K cd_law_some "_law_some" = true)
  (k_law_some : PySem.W.keepIn K (.ref f_law_some) = true)
  (a_law_other_fields : PySem.W.nsIn K mainGlobals "_law_other_fields" = some (some (.ref f_law_other_fields)))
  (l_law_other_fields : K.lookup f_law_other_fields = some ⟨oc_law_other_fields, od_law_other_fields, .func (PySem.W.fnOf "_law_other_fields" "_law_other_fields" (defArgs s_law_other_fields) (defBody s_law_other_fields) (defScope s_law_other_fields) .none kV_law_other_fields dc_law_other_fields pm_law_other_fields an_law_other_fields cd_law_other_fields ct_law_other_fields), sl_law_other_fields⟩)
  (e_law_other_fields : PySem.W.codeIn K cd_law_other_fields "_law_other_fields" = true)
  (k_law_other_fields : PySem.W.keepIn K (.ref f_law_other_fields) = true)
  (a_law_fields : PySem.W.nsIn K mainGlobals "_law_fields" = some (some (.ref f_law_fields)))
  (l_law_fields : K.lookup f_law_fields = some ⟨oc_law_fields, od_law_fields, .func (PySem.W.fnOf "_law_fields" "_law_fields" (defArgs s_law_fields) (defBody s_law_fields) (defScope s_law_fields) .none kV_law_fields dc_law_fields pm_law_fields an_law_fields cd_law_fields ct_law_fields), sl_law_fields⟩)
  (e_law_fields : PySem.W.codeIn K cd_law_fields "_law_fields" = true)
  (k_law_fields : PySem.W.keepIn K (.ref f_law_fields) = true)
  (a_law_kind : PySem.W.nsIn K mainGlobals "_law_kind" = some (some (.ref f_law_kind)))
  (l_law_kind : K.lookup f_law_kind = some ⟨oc_law_kind, od_law_kind, .func (PySem.W.fnOf "_law_kind" "_law_kind" (defArgs s_law_kind) (defBody s_law_kind) (defScope s_law_kind) .none kV_law_kind dc_law_kind pm_law_kind an_law_kind cd_law_kind ct_law_kind), sl_law_kind⟩)
  (e_law_kind : PySem.W.codeIn K cd_law_kind "_law_kind" = true)
  (k_law_kind : PySem.W.keepIn K (.ref f_law_kind) = true)
  (a_law_caught : PySem.W.nsIn K mainGlobals "_law_caught" = some (some (.ref f_law_caught)))
  (l_law_caught : K.lookup f_law_caught = some ⟨oc_law_caught, od_law_caught, .func (PySem.W.fnOf "_law_caught" "_law_caught" (defArgs s_law_caught) (defBody s_law_caught) (defScope s_law_caught) .none kV_law_caught dc_law_caught pm_law_caught an_law_caught cd_law_caught ct_law_caught), sl_law_caught⟩)
  (e_law_caught : PySem.W.codeIn K cd_law_caught "_law_caught" = true)
  (k_law_caught : PySem.W.keepIn K (.ref f_law_caught) = true)
  (a_law_words : PySem.W.nsIn K mainGlobals "_law_words" = some (some (.ref f_law_words)))
  (l_law_words : K.lookup f_law_words = some ⟨oc_law_words, od_law_words, .func (PySem.W.fnOf "_law_words" "_law_words" (defArgs s_law_words) (defBody s_law_words) (defScope s_law_words) .none kV_law_words dc_law_words pm_law_words an_law_words cd_law_words ct_law_words), sl_law_words⟩)
  (e_law_words : PySem.W.codeIn K cd_law_words "_law_words" = true)
  (k_law_words : PySem.W.keepIn K (.ref f_law_words) = true)
  (a_law_right05 : PySem.W.nsIn K mainGlobals "_law_right" = some (some (.ref f_law_right05)))
  (l_law_right05 : K.lookup f_law_right05 = some ⟨oc_law_right05, od_law_right05, .func (PySem.W.fnOf "_law_right" "_law_right" (defArgs s_law_right05) (defBody s_law_right05) (defScope s_law_right05) .none kV_law_right05 dc_law_right05 pm_law_right05 an_law_right05 (.ref cT3) ct_law_right05), sl_law_right05⟩)
  (e_law_right05 : PySem.W.codeIn K (.ref cT3) "_law_right" = true)
  (k_law_right05 : PySem.W.keepIn K (.ref f_law_right05) = true)
  (z33 : K.lookup cT3 = some ⟨.type "code", oCT3, .fields cvT3, slCT3⟩)
  (z43 : (cvT3[11]? : Option Value) = some (.ref tT3))
  (z53 : PySem.W.codeHdIn K cT3 tT3 = true)
  (z63 : K.lookup tT3 = none)
  (a_law05 : PySem.W.nsIn K mainGlobals "law" = some (some (.ref f_law05)))
  (l_law05 : K.lookup f_law05 = some ⟨oc_law05, od_law05, .func (PySem.W.fnOf "law" "law" (defArgs s_law05) (defBody s_law05) (defScope s_law05) .none kV_law05 dc_law05 pm_law05 an_law05 cd_law05 ct_law05), sl_law05⟩)
  (e_law05 : PySem.W.codeIn K cd_law05 "law" = true)
  (k_law05 : PySem.W.keepIn K (.ref f_law05) = true)
  (b_ArithmeticError : PySem.W.nsIn K mainGlobals "ArithmeticError" = some none)
  (v_LETTERS : PySem.W.nsIn K mainGlobals "LETTERS" = some (some (.str ("abcdefghijklmnopqrstuvwxyz" : Str) tv_LETTERS)))
  (v_LONGEST_NAME : PySem.W.nsIn K mainGlobals "LONGEST_NAME" = some (some (.int 8 tv_LONGEST_NAME)))
  (b_LookupError : PySem.W.nsIn K mainGlobals "LookupError" = some none)
  (v_MAX_SEATS : PySem.W.nsIn K mainGlobals "MAX_SEATS" = some (some (.int 20 tv_MAX_SEATS)))
  (v_MAX_TRIPS : PySem.W.nsIn K mainGlobals "MAX_TRIPS" = some (some (.int 24 tv_MAX_TRIPS)))
  (b_ValueError : PySem.W.nsIn K mainGlobals "ValueError" = some none)
  (b_abs : PySem.W.nsIn K mainGlobals "abs" = some none)
  (b_all : PySem.W.nsIn K mainGlobals "all" = some none)
  (b_bool : PySem.W.nsIn K mainGlobals "bool" = some none)
  (b_divmod : PySem.W.nsIn K mainGlobals "divmod" = some none)
  (b_enumerate : PySem.W.nsIn K mainGlobals "enumerate" = some none)
  (b_int : PySem.W.nsIn K mainGlobals "int" = some none)
  (b_isinstance : PySem.W.nsIn K mainGlobals "isinstance" = some none)
  (b_len : PySem.W.nsIn K mainGlobals "len" = some none)
  (b_max : PySem.W.nsIn K mainGlobals "max" = some none)
  (b_min : PySem.W.nsIn K mainGlobals "min" = some none)
  (b_range : PySem.W.nsIn K mainGlobals "range" = some none)
  (b_repr : PySem.W.nsIn K mainGlobals "repr" = some none)
  (b_sorted : PySem.W.nsIn K mainGlobals "sorted" = some none)
  (b_str : PySem.W.nsIn K mainGlobals "str" = some none)
  (b_super : PySem.W.nsIn K mainGlobals "super" = some none)
  (b_tuple : PySem.W.nsIn K mainGlobals "tuple" = some none)
  (htT : h.get? tT = some (PySem.W.tabObj #[]))
  (htT3 : h.get? tT3 = some (PySem.W.tabObj #[]))
  (tq01 : (tL == tT) = false)
  (tq02 : (tL == tT3) = false)
  (tq12 : (tT == tT3) = false)
  (nl : NoList K = true)
  (ht : h.get? tL = some (PySem.W.tabObj #[]))
  : LawG l w K 13 63 "_law_script" mg fa h := by
 have e := hfa.symm.trans (PySem.W.mg_of X G a_law05)
 obtain rfl : fa = f_law05 := Value.ref.inj (Option.some.inj e)
 let a : Ad := {
  CLine := CLine,
  cL := cL,
  tL := tL,
  eL := eL,
  qT := qT,
  qC := qC,
  pS := CLine,
  mL := mL,
  cT := cT,
  tT := tT,
  cT3 := cT3,
  tT3 := tT3,
  qc_made := qc_made,
  q_order := q_order,
  q_peak := q_peak,
  XC := fun x => ([(("Busy" : Str), C_Busy), (("Full" : Str), C_Full), (("InvalidAction" : Str), C_InvalidAction), (("InvalidCommand" : Str), C_InvalidCommand), (("InvalidExchange" : Str), C_InvalidExchange), (("InvalidFixed" : Str), C_InvalidFixed), (("InvalidName" : Str), C_InvalidName), (("InvalidNumber" : Str), C_InvalidNumber), (("InvalidPlan" : Str), C_InvalidPlan), (("InvalidSeat" : Str), C_InvalidSeat), (("InvalidSeats" : Str), C_InvalidSeats), (("InvalidStation" : Str), C_InvalidStation), (("InvalidText" : Str), C_InvalidText), (("InvalidTrips" : Str), C_InvalidTrips), (("NameTaken" : Str), C_NameTaken), (("NotALine" : Str), C_NotALine), (("NotFree" : Str), C_NotFree), (("NothingToUndo" : Str), C_NothingToUndo), (("Overfull" : Str), C_Overfull), (("SeatError" : Str), C_SeatError), (("SizeError" : Str), C_SizeError), (("StateError" : Str), C_StateError), (("TooManyEntries" : Str), C_TooManyEntries), (("TooManyPlans" : Str), C_TooManyPlans), (("TooManyTrips" : Str), C_TooManyTrips)].lookup x).getD CLine,
  f_law_cell := f_law_cell,
  d_law_cell := PySem.W.fnOf "_law_cell" "_law_cell" (defArgs s_law_cell) (defBody s_law_cell) (defScope s_law_cell) .none kV_law_cell dc_law_cell pm_law_cell an_law_cell cd_law_cell ct_law_cell,
  f_law_pool := f_law_pool,
  d_law_pool := PySem.W.fnOf "_law_pool" "_law_pool" (defArgs s_law_pool) (defBody s_law_pool) (defScope s_law_pool) .none kV_law_pool dc_law_pool pm_law_pool an_law_pool cd_law_pool ct_law_pool,
  f_is_integer := f_is_integer,
  d_is_integer := PySem.W.fnOf "is_integer" "is_integer" (defArgs s_is_integer) (defBody s_is_integer) (defScope s_is_integer) .none kV_is_integer dc_is_integer pm_is_integer an_is_integer cd_is_integer ct_is_integer,
  f_check_seatsX := f_check_seatsX,
  d_check_seatsX := PySem.W.fnOf "check_seats" "check_seats" (defArgs s_check_seatsX) (defBody s_check_seatsX) (defScope s_check_seatsX) .none kV_check_seatsX dc_check_seatsX pm_check_seatsX an_check_seatsX cd_check_seatsX ct_check_seatsX,
  f_is_later := f_is_later,
  d_is_later := PySem.W.fnOf "is_later" "is_later" (defArgs s_is_later) (defBody s_is_later) (defScope s_is_later) .none kV_is_later dc_is_later pm_is_later an_is_later cd_is_later ct_is_later,
  f_is_station := f_is_station,
  d_is_station := PySem.W.fnOf "is_station" "is_station" (defArgs s_is_station) (defBody s_is_station) (defScope s_is_station) .none kV_is_station dc_is_station pm_is_station an_is_station cd_is_station ct_is_station,
  f_is_trip_name := f_is_trip_name,
  d_is_trip_name := PySem.W.fnOf "is_trip_name" "is_trip_name" (defArgs s_is_trip_name) (defBody s_is_trip_name) (defScope s_is_trip_name) .none kV_is_trip_name dc_is_trip_name pm_is_trip_name an_is_trip_name cd_is_trip_name ct_is_trip_name,
  f_is_tripE := f_is_tripE,
  d_is_tripE := PySem.W.fnOf "is_trip" "is_trip" (defArgs s_is_tripE) (defBody s_is_tripE) (defScope s_is_tripE) .none kV_is_tripE dc_is_tripE pm_is_tripE an_is_tripE cd_is_tripE ct_is_tripE,
  f_valid_beginningE := f_valid_beginningE,
  d_valid_beginningE := PySem.W.fnOf "valid_beginning" "valid_beginning" (defArgs s_valid_beginningE) (defBody s_valid_beginningE) (defScope s_valid_beginningE) .none kV_valid_beginningE dc_valid_beginningE pm_valid_beginningE an_valid_beginningE cd_valid_beginningE ct_valid_beginningE,
  f_Line_capacity := f_Line_capacity,
  d_Line_capacity := PySem.W.fnOf "capacity" "Line.capacity" (defArgs s_Line_capacity) (defBody s_Line_capacity) (defScope s_Line_capacity) .none kV_Line_capacity dc_Line_capacity pm_Line_capacity an_Line_capacity cd_Line_capacity ct_Line_capacity,
  f_Line_trips := f_Line_trips,
  d_Line_trips := PySem.W.fnOf "trips" "Line.trips" (defArgs s_Line_trips) (defBody s_Line_trips) (defScope s_Line_trips) .none kV_Line_trips dc_Line_trips pm_Line_trips an_Line_trips cd_Line_trips ct_Line_trips,
  f_Line_len := f_Line_len,
  d_Line_len := PySem.W.fnOf "__len__" "Line.__len__" (defArgs s_Line_len) (defBody s_Line_len) (defScope s_Line_len) .none kV_Line_len dc_Line_len pm_Line_len an_Line_len cd_Line_len ct_Line_len,
  f_Line_eq := f_Line_eq,
  d_Line_eq := PySem.W.fnOf "__eq__" "Line.__eq__" (defArgs s_Line_eq) (defBody s_Line_eq) (defScope s_Line_eq) .none kV_Line_eq dc_Line_eq pm_Line_eq an_Line_eq cd_Line_eq ct_Line_eq,
  f_Line_str := f_Line_str,
  d_Line_str := PySem.W.fnOf "__str__" "Line.__str__" (defArgs s_Line_str) (defBody s_Line_str) (defScope s_Line_str) .none kV_Line_str dc_Line_str pm_Line_str an_Line_str cd_Line_str ct_Line_str,
  f_Line_initX := f_Line_initX,
  d_Line_initX := PySem.W.fnOf "__init__" "Line.__init__" (defArgs s_Line_initX) (defBody s_Line_initX) (defScope s_Line_initX) (.ref TD) kV_Line_initX dc_Line_initX pm_Line_initX an_Line_initX (.ref cL) ct_Line_initX,
  f_load_of := f_load_of,
  d_load_of := PySem.W.fnOf "load_of" "load_of" (defArgs s_load_of) (defBody s_load_of) (defScope s_load_of) .none kV_load_of dc_load_of pm_load_of an_load_of cd_load_of ct_load_of,
  f_Line_order := f_Line_order,
  d_Line_order := PySem.W.fnOf "order" "Line.order" (defArgs s_Line_order) (defBody s_Line_order) (defScope s_Line_order) .none kV_Line_order dc_Line_order pm_Line_order an_Line_order cd_Line_order ct_Line_order,
  f_Line_peak := f_Line_peak,
  d_Line_peak := PySem.W.fnOf "peak" "Line.peak" (defArgs s_Line_peak) (defBody s_Line_peak) (defScope s_Line_peak) .none kV_Line_peak dc_Line_peak pm_Line_peak an_Line_peak cd_Line_peak ct_Line_peak,
  f_Line_made := f_Line_made,
  d_Line_made := PySem.W.fnOf "made" "Line.made" (defArgs s_Line_made) (defBody s_Line_made) (defScope s_Line_made) .none kV_Line_made dc_Line_made pm_Line_made an_Line_made (.ref cT) ct_Line_made,
  f_law_draw := f_law_draw,
  d_law_draw := PySem.W.fnOf "_law_draw" "_law_draw" (defArgs s_law_draw) (defBody s_law_draw) (defScope s_law_draw) .none kV_law_draw dc_law_draw pm_law_draw an_law_draw cd_law_draw ct_law_draw,
  f_law_far := f_law_far,
  d_law_far := PySem.W.fnOf "_law_far" "_law_far" (defArgs s_law_far) (defBody s_law_far) (defScope s_law_far) .none kV_law_far dc_law_far pm_law_far an_law_far cd_law_far ct_law_far,
  f_law_rides := f_law_rides,
  d_law_rides := PySem.W.fnOf "_law_rides" "_law_rides" (defArgs s_law_rides) (defBody s_law_rides) (defScope s_law_rides) .none kV_law_rides dc_law_rides pm_law_rides an_law_rides cd_law_rides ct_law_rides,
  f_law_trip := f_law_trip,
  d_law_trip := PySem.W.fnOf "_law_trip" "_law_trip" (defArgs s_law_trip) (defBody s_law_trip) (defScope s_law_trip) .none kV_law_trip dc_law_trip pm_law_trip an_law_trip cd_law_trip ct_law_trip,
  f_law_due := f_law_due,
  d_law_due := PySem.W.fnOf "_law_due" "_law_due" (defArgs s_law_due) (defBody s_law_due) (defScope s_law_due) .none kV_law_due dc_law_due pm_law_due an_law_due cd_law_due ct_law_due,
  f_law_same := f_law_same,
  d_law_same := PySem.W.fnOf "_law_same" "_law_same" (defArgs s_law_same) (defBody s_law_same) (defScope s_law_same) .none kV_law_same dc_law_same pm_law_same an_law_same cd_law_same ct_law_same,
  f_law_some := f_law_some,
  d_law_some := PySem.W.fnOf "_law_some" "_law_some" (defArgs s_law_some) (defBody s_law_some) (defScope s_law_some) .none kV_law_some dc_law_some pm_law_some an_law_some cd_law_some ct_law_some,
  f_law_other_fields := f_law_other_fields,
  d_law_other_fields := PySem.W.fnOf "_law_other_fields" "_law_other_fields" (defArgs s_law_other_fields) (defBody s_law_other_fields) (defScope s_law_other_fields) .none kV_law_other_fields dc_law_other_fields pm_law_other_fields an_law_other_fields cd_law_other_fields ct_law_other_fields,
  f_law_fields := f_law_fields,
  d_law_fields := PySem.W.fnOf "_law_fields" "_law_fields" (defArgs s_law_fields) (defBody s_law_fields) (defScope s_law_fields) .none kV_law_fields dc_law_fields pm_law_fields an_law_fields cd_law_fields ct_law_fields,
  f_law_kind := f_law_kind,
  d_law_kind := PySem.W.fnOf "_law_kind" "_law_kind" (defArgs s_law_kind) (defBody s_law_kind) (defScope s_law_kind) .none kV_law_kind dc_law_kind pm_law_kind an_law_kind cd_law_kind ct_law_kind,
  f_law_caught := f_law_caught,
  d_law_caught := PySem.W.fnOf "_law_caught" "_law_caught" (defArgs s_law_caught) (defBody s_law_caught) (defScope s_law_caught) .none kV_law_caught dc_law_caught pm_law_caught an_law_caught cd_law_caught ct_law_caught,
  f_law_words := f_law_words,
  d_law_words := PySem.W.fnOf "_law_words" "_law_words" (defArgs s_law_words) (defBody s_law_words) (defScope s_law_words) .none kV_law_words dc_law_words pm_law_words an_law_words cd_law_words ct_law_words,
  f_law_right05 := f_law_right05,
  d_law_right05 := PySem.W.fnOf "_law_right" "_law_right" (defArgs s_law_right05) (defBody s_law_right05) (defScope s_law_right05) .none kV_law_right05 dc_law_right05 pm_law_right05 an_law_right05 (.ref cT3) ct_law_right05,
  f_law05 := fa,
  d_law05 := PySem.W.fnOf "law" "law" (defArgs s_law05) (defBody s_law05) (defScope s_law05) .none kV_law05 dc_law05 pm_law05 an_law05 cd_law05 ct_law05 }
 have t : Tx l.prog w K mg a := {
  cl := ⟨c1, c2, c3, c4⟩,
  clt := ⟨⟨c1, c2, c3, c4⟩, t1, t2, t3, t4, t5, (fun n hn => by rcases List.mem_cons.mp hn with rfl | hn; exact ty0; rcases List.mem_cons.mp hn with rfl | hn; exact ty1; rcases List.mem_cons.mp hn with rfl | hn; exact ty2; rcases List.mem_cons.mp hn with rfl | hn; exact ty3; rcases List.mem_cons.mp hn with rfl | hn; exact ty4; rcases List.mem_cons.mp hn with rfl | hn; exact ty5; cases hn), (fun n hn => by rcases List.mem_cons.mp hn with rfl | hn; exact no0; rcases List.mem_cons.mp hn with rfl | hn; exact no1; rcases List.mem_cons.mp hn with rfl | hn; exact no2; rcases List.mem_cons.mp hn with rfl | hn; exact no3; rcases List.mem_cons.mp hn with rfl | hn; exact no4; rcases List.mem_cons.mp hn with rfl | hn; exact no5; rcases List.mem_cons.mp hn with rfl | hn; exact no6; cases hn)⟩,
  g_Line := PySem.W.mg_of X G hC,
  mkL := ⟨m1, m2, m3, m4⟩,
  p_capacity := ⟨u1, u2, u3, ⟨_, u4⟩⟩,
  p_order := ⟨u1_order, u2_order, u3_order, ⟨_, u4_order⟩⟩,
  p_peak := ⟨u1_peak, u2_peak, u3_peak, ⟨_, u4_peak⟩⟩,
  ow := { t := ⟨⟨c1, c2, c3, c4⟩, t1, t2, t3, t4, t5, (fun n hn => by rcases List.mem_cons.mp hn with rfl | hn; exact ty0; rcases List.mem_cons.mp hn with rfl | hn; exact ty1; rcases List.mem_cons.mp hn with rfl | hn; exact ty2; rcases List.mem_cons.mp hn with rfl | hn; exact ty3; rcases List.mem_cons.mp hn with rfl | hn; exact ty4; rcases List.mem_cons.mp hn with rfl | hn; exact ty5; cases hn), (fun n hn => by rcases List.mem_cons.mp hn with rfl | hn; exact no0; rcases List.mem_cons.mp hn with rfl | hn; exact no1; rcases List.mem_cons.mp hn with rfl | hn; exact no2; rcases List.mem_cons.mp hn with rfl | hn; exact no3; rcases List.mem_cons.mp hn with rfl | hn; exact no4; rcases List.mem_cons.mp hn with rfl | hn; exact no5; rcases List.mem_cons.mp hn with rfl | hn; exact no6; cases hn)⟩, eq := x1, eqf := x1f, ne := x4, len := x2, lenf := x2f, bool := x5, str := x3, strf := x3f, nf := (fun n hn => by rcases List.mem_cons.mp hn with rfl | hn; exact nf0; rcases List.mem_cons.mp hn with rfl | hn; exact nf1; rcases List.mem_cons.mp hn with rfl | hn; exact nf2; rcases List.mem_cons.mp hn with rfl | hn; exact nf3; rcases List.mem_cons.mp hn with rfl | hn; exact nf4; rcases List.mem_cons.mp hn with rfl | hn; exact nf5; rcases List.mem_cons.mp hn with rfl | hn; exact nf6; cases hn) },
  cr := ⟨r1, r2⟩,
  cm_made := ⟨d1_made, ⟨_, d2_made⟩, d3_made⟩,
  ci_made := ⟨c1, d4_made, d5_made, d6_made, d7_made, d8_made, by decide +kernel, ⟨_, d2_made⟩, d3_made⟩,
  p_trips := ⟨q1, q2, q3, ⟨_, q4⟩⟩,
  n_seat_count := n_seat_count,
  n_rows := n_rows,
  n_queue := n_queue,
  g_Busy := PySem.W.mg_of X G xg_Busy,
  g_Full := PySem.W.mg_of X G xg_Full,
  g_InvalidAction := PySem.W.mg_of X G xg_InvalidAction,
  g_InvalidCommand := PySem.W.mg_of X G xg_InvalidCommand,
  g_InvalidExchange := PySem.W.mg_of X G xg_InvalidExchange,
  g_InvalidFixed := PySem.W.mg_of X G xg_InvalidFixed,
  g_InvalidName := PySem.W.mg_of X G xg_InvalidName,
  g_InvalidNumber := PySem.W.mg_of X G xg_InvalidNumber,
  g_InvalidPlan := PySem.W.mg_of X G xg_InvalidPlan,
  g_InvalidSeat := PySem.W.mg_of X G xg_InvalidSeat,
  g_InvalidSeats := PySem.W.mg_of X G xg_InvalidSeats,
  g_InvalidStation := PySem.W.mg_of X G xg_InvalidStation,
  g_InvalidText := PySem.W.mg_of X G xg_InvalidText,
  g_InvalidTrips := PySem.W.mg_of X G xg_InvalidTrips,
  g_NameTaken := PySem.W.mg_of X G xg_NameTaken,
  g_NotALine := PySem.W.mg_of X G xg_NotALine,
  g_NotFree := PySem.W.mg_of X G xg_NotFree,
  g_NothingToUndo := PySem.W.mg_of X G xg_NothingToUndo,
  g_Overfull := PySem.W.mg_of X G xg_Overfull,
  g_SeatError := PySem.W.mg_of X G xg_SeatError,
  g_SizeError := PySem.W.mg_of X G xg_SizeError,
  g_StateError := PySem.W.mg_of X G xg_StateError,
  g_TooManyEntries := PySem.W.mg_of X G xg_TooManyEntries,
  g_TooManyPlans := PySem.W.mg_of X G xg_TooManyPlans,
  g_TooManyTrips := PySem.W.mg_of X G xg_TooManyTrips,
  xa_InvalidSeats := xAll_of baseV xt_InvalidSeats (PySem.W.mg_of X G xg_InvalidSeats) xi_InvalidSeats xl_InvalidSeats xc_InvalidSeats xd_InvalidSeats xv_InvalidSeats xf_InvalidSeats xtp_InvalidSeats xB_InvalidSeats,
  xa_InvalidTrips := xAll_of baseV xt_InvalidTrips (PySem.W.mg_of X G xg_InvalidTrips) xi_InvalidTrips xl_InvalidTrips xc_InvalidTrips xd_InvalidTrips xv_InvalidTrips xf_InvalidTrips xtp_InvalidTrips xB_InvalidTrips,
  F_law_cell := fun_mk l_law_cell e_law_cell k_law_cell,
  g__law_cell := PySem.W.mg_of X G a_law_cell,
  k__law_cell := k_law_cell,
  F_law_pool := fun_mk l_law_pool e_law_pool k_law_pool,
  g__law_pool := PySem.W.mg_of X G a_law_pool,
  k__law_pool := k_law_pool,
  F_is_integer := fun_mk l_is_integer e_is_integer k_is_integer,
  g_is_integer := PySem.W.mg_of X G a_is_integer,
  k_is_integer := k_is_integer,
  F_check_seatsX := fun_mk l_check_seatsX e_check_seatsX k_check_seatsX,
  g_check_seats := PySem.W.mg_of X G a_check_seatsX,
  k_check_seats := k_check_seatsX,
  F_is_later := fun_mk l_is_later e_is_later k_is_later,
  g_is_later := PySem.W.mg_of X G a_is_later,
  k_is_later := k_is_later,
  F_is_station := fun_mk l_is_station e_is_station k_is_station,
  g_is_station := PySem.W.mg_of X G a_is_station,
  k_is_station := k_is_station,
  F_is_trip_name := fun_mk l_is_trip_name e_is_trip_name k_is_trip_name,
  g_is_trip_name := PySem.W.mg_of X G a_is_trip_name,
  k_is_trip_name := k_is_trip_name,
  F_is_tripE := fun_mk l_is_tripE e_is_tripE k_is_tripE,
  g_is_trip := PySem.W.mg_of X G a_is_tripE,
  k_is_trip := k_is_tripE,
  F_valid_beginningE := fun_mk l_valid_beginningE e_valid_beginningE k_valid_beginningE,
  g_valid_beginning := PySem.W.mg_of X G a_valid_beginningE,
  k_valid_beginning := k_valid_beginningE,
  F_Line_capacity := fun_mk l_Line_capacity e_Line_capacity k_Line_capacity,
  F_Line_trips := fun_mk l_Line_trips e_Line_trips k_Line_trips,
  F_Line_len := fun_mk l_Line_len e_Line_len k_Line_len,
  F_Line_eq := fun_mk l_Line_eq e_Line_eq k_Line_eq,
  F_Line_str := fun_mk l_Line_str e_Line_str k_Line_str,
  F_Line_initX := ⟨⟨oc_Line_initX, od_Line_initX, .ref TD, kV_Line_initX, dc_Line_initX, pm_Line_initX, an_Line_initX, ct_Line_initX, sl_Line_initX, rfl, l_Line_initX, e_Line_initX, .inr ⟨by simp, TD, _, [.ref eL], _, rfl, w1, rfl, .cons rfl .nil⟩⟩, k_Line_initX⟩,
  dfl := by
   intro O H
   unfold Reps
   refine ⟨.ref eL, [], rfl, ?_, by unfold Reps; rfl⟩
   unfold Rep
   exact ⟨eL, [], rfl, .inr ⟨_, #[], nEL, w2, rfl, rfl, by decide, .nil⟩, by unfold Reps; rfl⟩,
  F_load_of := fun_mk l_load_of e_load_of k_load_of,
  g_load_of := PySem.W.mg_of X G a_load_of,
  k_load_of := k_load_of,
  F_Line_order := fun_mk l_Line_order e_Line_order k_Line_order,
  F_Line_peak := fun_mk l_Line_peak e_Line_peak k_Line_peak,
  F_Line_made := ⟨⟨oc_Line_made, od_Line_made, kV_Line_made, dc_Line_made, pm_Line_made, an_Line_made, ct_Line_made, sl_Line_made, rfl, l_Line_made, e_Line_made⟩, k_Line_made⟩,
  F_law_draw := fun_mk l_law_draw e_law_draw k_law_draw,
  g__law_draw := PySem.W.mg_of X G a_law_draw,
  k__law_draw := k_law_draw,
  F_law_far := fun_mk l_law_far e_law_far k_law_far,
  g__law_far := PySem.W.mg_of X G a_law_far,
  k__law_far := k_law_far,
  F_law_rides := fun_mk l_law_rides e_law_rides k_law_rides,
  g__law_rides := PySem.W.mg_of X G a_law_rides,
  k__law_rides := k_law_rides,
  F_law_trip := fun_mk l_law_trip e_law_trip k_law_trip,
  g__law_trip := PySem.W.mg_of X G a_law_trip,
  k__law_trip := k_law_trip,
  F_law_due := fun_mk l_law_due e_law_due k_law_due,
  g__law_due := PySem.W.mg_of X G a_law_due,
  k__law_due := k_law_due,
  F_law_same := fun_mk l_law_same e_law_same k_law_same,
  g__law_same := PySem.W.mg_of X G a_law_same,
  k__law_same := k_law_same,
  F_law_some := fun_mk l_law_some e_law_some k_law_some,
  g__law_some := PySem.W.mg_of X G a_law_some,
  k__law_some := k_law_some,
  F_law_other_fields := fun_mk l_law_other_fields e_law_other_fields k_law_other_fields,
  g__law_other_fields := PySem.W.mg_of X G a_law_other_fields,
  k__law_other_fields := k_law_other_fields,
  F_law_fields := fun_mk l_law_fields e_law_fields k_law_fields,
  g__law_fields := PySem.W.mg_of X G a_law_fields,
  k__law_fields := k_law_fields,
  F_law_kind := fun_mk l_law_kind e_law_kind k_law_kind,
  g__law_kind := PySem.W.mg_of X G a_law_kind,
  k__law_kind := k_law_kind,
  F_law_caught := fun_mk l_law_caught e_law_caught k_law_caught,
  g__law_caught := PySem.W.mg_of X G a_law_caught,
  k__law_caught := k_law_caught,
  F_law_words := fun_mk l_law_words e_law_words k_law_words,
  g__law_words := PySem.W.mg_of X G a_law_words,
  k__law_words := k_law_words,
  F_law_right05 := ⟨⟨oc_law_right05, od_law_right05, kV_law_right05, dc_law_right05, pm_law_right05, an_law_right05, ct_law_right05, sl_law_right05, rfl, l_law_right05, e_law_right05⟩, k_law_right05⟩,
  g__law_right := PySem.W.mg_of X G a_law_right05,
  k__law_right := k_law_right05,
  F_law05 := fun_mk l_law05 e_law05 k_law05,
  g_law := PySem.W.mg_of X G a_law05,
  k_law := k_law05,
  b_ArithmeticError := PySem.W.mg_none_of X G b_ArithmeticError,
  v_LETTERS := ⟨_, PySem.W.mg_of X G v_LETTERS, ⟨_, rfl⟩⟩,
  v_LONGEST_NAME := ⟨_, PySem.W.mg_of X G v_LONGEST_NAME, ⟨_, rfl⟩⟩,
  b_LookupError := PySem.W.mg_none_of X G b_LookupError,
  v_MAX_SEATS := ⟨_, PySem.W.mg_of X G v_MAX_SEATS, ⟨_, rfl⟩⟩,
  v_MAX_TRIPS := ⟨_, PySem.W.mg_of X G v_MAX_TRIPS, ⟨_, rfl⟩⟩,
  b_ValueError := PySem.W.mg_none_of X G b_ValueError,
  b_abs := PySem.W.mg_none_of X G b_abs,
  b_all := PySem.W.mg_none_of X G b_all,
  b_bool := PySem.W.mg_none_of X G b_bool,
  b_divmod := PySem.W.mg_none_of X G b_divmod,
  b_enumerate := PySem.W.mg_none_of X G b_enumerate,
  b_int := PySem.W.mg_none_of X G b_int,
  b_isinstance := PySem.W.mg_none_of X G b_isinstance,
  b_len := PySem.W.mg_none_of X G b_len,
  b_max := PySem.W.mg_none_of X G b_max,
  b_min := PySem.W.mg_none_of X G b_min,
  b_range := PySem.W.mg_none_of X G b_range,
  b_repr := PySem.W.mg_none_of X G b_repr,
  b_sorted := PySem.W.mg_none_of X G b_sorted,
  b_str := PySem.W.mg_none_of X G b_str,
  b_super := PySem.W.mg_none_of X G b_super,
  b_tuple := PySem.W.mg_none_of X G b_tuple,
  tne01 := fun e => by have e : tL = tT := e; rw [e] at tq01; simp at tq01,
  tne02 := fun e => by have e : tL = tT3 := e; rw [e] at tq02; simp at tq02,
  tne12 := fun e => by have e : tT = tT3 := e; rw [e] at tq12; simp at tq12 }
 refine ⟨a.d_law05, [(cL, tL), (cT, tT), (cT3, tT3)], TT a, sp_law05 K a.CLine a.XC, ?_, ?_, ?_, nl, ?_, fun s u => .of_eq rfl, fun ns hl _ => ⟨ns, rfl, hl, t.clt, ⟨kindF_of hkInvalidSeats t.xa_InvalidSeats.is rfl rfl rfl rfl, t.xa_InvalidSeats.xf, hxInvalidSeats, kindF_of hkInvalidTrips t.xa_InvalidTrips.is rfl rfl rfl rfl, t.xa_InvalidTrips.xf, hxInvalidTrips⟩, rfl⟩, ?_⟩
 ·exact fun p hp => by
   rcases List.mem_cons.mp hp with rfl | hp
   ·exact PySem.W.codeHd_of_K X w5
   ·rcases List.mem_cons.mp hp with rfl | hp
    ·exact PySem.W.codeHd_of_K X z5
    ·rcases List.mem_cons.mp hp with rfl | hp
     ·exact PySem.W.codeHd_of_K X z53
     ·cases hp
 ·exact fun p hp => by
   rcases List.mem_cons.mp hp with rfl | hp
   ·exact ht
   ·rcases List.mem_cons.mp hp with rfl | hp
    ·exact htT
    ·rcases List.mem_cons.mp hp with rfl | hp
     ·exact htT3
     ·cases hp
 ·exact fun p hp => by
   rcases List.mem_cons.mp hp with rfl | hp
   ·exact w6
   ·rcases List.mem_cons.mp hp with rfl | hp
    ·exact z6
    ·rcases List.mem_cons.mp hp with rfl | hp
     ·exact z63
     ·cases hp
 ·exact fun p hp => by
   rcases List.mem_cons.mp hp with rfl | hp
   ·exact List.mem_cons_self
   ·rcases List.mem_cons.mp hp with rfl | hp
    ·exact List.mem_cons_of_mem _ (List.mem_cons_self)
    ·rcases List.mem_cons.mp hp with rfl | hp
     ·exact List.mem_cons_of_mem _ (List.mem_cons_of_mem _ (List.mem_cons_self))
     ·cases hp
 ·exact fun base _ _ TB => ok_law05 t ⟨TB (cL, tL) (List.mem_cons_self), TB (cT, tT) (List.mem_cons_of_mem _ (List.mem_cons_self)), TB (cT3, tT3) (List.mem_cons_of_mem _ (List.mem_cons_of_mem _ (List.mem_cons_self)))⟩
end ZK
open PySem PySem.W PyProof.Rows
set_option maxRecDepth 100000 in
set_option maxHeartbeats 0 in
theorem PySem.Challenge.cw_seatchains_k05_lines_made_of_trips_holds : PySem.Challenge.rw_seatchains_k05_lines_made_of_trips.Holds :=
 PySem.Challenge.hd05 (by
 k_fill
 refine Z.walkG (l := PySem.Challenge.rw_seatchains_k05_lines_made_of_trips) (n := 63) (k := 13) (x := "_law_script") rfl (by decide) rfl ⟨rfl, by decide, by decide⟩ (fun w h Y => PySem.W.km_in_of Y) ?F
 case F =>
  intro w mg fa h Y KX G hmg
  refine' ZK.law_mk (mL := .type "type") KX G hmg ?hC ?c1 ?c2 ?c3 ?c4 ?t1 ?t2 ?t3 ?t4 ?t5 ?ty0 ?ty1 ?ty2 ?ty3 ?ty4 ?ty5 ?no0 ?no1 ?no2 ?no3 ?no4 ?no5 ?no6 ?m1 ?m2 ?m3 ?m4 ?u1 ?u2 ?u3 ?u4 ?u1_order ?u2_order ?u3_order ?u4_order ?u1_peak ?u2_peak ?u3_peak ?u4_peak ?x1 ?x1f ?x2 ?x2f ?x3 ?x3f ?x4 ?x5 ?nf0 ?nf1 ?nf2 ?nf3 ?nf4 ?nf5 ?nf6 ?r1 ?r2 ?d1_made ?d2_made ?d3_made ?d4_made ?d5_made ?d6_made ?d7_made ?d8_made ?q1 ?q2 ?q3 ?q4 ?n_seat_count ?n_rows ?n_queue ?xg_Busy ?xg_Full ?xg_InvalidAction ?xg_InvalidCommand ?xg_InvalidExchange ?xg_InvalidFixed ?xg_InvalidName ?xg_InvalidNumber ?xg_InvalidPlan ?xg_InvalidSeat ?xg_InvalidSeats ?xg_InvalidStation ?xg_InvalidText ?xg_InvalidTrips ?xg_NameTaken ?xg_NotALine ?xg_NotFree ?xg_NothingToUndo ?xg_Overfull ?xg_SeatError ?xg_SizeError ?xg_StateError ?xg_TooManyEntries ?xg_TooManyPlans ?xg_TooManyTrips ?xi_InvalidSeats ?xl_InvalidSeats ?xc_InvalidSeats ?xd_InvalidSeats ?xv_InvalidSeats ?xf_InvalidSeats ?xtp_InvalidSeats ?xB_InvalidSeats ?xi_InvalidTrips ?xl_InvalidTrips ?xc_InvalidTrips ?xd_InvalidTrips ?xv_InvalidTrips ?xf_InvalidTrips ?xtp_InvalidTrips ?xB_InvalidTrips ?hkInvalidSeats ?hxInvalidSeats ?hkInvalidTrips ?hxInvalidTrips ?a_law_cell ?l_law_cell ?e_law_cell ?k_law_cell ?a_law_pool ?l_law_pool ?e_law_pool ?k_law_pool ?a_is_integer ?l_is_integer ?e_is_integer ?k_is_integer ?a_check_seatsX ?l_check_seatsX ?e_check_seatsX ?k_check_seatsX ?a_is_later ?l_is_later ?e_is_later ?k_is_later ?a_is_station ?l_is_station ?e_is_station ?k_is_station ?a_is_trip_name ?l_is_trip_name ?e_is_trip_name ?k_is_trip_name ?a_is_tripE ?l_is_tripE ?e_is_tripE ?k_is_tripE ?a_valid_beginningE ?l_valid_beginningE ?e_valid_beginningE ?k_valid_beginningE ?l_Line_capacity ?e_Line_capacity ?k_Line_capacity ?l_Line_trips ?e_Line_trips ?k_Line_trips ?l_Line_len ?e_Line_len ?k_Line_len ?l_Line_eq ?e_Line_eq ?k_Line_eq ?l_Line_str ?e_Line_str ?k_Line_str ?l_Line_initX ?e_Line_initX ?k_Line_initX ?w1 ?w2 ?w3 ?w4 ?w5 ?w6 ?a_load_of ?l_load_of ?e_load_of ?k_load_of ?l_Line_order ?e_Line_order ?k_Line_order ?l_Line_peak ?e_Line_peak ?k_Line_peak ?l_Line_made ?e_Line_made ?k_Line_made ?z3 ?z4 ?z5 ?z6 ?a_law_draw ?l_law_draw ?e_law_draw ?k_law_draw ?a_law_far ?l_law_far ?e_law_far ?k_law_far ?a_law_rides ?l_law_rides ?e_law_rides ?k_law_rides ?a_law_trip ?l_law_trip ?e_law_trip ?k_law_trip ?a_law_due ?l_law_due ?e_law_due ?k_law_due ?a_law_same ?l_law_same ?e_law_same ?k_law_same ?a_law_some ?l_law_some ?e_law_some ?k_law_some ?a_law_other_fields ?l_law_other_fields ?e_law_other_fields ?k_law_other_fields ?a_law_fields ?l_law_fields ?e_law_fields ?k_law_fields ?a_law_kind ?l_law_kind ?e_law_kind ?k_law_kind ?a_law_caught ?l_law_caught ?e_law_caught ?k_law_caught ?a_law_words ?l_law_words ?e_law_words ?k_law_words ?a_law_right05 ?l_law_right05 ?e_law_right05 ?k_law_right05 ?z33 ?z43 ?z53 ?z63 ?a_law05 ?l_law05 ?e_law05 ?k_law05 ?b_ArithmeticError ?v_LETTERS ?v_LONGEST_NAME ?b_LookupError ?v_MAX_SEATS ?v_MAX_TRIPS ?b_ValueError ?b_abs ?b_all ?b_bool ?b_divmod ?b_enumerate ?b_int ?b_isinstance ?b_len ?b_max ?b_min ?b_range ?b_repr ?b_sorted ?b_str ?b_super ?b_tuple ?htT ?htT3 ?tq01 ?tq02 ?tq12 ?nl ?ht
  (case hC => k_is)
  (case c1 => k_is)
  (case c2 => k_is)
  (case c3 => k_is)
  (case c4 => k_is)
  (case t1 => k_is)
  (case t2 => k_is)
  (case t3 => k_is)
  (case t4 => k_is)
  (case t5 => kernel_rfl)
  (case ty0 => kernel_rfl)
  (case ty1 => kernel_rfl)
  (case ty2 => kernel_rfl)
  (case ty3 => kernel_rfl)
  (case ty4 => kernel_rfl)
  (case ty5 => kernel_rfl)
  (case no0 => kernel_rfl)
  (case no1 => kernel_rfl)
  (case no2 => kernel_rfl)
  (case no3 => kernel_rfl)
  (case no4 => kernel_rfl)
  (case no5 => kernel_rfl)
  (case no6 => kernel_rfl)
  (case m1 => k_is)
  (case m2 => k_is)
  (case m3 => k_is)
  (case m4 => k_is)
  (case u1 => k_is)
  (case u2 => k_is)
  (case u3 => k_is)
  (case u4 => k_is)
  (case u1_order => k_is)
  (case u2_order => k_is)
  (case u3_order => k_is)
  (case u4_order => k_is)
  (case u1_peak => k_is)
  (case u2_peak => k_is)
  (case u3_peak => k_is)
  (case u4_peak => k_is)
  (case x1 => k_is)
  (case x1f => k_is)
  (case x2 => k_is)
  (case x2f => k_is)
  (case x3 => k_is)
  (case x3f => k_is)
  (case x4 => k_is)
  (case x5 => k_is)
  (case nf0 => kernel_rfl)
  (case nf1 => kernel_rfl)
  (case nf2 => kernel_rfl)
  (case nf3 => kernel_rfl)
  (case nf4 => kernel_rfl)
  (case nf5 => kernel_rfl)
  (case nf6 => kernel_rfl)
  (case r1 => k_is)
  (case r2 => k_is)
  (case d1_made => k_is)
  (case d2_made => k_is)
  (case d3_made => k_is)
  (case d4_made => k_is)
  (case d5_made => k_is)
  (case d6_made => k_is)
  (case d7_made => k_is)
  (case d8_made => k_is)
  (case q1 => k_is)
  (case q2 => k_is)
  (case q3 => k_is)
  (case q4 => k_is)
  (case n_seat_count => k_is)
  (case n_rows => k_is)
  (case n_queue => k_is)
  (case xg_Busy => k_is)
  (case xg_Full => k_is)
  (case xg_InvalidAction => k_is)
  (case xg_InvalidCommand => k_is)
  (case xg_InvalidExchange => k_is)
  (case xg_InvalidFixed => k_is)
  (case xg_InvalidName => k_is)
  (case xg_InvalidNumber => k_is)
  (case xg_InvalidPlan => k_is)
  (case xg_InvalidSeat => k_is)
  (case xg_InvalidSeats => k_is)
  (case xg_InvalidStation => k_is)
  (case xg_InvalidText => k_is)
  (case xg_InvalidTrips => k_is)
  (case xg_NameTaken => k_is)
  (case xg_NotALine => k_is)
  (case xg_NotFree => k_is)
  (case xg_NothingToUndo => k_is)
  (case xg_Overfull => k_is)
  (case xg_SeatError => k_is)
  (case xg_SizeError => k_is)
  (case xg_StateError => k_is)
  (case xg_TooManyEntries => k_is)
  (case xg_TooManyPlans => k_is)
  (case xg_TooManyTrips => k_is)
  (case xi_InvalidSeats => k_is)
  (case xl_InvalidSeats => k_is)
  (case xc_InvalidSeats => k_is)
  (case xd_InvalidSeats => k_is)
  (case xv_InvalidSeats => rfl)
  (case xf_InvalidSeats => rfl)
  (case xtp_InvalidSeats => rfl)
  (case xB_InvalidSeats => kernel_rfl)
  (case xi_InvalidTrips => k_is)
  (case xl_InvalidTrips => k_is)
  (case xc_InvalidTrips => k_is)
  (case xd_InvalidTrips => k_is)
  (case xv_InvalidTrips => rfl)
  (case xf_InvalidTrips => rfl)
  (case xtp_InvalidTrips => rfl)
  (case xB_InvalidTrips => kernel_rfl)
  (case hkInvalidSeats => kernel_rfl)
  (case hxInvalidSeats => kernel_rfl)
  (case hkInvalidTrips => kernel_rfl)
  (case hxInvalidTrips => kernel_rfl)
  (case a_law_cell => k_is)
  (case l_law_cell => k_is)
  (case e_law_cell => k_is)
  (case k_law_cell => k_is)
  (case a_law_pool => k_is)
  (case l_law_pool => k_is)
  (case e_law_pool => k_is)
  (case k_law_pool => k_is)
  (case a_is_integer => k_is)
  (case l_is_integer => k_is)
  (case e_is_integer => k_is)
  (case k_is_integer => k_is)
  (case a_check_seatsX => k_is)
  (case l_check_seatsX => k_is)
  (case e_check_seatsX => k_is)
  (case k_check_seatsX => k_is)
  (case a_is_later => k_is)
  (case l_is_later => k_is)
  (case e_is_later => k_is)
  (case k_is_later => k_is)
  (case a_is_station => k_is)
  (case l_is_station => k_is)
  (case e_is_station => k_is)
  (case k_is_station => k_is)
  (case a_is_trip_name => k_is)
  (case l_is_trip_name => k_is)
  (case e_is_trip_name => k_is)
  (case k_is_trip_name => k_is)
  (case a_is_tripE => k_is)
  (case l_is_tripE => k_is)
  (case e_is_tripE => k_is)
  (case k_is_tripE => k_is)
  (case a_valid_beginningE => k_is)
  (case l_valid_beginningE => k_is)
  (case e_valid_beginningE => k_is)
  (case k_valid_beginningE => k_is)
  (case l_Line_capacity => k_is)
  (case e_Line_capacity => k_is)
  (case k_Line_capacity => k_is)
  (case l_Line_trips => k_is)
  (case e_Line_trips => k_is)
  (case k_Line_trips => k_is)
  (case l_Line_len => k_is)
  (case e_Line_len => k_is)
  (case k_Line_len => k_is)
  (case l_Line_eq => k_is)
  (case e_Line_eq => k_is)
  (case k_Line_eq => k_is)
  (case l_Line_str => k_is)
  (case e_Line_str => k_is)
  (case k_Line_str => k_is)
  (case l_Line_initX => k_is)
  (case e_Line_initX => k_is)
  (case k_Line_initX => k_is)
  (case w1 => k_is)
  (case w2 => k_is)
  (case w3 => k_is)
  (case w4 => rfl)
  (case w5 => kernel_rfl)
  (case w6 => kernel_rfl)
  (case a_load_of => k_is)
  (case l_load_of => k_is)
  (case e_load_of => k_is)
  (case k_load_of => k_is)
  (case l_Line_order => k_is)
  (case e_Line_order => k_is)
  (case k_Line_order => k_is)
  (case l_Line_peak => k_is)
  (case e_Line_peak => k_is)
  (case k_Line_peak => k_is)
  (case l_Line_made => k_is)
  (case e_Line_made => k_is)
  (case k_Line_made => k_is)
  (case z3 => k_is)
  (case z4 => rfl)
  (case z5 => kernel_rfl)
  (case z6 => kernel_rfl)
  (case a_law_draw => k_is)
  (case l_law_draw => k_is)
  (case e_law_draw => k_is)
  (case k_law_draw => k_is)
  (case a_law_far => k_is)
  (case l_law_far => k_is)
  (case e_law_far => k_is)
  (case k_law_far => k_is)
  (case a_law_rides => k_is)
  (case l_law_rides => k_is)
  (case e_law_rides => k_is)
  (case k_law_rides => k_is)
  (case a_law_trip => k_is)
  (case l_law_trip => k_is)
  (case e_law_trip => k_is)
  (case k_law_trip => k_is)
  (case a_law_due => k_is)
  (case l_law_due => k_is)
  (case e_law_due => k_is)
  (case k_law_due => k_is)
  (case a_law_same => k_is)
  (case l_law_same => k_is)
  (case e_law_same => k_is)
  (case k_law_same => k_is)
  (case a_law_some => k_is)
  (case l_law_some => k_is)
  (case e_law_some => k_is)
  (case k_law_some => k_is)
  (case a_law_other_fields => k_is)
  (case l_law_other_fields => k_is)
  (case e_law_other_fields => k_is)
  (case k_law_other_fields => k_is)
  (case a_law_fields => k_is)
  (case l_law_fields => k_is)
  (case e_law_fields => k_is)
  (case k_law_fields => k_is)
  (case a_law_kind => k_is)
  (case l_law_kind => k_is)
  (case e_law_kind => k_is)
  (case k_law_kind => k_is)
  (case a_law_caught => k_is)
  (case l_law_caught => k_is)
  (case e_law_caught => k_is)
  (case k_law_caught => k_is)
  (case a_law_words => k_is)
  (case l_law_words => k_is)
  (case e_law_words => k_is)
  (case k_law_words => k_is)
  (case a_law_right05 => k_is)
  (case l_law_right05 => k_is)
  (case e_law_right05 => k_is)
  (case k_law_right05 => k_is)
  (case z33 => k_is)
  (case z43 => rfl)
  (case z53 => kernel_rfl)
  (case z63 => kernel_rfl)
  (case a_law05 => k_is)
  (case l_law05 => k_is)
  (case e_law05 => k_is)
  (case k_law05 => k_is)
  (case b_ArithmeticError => k_is)
  (case v_LETTERS => k_is)
  (case v_LONGEST_NAME => k_is)
  (case b_LookupError => k_is)
  (case v_MAX_SEATS => k_is)
  (case v_MAX_TRIPS => k_is)
  (case b_ValueError => k_is)
  (case b_abs => k_is)
  (case b_all => k_is)
  (case b_bool => k_is)
  (case b_divmod => k_is)
  (case b_enumerate => k_is)
  (case b_int => k_is)
  (case b_isinstance => k_is)
  (case b_len => k_is)
  (case b_max => k_is)
  (case b_min => k_is)
  (case b_range => k_is)
  (case b_repr => k_is)
  (case b_sorted => k_is)
  (case b_str => k_is)
  (case b_super => k_is)
  (case b_tuple => k_is)
  (case htT => exact PySem.W.km_tabs_of Y _ (by simp))
  (case htT3 => exact PySem.W.km_tabs_of Y _ (by simp))
  (case tq01 => rfl)
  (case tq02 => rfl)
  (case tq12 => rfl)
  (case nl => kernel_rfl)
  (case ht => exact PySem.W.km_tabs_of Y _ (by simp)))
