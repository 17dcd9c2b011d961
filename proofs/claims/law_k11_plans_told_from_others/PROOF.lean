import PyProof.Rows.All
import Wide.All
import OpenK.AllK
import Wide.FinOn
import KE.KNestM
import HandS.EndTab
import HandS.ForMost
import HandS.IsInst
import HandS.Wide
import HandS.Lambda
import KE.SortData
import KE.SortKeyHeap
import HandS.ExcCtx
import PyProof.ReprRoads
import PyProof.StrOps2
import HandS.Property
import KE.GoesEnum
import KE.GoesMore
import KE.KLam
import HandS.Style
import HandS.Defaults
import HandS.ClsMeth
import HandS.ForDict
import KE.KCallOwn
import KE.KFmtOwn
import PyProof.Conv_bool
import HandS.MakeKw
import HandS.FStr
import PyProof.Rows.StrIntSpec
import PyProof.Rows.ReprOcc
import PyProof.ReprText
import HandS.Star
import HandS.TupAny
import HandS.GenList
import KE.DatumOrd
import HandS.SortKw
import HandS.More
import HandS.TryOnly
import OpenK.KMore
import HandS.Set
import HandS.Zip
import HandS.Rev
import HandS.Strs
import PyProof.ListRange
import PyProof.LongRange
import OpenK.KLaw
import HandS.Flow
import KE.KDictPairs
import HandS.ExcInit
import HandS.HotCalls
import KE.KExcSuper
import KE.KSuper
import KE.KExcInit
import KE.KDictZip
import HandS.Deep
import HandS.Iter
import HandS.TupLe
import HandS.CallSlots
import KE.KTryMore
import KE.KExcIs
import HandS.ExcField
import HandS.ExcIs
import HandS.CallLocal
import HandS.SetFor
import HandS.SuiteRaise
import HandS.RaiseFrom
import PyProof.NeKinds
import KE.KEqDict
import PySem.Challenge.RW_seatchains_k11_plans_told_from_others
set_option Elab.async false
section
open PySem PySem.W PyProof.Rows
def PySem.W.Fast.tw16508622531262201664 : Nat := 0
def PySem.W.Fast.tw15995331765658152484 : Nat := 0
def PySem.W.Fast.tw7674178754021353556 : Nat := 0
def PySem.W.Fast.tw16412650955994095624 : Nat := 0
def PySem.W.Fast.tw4803341459059518001 : Nat := 0
def PySem.W.Fast.tw6200420404889963060 : Nat := 0
def PySem.W.Fast.tw11361684733106277893 : Nat := 0
def PySem.W.Fast.tw13222646699786884430 : Nat := 0
def PySem.W.Fast.tw9052709769646433137 : Nat := 0
def PySem.W.Fast.tw14544305115152196991 : Nat := 0
def PySem.W.Fast.tw14725819761301473820 : Nat := 0
def PySem.W.Fast.tw8762174812359098300 : Nat := 0
def PySem.W.Fast.tw2574302568073712851 : Nat := 0
def PySem.W.Fast.tw10225881504296395290 : Nat := 0
def PySem.W.Fast.tw17460637182563751559 : Nat := 0
def PySem.W.Fast.tw11286822033319355503 : Nat := 0
def PySem.W.Fast.tw5675609466086227517 : Nat := 0
def PySem.W.Fast.tw2313352277682377095 : Nat := 0
def PySem.W.Fast.tw7206704548362913680 : Nat := 0
def PySem.W.Fast.tw9919228805714099672 : Nat := 0
def PySem.W.Fast.tw2888807050397897071 : Nat := 0
def PySem.W.Fast.tw3258980079564031806 : Nat := 0
def PySem.W.Fast.tw5978975320053854 : Nat := 0
def PySem.W.Fast.tw5123500179419943193 : Nat := 0
def PySem.W.Fast.tw13642365599738723676 : Nat := 0
def PySem.W.Fast.tw14737045301569678403 : Nat := 0
def PySem.W.Fast.tw17700657267002862735 : Nat := 0
def PySem.W.Fast.tw9849142301568456881 : Nat := 0
def PySem.W.Fast.tw7888279392647222045 : Nat := 0
def PySem.W.Fast.tw1374150093140979448 : Nat := 0
def PySem.W.Fast.tw8755438768481563540 : Nat := 0
def PySem.W.Fast.tw16195311849386907474 : Nat := 0
def PySem.W.Fast.tw8832210729419263176 : Nat := 0
def PySem.W.Fast.tw14703049478031556325 : Nat := 0
def PySem.W.Fast.tw11805789780208386522 : Nat := 0
def PySem.W.Fast.tw2296771271133732225 : Nat := 0
def PySem.W.Fast.tw3243826339527532190 : Nat := 0
def PySem.W.Fast.tw7600712857551040071 : Nat := 0
def PySem.W.Fast.tw7109565682903836133 : Nat := 0
def PySem.W.Fast.tw4102398322578469443 : Nat := 0
def PySem.W.Fast.tw7753606661722536727 : Nat := 0
def PySem.W.Fast.tw12467839037891822 : Nat := 0
def PySem.W.Fast.tw11903386018809549260 : Nat := 0
def PySem.W.Fast.tw5544558038537370740 : Nat := 0
def PySem.W.Fast.tw11906220093852226881 : Nat := 0
def PySem.W.Fast.tw5912296393963664223 : Nat := 0
def PySem.W.Fast.tw10791309109407616569 : Nat := 0
def PySem.W.Fast.tw5355742273395953648 : Nat := 0
def PySem.W.Fast.tw10583192164337722954 : Nat := 0
def PySem.W.Fast.tw8479980469264395273 : Nat := 0
def PySem.W.Fast.tw10602266241541293173 : Nat := 0
def PySem.W.Fast.tw8619531055897576150 : Nat := 0
def PySem.W.Fast.tw9296295110371356910 : Nat := 0
def PySem.W.Fast.tw9019247611770735477 : Nat := 0
def PySem.W.Fast.tw12582221076040950043 : Nat := 0
def PySem.W.Fast.tw7777545793844645679 : Nat := 0
def PySem.W.Fast.tw662434227960898232 : Nat := 0
def PySem.W.Fast.tw6354868809884185235 : Nat := 0
def PySem.W.Fast.tw15969459099964681408 : Nat := 0
def PySem.W.Fast.tw8757703828048230606 : Nat := 0
def PySem.W.Fast.tw13717764913061345864 : Nat := 0
def PySem.W.Fast.tw16022092143178824036 : Nat := 0
def PySem.W.Fast.tw13771232041735483089 : Nat := 0
def PySem.W.Fast.tw8583316100650708565 : Nat := 0
def PySem.W.Fast.tw13190874893969612020 : Nat := 0
def PySem.W.Fast.tw7915883158579406916 : Nat := 0
def PySem.W.Fast.tw17355315344345759465 : Nat := 0
def PySem.W.Fast.tw7802216024657647677 : Nat := 0
def PySem.W.Fast.tw10778177374411385743 : Nat := 0
def PySem.W.Fast.tw11992745652828088981 : Nat := 0
def PySem.W.Fast.tw6294525265882558384 : Nat := 0
def PySem.W.Fast.tw15536528973167901671 : Nat := 0
def PySem.W.Fast.tw1579874421843248357 : Nat := 0
def PySem.W.Fast.tw1049869377914775621 : Nat := 0
def PySem.W.Fast.tw6040336947656658385 : Nat := 0
def PySem.W.Fast.tw8737211540346583198 : Nat := 0
def PySem.W.Fast.tw3552003973939570800 : Nat := 0
def PySem.W.Fast.tw1876917880942161597 : Nat := 0
def PySem.W.Fast.tw5214193868887202109 : Nat := 0
def PySem.W.Fast.tw2307068884381976135 : Nat := 0
def PySem.W.Fast.tw11987932205431097716 : Nat := 0
def PySem.W.Fast.tw732442168205902020 : Nat := 0
def PySem.W.Fast.tw5458273007279895681 : Nat := 0
def PySem.W.Fast.tw17280475783313121390 : Nat := 0
def PySem.W.Fast.tw14350555142685382819 : Nat := 0
def PySem.W.Fast.tw1437134203602032544 : Nat := 0
def PySem.W.Fast.tw14190862625932035406 : Nat := 0
def PySem.W.Fast.tw12172401457249939410 : Nat := 0
def PySem.W.Fast.tw6126323068790050415 : Nat := 0
def PySem.W.Fast.tw14799472477181809925 : Nat := 0
def PySem.W.Fast.tw15168480605454428375 : Nat := 0
def PySem.W.Fast.tw4918802667980589733 : Nat := 0
def PySem.W.Fast.tw5065058173891545927 : Nat := 0
def PySem.W.Fast.tw10478778031093084974 : Nat := 0
def PySem.W.Fast.tw14506084612046927885 : Nat := 0
def PySem.W.Fast.tw2640767354145141285 : Nat := 0
def PySem.W.Fast.tw4590293968927828825 : Nat := 0
def PySem.W.Fast.tw13017108441573896427 : Nat := 0
def PySem.W.Fast.tw7044352850450101220 : Nat := 0
def PySem.W.Fast.tw11742397632765837192 : Nat := 0
def PySem.W.Fast.tw8553780963198553257 : Nat := 0
def PySem.W.Fast.tw5470187932998792402 : Nat := 0
def PySem.W.Fast.tw535322035877552503 : Nat := 0
def PySem.W.Fast.tw9632186533514254160 : Nat := 0
def PySem.W.Fast.tw15970216853284520702 : Nat := 0
def PySem.W.Fast.tw3241275920029699206 : Nat := 0
def PySem.W.Fast.tw14708973526323496752 : Nat := 0
def PySem.W.Fast.tw12473461399186729010 : Nat := 0
def PySem.W.Fast.tw18133204716017986038 : Nat := 0
def PySem.W.Fast.tw7123434552225252130 : Nat := 0
def PySem.W.Fast.tw13306241029676029568 : Nat := 0
def PySem.W.Fast.tw15141441798302104271 : Nat := 0
def PySem.W.Fast.tw13073475131995633423 : Nat := 0
def PySem.W.Fast.tw10152484489165627251 : Nat := 0
def PySem.W.Fast.tw10982353780398397615 : Nat := 0
def PySem.W.Fast.tw4677703205260292604 : Nat := 0
def PySem.W.Fast.tw15439189192770937660 : Nat := 0
def PySem.W.Fast.tw16934110442827441606 : Nat := 0
def PySem.W.Fast.tw7876863717573081025 : Nat := 0
def PySem.W.Fast.tw8800706603135851282 : Nat := 0
def PySem.W.Fast.tw6600159612386162279 : Nat := 0
def PySem.W.Fast.tw13373779278808824626 : Nat := 0
def PySem.W.Fast.tw9919842121352080713 : Nat := 0
def PySem.W.Fast.tw12423519444010421821 : Nat := 0
def PySem.W.Fast.tw179657876792849170 : Nat := 0
def PySem.W.Fast.tw6122322162532398678 : Nat := 0
def PySem.W.Fast.tw11748650377383237607 : Nat := 0
def PySem.W.Fast.tw18408047142041538096 : Nat := 0
def PySem.W.Fast.tw8196850086057231590 : Nat := 0
def PySem.W.Fast.tw2680711222697114518 : Nat := 0
def PySem.W.Fast.tw7700322828959938018 : Nat := 0
def PySem.W.Fast.tw999836100194180324 : Nat := 0
def PySem.W.Fast.tw12054929211072499813 : Nat := 0
def PySem.W.Fast.tw11590874474124038039 : Nat := 0
def PySem.W.Fast.tw18232833040888732875 : Nat := 0
def PySem.W.Fast.tw910917418848596925 : Nat := 0
def PySem.W.Fast.tw15734746724223767725 : Nat := 0
def PySem.W.Fast.tw4764901250196391276 : Nat := 0
def PySem.W.Fast.tw9200764572972605617 : Nat := 0
def PySem.W.Fast.tw13201905447653729828 : Nat := 0
def PySem.W.Fast.tw7286206039133296791 : Nat := 0
def PySem.W.Fast.tw3109760129791068966 : Nat := 0
def PySem.W.Fast.tw1455070386363688658 : Nat := 0
def PySem.W.Fast.tw6915618371541352294 : Nat := 0
def PySem.W.Fast.tw15924538432315894546 : Nat := 0
def PySem.W.Fast.tw12239287913912162060 : Nat := 0
def PySem.W.Fast.tw473748421743315723 : Nat := 0
def PySem.W.Fast.tw10985281460303226753 : Nat := 0
def PySem.W.Fast.tw12336029661596723658 : Nat := 0
def PySem.W.Fast.tw16305034445484293397 : Nat := 0
def PySem.W.Fast.tw9640164044344747283 : Nat := 0
def PySem.W.Fast.tw15398431336688148961 : Nat := 0
def PySem.W.Fast.tw10899399879300105515 : Nat := 0
def PySem.W.Fast.tw6661477818950631140 : Nat := 0
def PySem.W.Fast.tw735378522813573820 : Nat := 0
def PySem.W.Fast.tw12026202902320326558 : Nat := 0
def PySem.W.Fast.tw18063944419604238001 : Nat := 0
def PySem.W.Fast.tw11057659883101131666 : Nat := 0
def PySem.W.Fast.tw4360212057351309868 : Nat := 0
def PySem.W.Fast.tw6404953137957147068 : Nat := 0
def PySem.W.Fast.tw9531755849921846776 : Nat := 0
def PySem.W.Fast.tw15623782278687142330 : Nat := 0
def PySem.W.Fast.tw10571407869414148962 : Nat := 0
def PySem.W.Fast.tw10264629719630834525 : Nat := 0
def PySem.W.Fast.tw17460959551633223077 : Nat := 0
def PySem.W.Fast.tw2226035087684906491 : Nat := 0
def PySem.W.Fast.tw2465458611423725839 : Nat := 0
def PySem.W.Fast.tw15374872485469240488 : Nat := 0
def PySem.W.Fast.tw16340560893909843900 : Nat := 0
def PySem.W.Fast.tw642087741506117395 : Nat := 0
def PySem.W.Fast.tw6917225668426527525 : Nat := 0
def PySem.W.Fast.tw12646304654369646389 : Nat := 0
def PySem.W.Fast.tw5587923536939602468 : Nat := 0
def PySem.W.Fast.tw9180731858876000582 : Nat := 0
def PySem.W.Fast.tw2201280597756803001 : Nat := 0
def PySem.W.Fast.tw9391141747884091100 : Nat := 0
def PySem.W.Fast.tw2609572934154814582 : Nat := 0
def PySem.W.Fast.tw233530999095618300 : Nat := 0
def PySem.W.Fast.tw8967478411927801865 : Nat := 0
def PySem.W.Fast.tw3040776903325633665 : Nat := 0
def PySem.W.Fast.tw15022302094680821333 : Nat := 0
def PySem.W.Fast.tw2599102679453111764 : Nat := 0
def PySem.W.Fast.tw6728310034716016671 : Nat := 0
def PySem.W.Fast.tw7622698810821158667 : Nat := 0
def PySem.W.Fast.tw6334678699973194774 : Nat := 0
def PySem.W.Fast.tw4172009353415814304 : Nat := 0
def PySem.W.Fast.tw7674216515880248708 : Nat := 0
def PySem.W.Fast.tw3847739673492442237 : Nat := 0
def PySem.W.Fast.tw5120087935432489149 : Nat := 0
def PySem.W.Fast.tw2819073648138418191 : Nat := 0
def PySem.W.Fast.tw9679184261630254121 : Nat := 0
def PySem.W.Fast.tw13632899024366260703 : Nat := 0
def PySem.W.Fast.tw9482790745664203234 : Nat := 0
def PySem.W.Fast.tw12494209062317449068 : Nat := 0
def PySem.W.Fast.tw11873401510757928255 : Nat := 0
def PySem.W.Fast.tw15262482733322970742 : Nat := 0
def PySem.W.Fast.tw3127300916422350713 : Nat := 0
def PySem.W.Fast.tw17537097873224723000 : Nat := 0
def PySem.W.Fast.tw731124830567948919 : Nat := 0
def PySem.W.Fast.tw4926574177019012758 : Nat := 0
def PySem.W.Fast.tw4728706229858011912 : Nat := 0
def PySem.W.Fast.tw14493748701520312106 : Nat := 0
def PySem.W.Fast.tw13091097594902124762 : Nat := 0
def PySem.W.Fast.tw18135331756833224276 : Nat := 0
def PySem.W.Fast.tw15741650583051544305 : Nat := 0
def PySem.W.Fast.tw8274782381967120094 : Nat := 0
def PySem.W.Fast.tw13884162788570074255 : Nat := 0
def PySem.W.Fast.tw9665660550771818850 : Nat := 0
def PySem.W.Fast.tw15628980606367005729 : Nat := 0
def PySem.W.Fast.tw11843957955254342550 : Nat := 0
def PySem.W.Fast.tw5001419019029711791 : Nat := 0
def PySem.W.Fast.tw15319169297632258943 : Nat := 0
def PySem.W.Fast.tw9519554357233077274 : Nat := 0
def PySem.W.Fast.tw9240372457301403155 : Nat := 0
def PySem.W.Fast.tw16155730115305223909 : Nat := 0
def PySem.W.Fast.tw3970524254068900391 : Nat := 0
def PySem.W.Fast.tw16065234398740710956 : Nat := 0
def PySem.W.Fast.tw6652579114259149271 : Nat := 0
def PySem.W.Fast.tw14718030283881805715 : Nat := 0
def PySem.W.Fast.tw14120896918896708486 : Nat := 0
def PySem.W.Fast.tw4079820805101792707 : Nat := 0
def PySem.W.Fast.tw10777052178618353435 : Nat := 0
def PySem.W.Fast.tw3616328274454150635 : Nat := 0
def PySem.W.Fast.tw16521508100816646599 : Nat := 0
def PySem.W.Fast.tw11974432342512254866 : Nat := 0
def PySem.W.Fast.tw9601532445360302023 : Nat := 0
def PySem.W.Fast.tw18234335792772495420 : Nat := 0
def PySem.W.Fast.tw16639130079203571888 : Nat := 0
def PySem.W.Fast.tw11011026902372243684 : Nat := 0
def PySem.W.Fast.tw159907840398148366 : Nat := 0
def PySem.W.Fast.tw3753216645743424055 : Nat := 0
def PySem.W.Fast.tw15406865496947336463 : Nat := 0
def PySem.W.Fast.tw4535891841475908915 : Nat := 0
def PySem.W.Fast.tw7663264781710024287 : Nat := 0
def PySem.W.Fast.tw2271681218755005609 : Nat := 0
def PySem.W.Fast.tw13147896158330798477 : Nat := 0
def PySem.W.Fast.tw16233709786609434971 : Nat := 0
def PySem.W.Fast.tw8773096628324593683 : Nat := 0
def PySem.W.Fast.tw251785325646032781 : Nat := 0
def PySem.W.Fast.tw5431469436663355460 : Nat := 0
def PySem.W.Fast.tw7702915153387532260 : Nat := 0
def PySem.W.Fast.tw6244875050886850636 : Nat := 0
def PySem.W.Fast.tw9734276809782319328 : Nat := 0
def PySem.W.Fast.tw2719676929760574583 : Nat := 0
def PySem.W.Fast.tw13661947721934351577 : Nat := 0
def PySem.W.Fast.tw12957456277101218824 : Nat := 0
def PySem.W.Fast.tw5746856728120588242 : Nat := 0
def PySem.W.Fast.tw7371617535474174566 : Nat := 0
def PySem.W.Fast.tw11692608156809954307 : Nat := 0
def PySem.W.Fast.tw5697402681133496946 : Nat := 0
def PySem.W.Fast.tw6792803987829725055 : Nat := 0
def PySem.W.Fast.tw14338034318958727642 : Nat := 0
def PySem.W.Fast.tw9116014683467037778 : Nat := 0
def PySem.W.Fast.tw4474740969006597076 : Nat := 0
def PySem.W.Fast.tw3310229534154941783 : Nat := 0
def PySem.W.Fast.tw8587846555705426900 : Nat := 0
def PySem.W.Fast.tw10707355942357836678 : Nat := 0
def PySem.W.Fast.tw7744239795117212851 : Nat := 0
def PySem.W.Fast.tw12586436038843119693 : Nat := 0
def PySem.W.Fast.tw18445260707332863177 : Nat := 0
def PySem.W.Fast.tw15660843519214504508 : Nat := 0
def PySem.W.Fast.tw17249349237879692133 : Nat := 0
def PySem.W.Fast.tw9962162424478347333 : Nat := 0
def PySem.W.Fast.tw7660507101365400824 : Nat := 0
def PySem.W.Fast.tw12396873457528030100 : Nat := 0
def PySem.W.Fast.tw1491943562379722201 : Nat := 0
def PySem.W.Fast.tw859845354315335736 : Nat := 0
def PySem.W.Fast.tw9305953067813972652 : Nat := 0
def PySem.W.Fast.tw12551874072036741764 : Nat := 0
def PySem.W.Fast.tw12391223320919053587 : Nat := 0
def PySem.W.Fast.tw14533385844599865780 : Nat := 0
def PySem.W.Fast.tw3516378303350018460 : Nat := 0
def PySem.W.Fast.tw7710432203736609245 : Nat := 0
def PySem.W.Fast.tw12690787813910332144 : Nat := 0
def PySem.W.Fast.tw13040939931849470059 : Nat := 0
def PySem.W.Fast.tw5393081692408521111 : Nat := 0
def PySem.W.Fast.tw8749741925018893622 : Nat := 0
def PySem.W.Fast.tw16697725077978963593 : Nat := 0
def PySem.W.Fast.tw18343525881884759177 : Nat := 0
def PySem.W.Fast.tw10370638293390354334 : Nat := 0
def PySem.W.Fast.tw11318168848723609961 : Nat := 0
def PySem.W.Fast.tw17730554336057245434 : Nat := 0
def PySem.W.Fast.tw12711324600822693919 : Nat := 0
def PySem.W.Fast.tw12477725162285876142 : Nat := 0
def PySem.W.Fast.tw15792848176703676439 : Nat := 0
def PySem.W.Fast.tw9145111003873841820 : Nat := 0
def PySem.W.Fast.tw1470677873434929454 : Nat := 0
def PySem.W.Fast.tw7501261791474850668 : Nat := 0
def PySem.W.Fast.tw3369855853096515688 : Nat := 0
def PySem.W.Fast.tw1712461753289093204 : Nat := 0
def PySem.W.Fast.tw2390538961426268113 : Nat := 0
def PySem.W.Fast.tw17286752997905714020 : Nat := 0
def PySem.W.Fast.tw9747203378099655958 : Nat := 0
def PySem.W.Fast.tw12547702660185476601 : Nat := 0
def PySem.W.Fast.tw4429727615685512786 : Nat := 0
def PySem.W.Fast.tw16011863090756439772 : Nat := 0
def PySem.W.Fast.tw12694064894641312699 : Nat := 0
def PySem.W.Fast.tw11963337011585684291 : Nat := 0
def PySem.W.Fast.tw2515604743781675709 : Nat := 0
def PySem.W.Fast.tw374482378219139726 : Nat := 0
def PySem.W.Fast.tw3160378044873517978 : Nat := 0
def PySem.W.Fast.tw9539421672145803439 : Nat := 0
def PySem.W.Fast.tw2176366388394326176 : Nat := 0
def PySem.W.Fast.tw17051746376866337145 : Nat := 0
def PySem.W.Fast.tw10495015592611842587 : Nat := 0
def PySem.W.Fast.tw15996159582902273834 : Nat := 0
def PySem.W.Fast.tw17639032120025187998 : Nat := 0
def PySem.W.Fast.tw8941086142099325441 : Nat := 0
def PySem.W.Fast.tw10616006645115653165 : Nat := 0
def PySem.W.Fast.tw3507009725344008720 : Nat := 0
def PySem.W.Fast.tw15948998187529505168 : Nat := 0
def PySem.W.Fast.tw11479570031338931934 : Nat := 0
def PySem.W.Fast.tw16722669718198780723 : Nat := 0
def PySem.W.Fast.tw6090797952636668213 : Nat := 0
def PySem.W.Fast.tw4286635428946510409 : Nat := 0
def PySem.W.Fast.tw13556526229748984599 : Nat := 0
def PySem.W.Fast.tw6145401821944027413 : Nat := 0
def PySem.W.Fast.tw8243036080592354163 : Nat := 0
def PySem.W.Fast.tw15279979930530073804 : Nat := 0
def PySem.W.Fast.tw5654037200298099112 : Nat := 0
def PySem.W.Fast.tw11288067196223456612 : Nat := 0
def PySem.W.Fast.tw2609648665992499607 : Nat := 0
def PySem.W.Fast.tw6829842243256614396 : Nat := 0
def PySem.W.Fast.tw10067864147462054586 : Nat := 0
def PySem.W.Fast.tw16501298229492747754 : Nat := 0
def PySem.W.Fast.tw4823228703329524367 : Nat := 0
def PySem.W.Fast.tw6278575490301603758 : Nat := 0
def PySem.W.Fast.tw894623502677465912 : Nat := 0
def PySem.W.Fast.tw5918294973977209571 : Nat := 0
def PySem.W.Fast.tw2288871141619787593 : Nat := 0
def PySem.W.Fast.tw1932910476193913141 : Nat := 0
def PySem.W.Fast.tw14573233278636131797 : Nat := 0
def PySem.W.Fast.tw11033004994904611551 : Nat := 0
def PySem.W.Fast.tw4989178397845938973 : Nat := 0
def PySem.W.Fast.tw719995560293661287 : Nat := 0
def PySem.W.Fast.tw6029159930557879810 : Nat := 0
def PySem.W.Fast.tw14458029158041112394 : Nat := 0
def PySem.W.Fast.tw11419567157005521891 : Nat := 0
def PySem.W.Fast.tw1251435902623646677 : Nat := 0
def PySem.W.Fast.tw4589491550648123993 : Nat := 0
def PySem.W.Fast.tw8471608501068427362 : Nat := 0
def PySem.W.Fast.tw2103001421478431810 : Nat := 0
def PySem.W.Fast.tw6694229989094722098 : Nat := 0
def PySem.W.Fast.tw10950502864136361778 : Nat := 0
def PySem.W.Fast.tw5810873443551168188 : Nat := 0
def PySem.W.Fast.tw1095375917219154550 : Nat := 0
def PySem.W.Fast.tw5017866943662141195 : Nat := 0
def PySem.W.Fast.tw13678260329672425306 : Nat := 0
def PySem.W.Fast.tw3323624644218360563 : Nat := 0
def PySem.W.Fast.tw10363303504686692416 : Nat := 0
def PySem.W.Fast.tw40480879228654106 : Nat := 0
def PySem.W.Fast.tw3709097451645436799 : Nat := 0
def PySem.W.Fast.tw1703785631880250617 : Nat := 0
def PySem.W.Fast.tw6748047494216555947 : Nat := 0
def PySem.W.Fast.tw18180307663929066230 : Nat := 0
def PySem.W.Fast.tw14763502719089840514 : Nat := 0
def PySem.W.Fast.tw18210829770483794720 : Nat := 0
def PySem.W.Fast.tw12526910193415206127 : Nat := 0
def PySem.W.Fast.tw1874320356327658451 : Nat := 0
def PySem.W.Fast.tw12543917066205422822 : Nat := 0
def PySem.W.Fast.tw598783818757838119 : Nat := 0
def PySem.W.Fast.tw15349542322807720969 : Nat := 0
def PySem.W.Fast.tw4428119902836890408 : Nat := 0
def PySem.W.Fast.tw7016868076585913478 : Nat := 0
def PySem.W.Fast.tw17206295826872876830 : Nat := 0
def PySem.W.Fast.tw4786517910120117350 : Nat := 0
def PySem.W.Fast.tw11246933715234026242 : Nat := 0
def PySem.W.Fast.tw5902733477075578656 : Nat := 0
def PySem.W.Fast.tw12720283174322456377 : Nat := 0
def PySem.W.Fast.tw9560224771899324603 : Nat := 0
def PySem.W.Fast.tw2472197474898089434 : Nat := 0
def PySem.W.Fast.tw11544158482714468419 : Nat := 0
def PySem.W.Fast.tw4733222228540032553 : Nat := 0
def PySem.W.Fast.tw13878051410212297494 : Nat := 0
def PySem.W.Fast.tw7371679237649015863 : Nat := 0
def PySem.W.Fast.tw184342938547902760 : Nat := 0
def PySem.W.Fast.tw10968112980184044286 : Nat := 0
def PySem.W.Fast.tw8673748165810152045 : Nat := 0
def PySem.W.Fast.tw5232932866169198777 : Nat := 0
def PySem.W.Fast.tw5754699150169683995 : Nat := 0
def PySem.W.Fast.tw1745386356175764952 : Nat := 0
def PySem.W.Fast.tw15525097830477082937 : Nat := 0
def PySem.W.Fast.tw2644092349880623283 : Nat := 0
def PySem.W.Fast.tw3220853841062746510 : Nat := 0
def PySem.W.Fast.tw17892503093575400683 : Nat := 0
def PySem.W.Fast.tw12603024598555085567 : Nat := 0
def PySem.W.Fast.tw4433578589387149375 : Nat := 0
def PySem.W.Fast.tw2010731599963134867 : Nat := 0
def PySem.W.Fast.tw18105250320597502938 : Nat := 0
def PySem.W.Fast.tw1557635468918364184 : Nat := 0
def PySem.W.Fast.tw6073853750373276045 : Nat := 0
def PySem.W.Fast.tw8464683615571110985 : Nat := 0
def PySem.W.Fast.tw6690041707445736081 : Nat := 0
def PySem.W.Fast.tw1450493104949737472 : Nat := 0
def PySem.W.Fast.tw13697333825635168823 : Nat := 0
def PySem.W.Fast.tw7502829902644383272 : Nat := 0
def PySem.W.Fast.tw7351018652883733787 : Nat := 0
def PySem.W.Fast.tw16298838454004288040 : Nat := 0
def PySem.W.Fast.tw4438527766146402255 : Nat := 0
def PySem.W.Fast.tw17650977392987361005 : Nat := 0
def PySem.W.Fast.tw5713365758686812479 : Nat := 0
def PySem.W.Fast.tw2512116733014770021 : Nat := 0
def PySem.W.Fast.tw8891187653750552451 : Nat := 0
def PySem.W.Fast.tw2793567637521160113 : Nat := 0
def PySem.W.Fast.tw9984115831945847788 : Nat := 0
def PySem.W.Fast.tw13412667435923768518 : Nat := 0
def PySem.W.Fast.tw17713876058908971248 : Nat := 0
def PySem.W.Fast.tw18259226099503042369 : Nat := 0
def PySem.W.Fast.tw9825336446852647329 : Nat := 0
def PySem.W.Fast.tw2661545315224958749 : Nat := 0
def PySem.W.Fast.tw11551232024999827298 : Nat := 0
def PySem.W.Fast.tw17776094601186396955 : Nat := 0
def PySem.W.Fast.tw7389782173028525027 : Nat := 0
def PySem.W.Fast.tw6934074271858278834 : Nat := 0
def PySem.W.Fast.tw1932994645751499431 : Nat := 0
def PySem.W.Fast.tw14287517882041559860 : Nat := 0
def PySem.W.Fast.tw8410794468300140350 : Nat := 0
def PySem.W.Fast.tw2208600793966349733 : Nat := 0
def PySem.W.Fast.tw18368691921714903457 : Nat := 0
def PySem.W.Fast.tw7491225006915403978 : Nat := 0
def PySem.W.Fast.tw14507470902852149754 : Nat := 0
def PySem.W.Fast.tw4345880680142811112 : Nat := 0
def PySem.W.Fast.tw8104360191079856155 : Nat := 0
def PySem.W.Fast.tw14735616941297954204 : Nat := 0
def PySem.W.Fast.tw17602227037396827597 : Nat := 0
def PySem.W.Fast.tw14721747557323373190 : Nat := 0
def PySem.W.Fast.tw15683234358015435766 : Nat := 0
def PySem.W.Fast.tw6979938689773833727 : Nat := 0
def PySem.W.Fast.tw12778411199469267831 : Nat := 0
def PySem.W.Fast.tw18445274970944355463 : Nat := 0
def PySem.W.Fast.tw9560577610759363235 : Nat := 0
def PySem.W.Fast.tw8160231094340131599 : Nat := 0
def PySem.W.Fast.tw2198267824475149506 : Nat := 0
def PySem.W.Fast.tw3978519021158611913 : Nat := 0
def PySem.W.Fast.tw940978392501006952 : Nat := 0
def PySem.W.Fast.tw9031459865118051317 : Nat := 0
def PySem.W.Fast.tw370926728613252127 : Nat := 0
def PySem.W.Fast.tw1751622964862741797 : Nat := 0
def PySem.W.Fast.tw10025967289676343165 : Nat := 0
def PySem.W.Fast.tw17301286756602318044 : Nat := 0
def PySem.W.Fast.tw11118385908289028357 : Nat := 0
def PySem.W.Fast.tw2812981152942365824 : Nat := 0
def PySem.W.Fast.tw12343394711630352413 : Nat := 0
def PySem.W.Fast.tw17270125666768164654 : Nat := 0
def PySem.W.Fast.tw7049167110445624189 : Nat := 0
def PySem.W.Fast.tw17921657990340538426 : Nat := 0
def PySem.W.Fast.tw7986964289254964750 : Nat := 0
def PySem.W.Fast.tw1831065836929592819 : Nat := 0
def PySem.W.Fast.tw6132383589242961340 : Nat := 0
def PySem.W.Fast.tw6056821287928135014 : Nat := 0
def PySem.W.Fast.tw15387503163794892266 : Nat := 0
def PySem.W.Fast.tw4645045561186716480 : Nat := 0
def PySem.W.Fast.tw18390085160038669333 : Nat := 0
def PySem.W.Fast.tw8703661915653604984 : Nat := 0
def PySem.W.Fast.tw17504877211273660671 : Nat := 0
def PySem.W.Fast.tw1507165393676312394 : Nat := 0
def PySem.W.Fast.tw1316385719200845700 : Nat := 0
def PySem.W.Fast.tw15293348561781298990 : Nat := 0
def PySem.W.Fast.tw11905513076488515254 : Nat := 0
def PySem.W.Fast.tw11188120885775659710 : Nat := 0
def PySem.W.Fast.tw11402535932703356638 : Nat := 0
def PySem.W.Fast.tw1644015476455554827 : Nat := 0
def PySem.W.Fast.tw16129830234784131391 : Nat := 0
def PySem.W.Fast.tw13666681642023251258 : Nat := 0
def PySem.W.Fast.tw13652507251381434132 : Nat := 0
def PySem.W.Fast.tw5905339036974299549 : Nat := 0
def PySem.W.Fast.tw7809318747648243164 : Nat := 0
def PySem.W.Fast.tw10149194804319767071 : Nat := 0
def PySem.W.Fast.tw17385602823514757932 : Nat := 0
def PySem.W.Fast.tw17802842771821216314 : Nat := 0
def PySem.W.Fast.tw13488667607471291827 : Nat := 0
def PySem.W.Fast.tw17130022704425453144 : Nat := 0
def PySem.W.Fast.tw15773897623536163766 : Nat := 0
def PySem.W.Fast.tw1705053391366848041 : Nat := 0
def PySem.W.Fast.tw855886651421254366 : Nat := 0
def PySem.W.Fast.tw5352433438616781211 : Nat := 0
def PySem.W.Fast.tw16088544884818279740 : Nat := 0
def PySem.W.Fast.tw147941563510886520 : Nat := 0
def PySem.W.Fast.tw3993414999842073512 : Nat := 0
def PySem.W.Fast.tw10352300322337681698 : Nat := 0
def PySem.W.Fast.tw4015488933287438626 : Nat := 0
def PySem.W.Fast.tw13986400925509066793 : Nat := 0
def PySem.W.Fast.tw17246530478532963901 : Nat := 0
def PySem.W.Fast.tw16252813734946388857 : Nat := 0
def PySem.W.Fast.tw15233992425330240946 : Nat := 0
def PySem.W.Fast.tw2420427781674948863 : Nat := 0
def PySem.W.Fast.tw9664537994646733001 : Nat := 0
def PySem.W.Fast.tw279486387848559011 : Nat := 0
def PySem.W.Fast.tw10267028274562974281 : Nat := 0
def PySem.W.Fast.tw9785209982569340877 : Nat := 0
def PySem.W.Fast.tw13749636248176926877 : Nat := 0
def PySem.W.Fast.tw8743214532852353451 : Nat := 0
def PySem.W.Fast.tw11592268087198491314 : Nat := 0
def PySem.W.Fast.tw8134511734278041787 : Nat := 0
def PySem.W.Fast.tw1762590030367461108 : Nat := 0
def PySem.W.Fast.tw10377339913473569739 : Nat := 0
def PySem.W.Fast.tw9983758226436341848 : Nat := 0
def PySem.W.Fast.tw10720553448354382679 : Nat := 0
def PySem.W.Fast.tw871576072474687726 : Nat := 0
def PySem.W.Fast.tw6267473206356408739 : Nat := 0
def PySem.W.Fast.tw18336093614451391770 : Nat := 0
def PySem.W.Fast.tw489309753513029925 : Nat := 0
def PySem.W.Fast.tw1691497121877341573 : Nat := 0
def PySem.W.Fast.tw5998104543291903964 : Nat := 0
def PySem.W.Fast.tw1512381871155523087 : Nat := 0
def PySem.W.Fast.tw657914666929556067 : Nat := 0
def PySem.W.Fast.tw259464657041921327 : Nat := 0
def PySem.W.Fast.tw334075680381537557 : Nat := 0
def PySem.W.Fast.tw17315206281060522417 : Nat := 0
def PySem.W.Fast.tw5302617502041314314 : Nat := 0
def PySem.W.Fast.tw11801793801776951911 : Nat := 0
def PySem.W.Fast.tw14704596336605350057 : Nat := 0
def PySem.W.Fast.tw16880404652032013547 : Nat := 0
def PySem.W.Fast.tw2044275178659340561 : Nat := 0
def PySem.W.Fast.tw10076194040819004768 : Nat := 0
def PySem.W.Fast.tw13681867786273107905 : Nat := 0
def PySem.W.Fast.tw5397528238519035975 : Nat := 0
def PySem.W.Fast.tw8147693067382098501 : Nat := 0
def PySem.W.Fast.tw5157406717558705422 : Nat := 0
def PySem.W.Fast.tw2049328679300374458 : Nat := 0
def PySem.W.Fast.tw15606237272414428438 : Nat := 0
def PySem.W.Fast.tw844587634852897816 : Nat := 0
def PySem.W.Fast.tw6857236509290118490 : Nat := 0
def PySem.W.Fast.tw3986943454379234746 : Nat := 0
def PySem.W.Fast.tw11131108620857756615 : Nat := 0
def PySem.W.Fast.tw18052387676639985390 : Nat := 0
def PySem.W.Fast.tw1171787567392208942 : Nat := 0
def PySem.W.Fast.tw4999012659162394288 : Nat := 0
def PySem.W.Fast.tw14115775158785397742 : Nat := 0
def PySem.W.Fast.tw15141831580854633201 : Nat := 0
def PySem.W.Fast.tw14061369872950586218 : Nat := 0
def PySem.W.Fast.tw14874778620969969727 : Nat := 0
def PySem.W.Fast.tw4632131900374049510 : Nat := 0
def PySem.W.Fast.tw3099461152432641979 : Nat := 0
def PySem.W.Fast.tw18392268939177709064 : Nat := 0
def PySem.W.Fast.tw6851294469037126816 : Nat := 0
def PySem.W.Fast.tw1592814710172030590 : Nat := 0
def PySem.W.Fast.tw13488353954427645799 : Nat := 0
def PySem.W.Fast.tw1849346590678502700 : Nat := 0
def PySem.W.Fast.tw14755067070035251497 : Nat := 0
def PySem.W.Fast.tw6253899278685143131 : Nat := 0
def PySem.W.Fast.tw3112614248577511070 : Nat := 0
def PySem.W.Fast.tw15224634239287610729 : Nat := 0
def PySem.W.Fast.tw10080182445561895254 : Nat := 0
def PySem.W.Fast.tw4120896732643016533 : Nat := 0
def PySem.W.Fast.tw10614586104073381982 : Nat := 0
def PySem.W.Fast.tw4541553475117050190 : Nat := 0
def PySem.W.Fast.tw11588266841951638521 : Nat := 0
def PySem.W.Fast.tw2562301293428060338 : Nat := 0
def PySem.W.Fast.tw9537216917265960351 : Nat := 0
def PySem.W.Fast.tw14131868350018646394 : Nat := 0
def PySem.W.Fast.tw15903561443076926488 : Nat := 0
def PySem.W.Fast.tw10670137793832885707 : Nat := 0
def PySem.W.Fast.tw17980919502854961495 : Nat := 0
def PySem.W.Fast.tw3072751703295863816 : Nat := 0
def PySem.W.Fast.tw9645862809440208321 : Nat := 0
def PySem.W.Fast.tw14837206591898555534 : Nat := 0
def PySem.W.Fast.tw14603313056083856552 : Nat := 0
def PySem.W.Fast.tw4816047872405590134 : Nat := 0
def PySem.W.Fast.tw9194791208608498895 : Nat := 0
def PySem.W.Fast.tw5502237780861067631 : Nat := 0
def PySem.W.Fast.tw6477276585645366297 : Nat := 0
def PySem.W.Fast.tw4221480159449026916 : Nat := 0
def PySem.W.Fast.tw16805586534506844114 : Nat := 0
def PySem.W.Fast.tw14596645067217865204 : Nat := 0
def PySem.W.Fast.tw8260105573056726274 : Nat := 0
def PySem.W.Fast.tw12338112023678257503 : Nat := 0
def PySem.W.Fast.tw16816596504132307372 : Nat := 0
def PySem.W.Fast.tw7753978282384952390 : Nat := 0
def PySem.W.Fast.tw14646659368386130291 : Nat := 0
def PySem.W.Fast.tw13176259748098716980 : Nat := 0
def PySem.W.Fast.tw13190698706981258753 : Nat := 0
def PySem.W.Fast.tw17146604097374235167 : Nat := 0
def PySem.W.Fast.tw522361564972104146 : Nat := 0
def PySem.W.Fast.tw3777856989586199744 : Nat := 0
def PySem.W.Fast.tw10361498159558155969 : Nat := 0
def PySem.W.Fast.tw9804246301290756908 : Nat := 0
def PySem.W.Fast.tw14141363099759885460 : Nat := 0
def PySem.W.Fast.tw12540063260417603971 : Nat := 0
def PySem.W.Fast.tw7131476029369493078 : Nat := 0
def PySem.W.Fast.tw8390133871952079029 : Nat := 0
def PySem.W.Fast.tw5861210322911227690 : Nat := 0
def PySem.W.Fast.tw7071939826590702935 : Nat := 0
def PySem.W.Fast.tw15278650986147459362 : Nat := 0
def PySem.W.Fast.tw8565319798379981743 : Nat := 0
def PySem.W.Fast.tw1557734286544142648 : Nat := 0
def PySem.W.Fast.tw5356702267962995650 : Nat := 0
def PySem.W.Fast.tw13487166022279417645 : Nat := 0
def PySem.W.Fast.tw2940236875607909040 : Nat := 0
def PySem.W.Fast.tw4596119311252575163 : Nat := 0
def PySem.W.Fast.tw74916176017525810 : Nat := 0
def PySem.W.Fast.tw7812463359933671923 : Nat := 0
def PySem.W.Fast.tw9894790334962254825 : Nat := 0
def PySem.W.Fast.tw1209254303348994571 : Nat := 0
def PySem.W.Fast.tw13118783933767093049 : Nat := 0
def PySem.W.Fast.tw1430681674716069524 : Nat := 0
def PySem.W.Fast.tw2253061428532752311 : Nat := 0
def PySem.W.Fast.tw10373527239367817977 : Nat := 0
def PySem.W.Fast.tw5430577747354234361 : Nat := 0
def PySem.W.Fast.tw15693345692147437224 : Nat := 0
def PySem.W.Fast.tw609652772353004176 : Nat := 0
def PySem.W.Fast.tw6227231037279336617 : Nat := 0
def PySem.W.Fast.tw2287804773184503252 : Nat := 0
def PySem.W.Fast.tw12152060455725730418 : Nat := 0
def PySem.W.Fast.tw375486454611352250 : Nat := 0
def PySem.W.Fast.tw16452131961823146051 : Nat := 0
def PySem.W.Fast.tw18028676008426804529 : Nat := 0
def PySem.W.Fast.tw5047610107477779986 : Nat := 0
def PySem.W.Fast.tw11521454673340072089 : Nat := 0
def PySem.W.Fast.tw14893274632267345864 : Nat := 0
def PySem.W.Fast.tw17925006213640227416 : Nat := 0
def PySem.W.Fast.tw13169782350839436456 : Nat := 0
def PySem.W.Fast.tw363601359125302431 : Nat := 0
def PySem.W.Fast.tw317893650841237981 : Nat := 0
def PySem.W.Fast.tw3098427280605111835 : Nat := 0
def PySem.W.Fast.tw16025262602615641131 : Nat := 0
def PySem.W.Fast.tw11408032380666881429 : Nat := 0
def PySem.W.Fast.tw10232525133190227295 : Nat := 0
def PySem.W.Fast.tw6727752093267081897 : Nat := 0
def PySem.W.Fast.tw15243070840277003481 : Nat := 0
def PySem.W.Fast.tw16658355263473495454 : Nat := 0
def PySem.W.Fast.tw9650060760308061844 : Nat := 0
def PySem.W.Fast.tw2002100895364266278 : Nat := 0
def PySem.W.Fast.tw13412922168353490737 : Nat := 0
def PySem.W.Fast.tw14022950548945504635 : Nat := 0
def PySem.W.Fast.tw14249086444847774035 : Nat := 0
def PySem.W.Fast.tw1780840656649865238 : Nat := 0
def PySem.W.Fast.tw10572662890000693424 : Nat := 0
def PySem.W.Fast.tw8304898252818137732 : Nat := 0
def PySem.W.Fast.tw4241466310822642006 : Nat := 0
def PySem.W.Fast.tw10915842142356269145 : Nat := 0
def PySem.W.Fast.tw4334226024646229359 : Nat := 0
def PySem.W.Fast.tw3779423295029861053 : Nat := 0
def PySem.W.Fast.tw9486305169025351981 : Nat := 0
def PySem.W.Fast.tw1347157191495603484 : Nat := 0
def PySem.W.Fast.tw16949509788478100653 : Nat := 0
def PySem.W.Fast.tw5942504827214749828 : Nat := 0
def PySem.W.Fast.tw4999185255189077008 : Nat := 0
def PySem.W.Fast.tw42582491515089585 : Nat := 0
def PySem.W.Fast.tw14262491987666927075 : Nat := 0
def PySem.W.Fast.tw15725930684697759968 : Nat := 0
def PySem.W.Fast.tw9705159992305082117 : Nat := 0
def PySem.W.Fast.tw1310831242473847535 : Nat := 0
def PySem.W.Fast.tw3552976066067240893 : Nat := 0
def PySem.W.Fast.tw15317608720383100005 : Nat := 0
def PySem.W.Fast.tw8877543188456629235 : Nat := 0
def PySem.W.Fast.tw8967033946407618076 : Nat := 0
def PySem.W.Fast.tw12095051656918193904 : Nat := 0
def PySem.W.Fast.tw4618752053865778626 : Nat := 0
def PySem.W.Fast.tw9101514616677544571 : Nat := 0
def PySem.W.Fast.tw7241451927565363849 : Nat := 0
def PySem.W.Fast.tw4238333857736044009 : Nat := 0
def PySem.W.Fast.tw2982006526182591317 : Nat := 0
def PySem.W.Fast.tw132442712684653387 : Nat := 0
def PySem.W.Fast.tw3863623981269871114 : Nat := 0
def PySem.W.Fast.tw4045500910130527870 : Nat := 0
def PySem.W.Fast.tw9132318168967114340 : Nat := 0
def PySem.W.Fast.tw7949063036940496865 : Nat := 0
def PySem.W.Fast.tw1132385644397359255 : Nat := 0
def PySem.W.Fast.tw17135622661278386599 : Nat := 0
def PySem.W.Fast.tw5360903580310181751 : Nat := 0
def PySem.W.Fast.tw16636346668697292371 : Nat := 0
def PySem.W.Fast.tw2785355465915654553 : Nat := 0
def PySem.W.Fast.tw3251623160581508395 : Nat := 0
def PySem.W.Fast.tw8062683248488855218 : Nat := 0
def PySem.W.Fast.tw11966997425044676423 : Nat := 0
def PySem.W.Fast.tw11758426695884470303 : Nat := 0
def PySem.W.Fast.tw11354009474761048642 : Nat := 0
def PySem.W.Fast.tw9828638531910518339 : Nat := 0
def PySem.W.Fast.tw6493001071938124558 : Nat := 0
def PySem.W.Fast.tw13670662624515874601 : Nat := 0
def PySem.W.Fast.tw16377045166347766316 : Nat := 0
def PySem.W.Fast.tw16621100949904838751 : Nat := 0
def PySem.W.Fast.tw6256148358760023074 : Nat := 0
def PySem.W.Fast.tw11725151546026172468 : Nat := 0
def PySem.W.Fast.tw4613742080831459596 : Nat := 0
def PySem.W.Fast.tw17648083968066532486 : Nat := 0
def PySem.W.Fast.tw8224580588125050132 : Nat := 0
def PySem.W.Fast.tw14463799736141267302 : Nat := 0
def PySem.W.Fast.tw13466543763857272094 : Nat := 0
def PySem.W.Fast.tw15564407483153689889 : Nat := 0
def PySem.W.Fast.tw1485372997492710106 : Nat := 0
def PySem.W.Fast.tw16544175789435161492 : Nat := 0
def PySem.W.Fast.tw6669354397120430581 : Nat := 0
def PySem.W.Fast.tw16123948677146203432 : Nat := 0
def PySem.W.Fast.tw14941571726048660244 : Nat := 0
def PySem.W.Fast.tw7357338300673232105 : Nat := 0
def PySem.W.Fast.tw11149269775855758782 : Nat := 0
def PySem.W.Fast.tw10181486445815402663 : Nat := 0
def PySem.W.Fast.tw12242126373432075811 : Nat := 0
def PySem.W.Fast.tw15752017914234908871 : Nat := 0
def PySem.W.Fast.tw13288786693787352487 : Nat := 0
def PySem.W.Fast.tw4918953944721446277 : Nat := 0
def PySem.W.Fast.tw14875899384287943545 : Nat := 0
def PySem.W.Fast.tw7842981320103011671 : Nat := 0
def PySem.W.Fast.tw16207315316210903083 : Nat := 0
def PySem.W.Fast.tw5643657349918083770 : Nat := 0
def PySem.W.Fast.tw12107239815005670314 : Nat := 0
def PySem.W.Fast.tw9414971212690457941 : Nat := 0
def PySem.W.Fast.tw2548541897630047231 : Nat := 0
def PySem.W.Fast.tw9684465505676811552 : Nat := 0
def PySem.W.Fast.tw13140853348950804226 : Nat := 0
def PySem.W.Fast.tw18305525374013073844 : Nat := 0
def PySem.W.Fast.tw16668407367798095498 : Nat := 0
def PySem.W.Fast.tw7007136155274478552 : Nat := 0
def PySem.W.Fast.tw15951807091738953231 : Nat := 0
def PySem.W.Fast.tw2142249278767558130 : Nat := 0
def PySem.W.Fast.tw5722352831763179509 : Nat := 0
def PySem.W.Fast.tw8896323731315826441 : Nat := 0
def PySem.W.Fast.tw752818492908923308 : Nat := 0
def PySem.W.Fast.tw16654747535645306638 : Nat := 0
def PySem.W.Fast.tw15703408061734759027 : Nat := 0
def PySem.W.Fast.tw16985323117222244806 : Nat := 0
def PySem.W.Fast.tw9003909468553639766 : Nat := 0
def PySem.W.Fast.tw16221428926819878883 : Nat := 0
def PySem.W.Fast.tw15251674435801675410 : Nat := 0
def PySem.W.Fast.tw11786884239223835317 : Nat := 0
def PySem.W.Fast.tw4623351148236817628 : Nat := 0
def PySem.W.Fast.tw754861204962196877 : Nat := 0
def PySem.W.Fast.tw14851398905828308861 : Nat := 0
def PySem.W.Fast.tw7424243530974988962 : Nat := 0
def PySem.W.Fast.tw16367318313829226628 : Nat := 0
def PySem.W.Fast.tw5631246658803337616 : Nat := 0
def PySem.W.Fast.tw11602319249669732286 : Nat := 0
def PySem.W.Fast.tw4040576837690395009 : Nat := 0
def PySem.W.Fast.tw2320237467281123484 : Nat := 0
def PySem.W.Fast.tw2436440217919506474 : Nat := 0
def PySem.W.Fast.tw16478149897943609185 : Nat := 0
def PySem.W.Fast.tw5702255874582630570 : Nat := 0
def PySem.W.Fast.tw15188485319866094568 : Nat := 0
def PySem.W.Fast.tw9302426618536848549 : Nat := 0
def PySem.W.Fast.tw13836329731135906319 : Nat := 0
def PySem.W.Fast.tw10641245577931762394 : Nat := 0
def PySem.W.Fast.tw6385427062178063987 : Nat := 0
def PySem.W.Fast.tw16575942795744241344 : Nat := 0
def PySem.W.Fast.tw16329962152057343223 : Nat := 0
def PySem.W.Fast.tw5849922314228056057 : Nat := 0
def PySem.W.Fast.tw8380508217444251003 : Nat := 0
def PySem.W.Fast.tw6664646384549304318 : Nat := 0
def PySem.W.Fast.tw12896303275229626924 : Nat := 0
def PySem.W.Fast.tw5731617084192255381 : Nat := 0
def PySem.W.Fast.tw10662581711364660445 : Nat := 0
def PySem.W.Fast.tw5144816177837296493 : Nat := 0
def PySem.W.Fast.tw10192815757770410625 : Nat := 0
def PySem.W.Fast.tw12915284637470534797 : Nat := 0
def PySem.W.Fast.tw8855803582300533715 : Nat := 0
def PySem.W.Fast.tw9248106245262846977 : Nat := 0
def PySem.W.Fast.tw6590811645980776601 : Nat := 0
def PySem.W.Fast.tw7527733732099955494 : Nat := 0
def PySem.W.Fast.tw17401763750074480674 : Nat := 0
def PySem.W.Fast.tw4307275137578689480 : Nat := 0
def PySem.W.Fast.tw1801252816502938297 : Nat := 0
def PySem.W.Fast.tw3596878295290761980 : Nat := 0
def PySem.W.Fast.tw6045983896970985295 : Nat := 0
def PySem.W.Fast.tw1490402857558844921 : Nat := 0
def PySem.W.Fast.tw14116896997236926894 : Nat := 0
def PySem.W.Fast.tw12536669292964322285 : Nat := 0
def PySem.W.Fast.tw8199711200102349620 : Nat := 0
def PySem.W.Fast.tw16406928703279798369 : Nat := 0
def PySem.W.Fast.tw1833603792552696900 : Nat := 0
def PySem.W.Fast.tw6694557168757715265 : Nat := 0
def PySem.W.Fast.tw17473459951894381772 : Nat := 0
def PySem.W.Fast.tw14014580771789657848 : Nat := 0
def PySem.W.Fast.tw361721369619039043 : Nat := 0
def PySem.W.Fast.tw12676536532798846492 : Nat := 0
def PySem.W.Fast.tw9500119638225938660 : Nat := 0
def PySem.W.Fast.tw17325708101585550312 : Nat := 0
def PySem.W.Fast.tw8135940796339099925 : Nat := 0
def PySem.W.Fast.tw3051158042118012138 : Nat := 0
def PySem.W.Fast.tw6772451962028603499 : Nat := 0
def PySem.W.Fast.tw3591480782605023092 : Nat := 0
def PySem.W.Fast.tw11695258325312279057 : Nat := 0
def PySem.W.Fast.tw4169401606028717553 : Nat := 0
def PySem.W.Fast.tw14115325625274732405 : Nat := 0
def PySem.W.Fast.tw10415369319385002910 : Nat := 0
def PySem.W.Fast.tw9954151262022951309 : Nat := 0
def PySem.W.Fast.tw16672673355794144083 : Nat := 0
def PySem.W.Fast.tw404180862114442917 : Nat := 0
def PySem.W.Fast.tw18390522667834604062 : Nat := 0
def PySem.W.Fast.tw6031918778620778468 : Nat := 0
def PySem.W.Fast.tw16958356012170756823 : Nat := 0
def PySem.W.Fast.tw4532755851758718371 : Nat := 0
def PySem.W.Fast.tw5689845158143724296 : Nat := 0
def PySem.W.Fast.tw623658821575613354 : Nat := 0
def PySem.W.Fast.tw3736640522996519460 : Nat := 0
def PySem.W.Fast.tw15648882950061188025 : Nat := 0
def PySem.W.Fast.tw8336789081449085154 : Nat := 0
def PySem.W.Fast.tw17096786563098734962 : Nat := 0
def PySem.W.Fast.tw13060518577179070089 : Nat := 0
def PySem.W.Fast.tw18008073514281504581 : Nat := 0
def PySem.W.Fast.tw5133368127683619028 : Nat := 0
def PySem.W.Fast.tw15945972835439612350 : Nat := 0
def PySem.W.Fast.tw17232711241778150225 : Nat := 0
def PySem.W.Fast.tw17545406173692139582 : Nat := 0
def PySem.W.Fast.tw8526960878593040554 : Nat := 0
def PySem.W.Fast.tw7934004162346244408 : Nat := 0
def PySem.W.Fast.tw3472366468443823201 : Nat := 0
def PySem.W.Fast.tw5039547940896878498 : Nat := 0
def PySem.W.Fast.tw4170724674626989248 : Nat := 0
def PySem.W.Fast.tw14059321469592897995 : Nat := 0
def PySem.W.Fast.tw210165249553004737 : Nat := 0
def PySem.W.Fast.tw11903780521483576235 : Nat := 0
def PySem.W.Fast.tw13768520598078657210 : Nat := 0
def PySem.W.Fast.tw2879493341512878977 : Nat := 0
def PySem.W.Fast.tw5941799506714609611 : Nat := 0
def PySem.W.Fast.tw7816919556691755443 : Nat := 0
def PySem.W.Fast.tw2573731111869407580 : Nat := 0
def PySem.W.Fast.tw29258824029049221 : Nat := 0
def PySem.W.Fast.tw12766440392964685593 : Nat := 0
def PySem.W.Fast.tw11789567753222907121 : Nat := 0
def PySem.W.Fast.tw17921604015161658486 : Nat := 0
def PySem.W.Fast.tw7233921877659476625 : Nat := 0
def PySem.W.Fast.tw1883282116162214776 : Nat := 0
def PySem.W.Fast.tw12177371860541888033 : Nat := 0
def PySem.W.Fast.tw10235388324304088028 : Nat := 0
def PySem.W.Fast.tw6477854764327380963 : Nat := 0
def PySem.W.Fast.tw4017496867527683176 : Nat := 0
def PySem.W.Fast.tw1268210334952536258 : Nat := 0
def PySem.W.Fast.tw2275535967906306696 : Nat := 0
def PySem.W.Fast.tw4065316030891930771 : Nat := 0
def PySem.W.Fast.tw15621499258721556305 : Nat := 0
def PySem.W.Fast.tw1026164580365870773 : Nat := 0
def PySem.W.Fast.tw4411252923317352515 : Nat := 0
def PySem.W.Fast.tw3035779387312866876 : Nat := 0
def PySem.W.Fast.tw7017869689791392246 : Nat := 0
def PySem.W.Fast.tw12312592432493709508 : Nat := 0
def PySem.W.Fast.tw12670307898768079089 : Nat := 0
def PySem.W.Fast.tw3610855716327848997 : Nat := 0
def PySem.W.Fast.tw15817667539597621562 : Nat := 0
def PySem.W.Fast.tw9399932264335617309 : Nat := 0
def PySem.W.Fast.tw8536597852950366107 : Nat := 0
def PySem.W.Fast.tw16860363213166400254 : Nat := 0
def PySem.W.Fast.tw10117383633224626878 : Nat := 0
def PySem.W.Fast.tw5305021409046258561 : Nat := 0
def PySem.W.Fast.tw6749905845822514232 : Nat := 0
def PySem.W.Fast.tw4526166803602838686 : Nat := 0
def PySem.W.Fast.tw15656350556486678880 : Nat := 0
def PySem.W.Fast.tw18134628448953856403 : Nat := 0
def PySem.W.Fast.tw13652398625176770878 : Nat := 0
def PySem.W.Fast.tw4348452114442288377 : Nat := 0
def PySem.W.Fast.tw3960532714494313736 : Nat := 0
def PySem.W.Fast.tw572998957253879781 : Nat := 0
def PySem.W.Fast.tw1000390720863821577 : Nat := 0
def PySem.W.Fast.tw2837650763744821669 : Nat := 0
def PySem.W.Fast.tw420780867287421721 : Nat := 0
def PySem.W.Fast.tw8404446514221010114 : Nat := 0
def PySem.W.Fast.tw9385148497211035596 : Nat := 0
def PySem.W.Fast.tw4483520757871667163 : Nat := 0
def PySem.W.Fast.tw15752140933678121499 : Nat := 0
def PySem.W.Fast.tw9126893717747305438 : Nat := 0
def PySem.W.Fast.tw11366186113991550098 : Nat := 0
def PySem.W.Fast.tw17137637439303264253 : Nat := 0
def PySem.W.Fast.tw12359314063457985345 : Nat := 0
def PySem.W.Fast.tw7834562559845948236 : Nat := 0
def PySem.W.Fast.tw2785828694769609300 : Nat := 0
def PySem.W.Fast.tw2247000952566813771 : Nat := 0
def PySem.W.Fast.tw1756365328774195542 : Nat := 0
def PySem.W.Fast.tw2504620083594471534 : Nat := 0
def PySem.W.Fast.tw6463058028456398889 : Nat := 0
def PySem.W.Fast.tw18087698507569407402 : Nat := 0
def PySem.W.Fast.tw9979935830665828123 : Nat := 0
def PySem.W.Fast.tw398110836879821179 : Nat := 0
def PySem.W.Fast.tw7808489434108054903 : Nat := 0
def PySem.W.Fast.tw13905368913387275494 : Nat := 0
def PySem.W.Fast.tw10040476362769650959 : Nat := 0
def PySem.W.Fast.tw8088200051831914959 : Nat := 0
def PySem.W.Fast.tw17421710334207694642 : Nat := 0
def PySem.W.Fast.tw5847403946247757106 : Nat := 0
def PySem.W.Fast.tw14027742640160058338 : Nat := 0
def PySem.W.Fast.tw12320871718426794957 : Nat := 0
def PySem.W.Fast.tw5814132950663357893 : Nat := 0
def PySem.W.Fast.tw14167129036599529830 : Nat := 0
def PySem.W.Fast.tw5089778067249422715 : Nat := 0
def PySem.W.Fast.tw3527612214416134929 : Nat := 0
def PySem.W.Fast.tw15359819181204701753 : Nat := 0
def PySem.W.Fast.tw8284130764969904644 : Nat := 0
def PySem.W.Fast.tw12671464819221187027 : Nat := 0
def PySem.W.Fast.tw1280961015114786114 : Nat := 0
def PySem.W.Fast.tw13372947440141459587 : Nat := 0
def PySem.W.Fast.tw13646350281300307259 : Nat := 0
def PySem.W.Fast.tw10686724804609968586 : Nat := 0
def PySem.W.Fast.tw13023381391290131251 : Nat := 0
def PySem.W.Fast.tw2270533614088628871 : Nat := 0
def PySem.W.Fast.tw17128507198806845333 : Nat := 0
def PySem.W.Fast.tw10487776881079755168 : Nat := 0
def PySem.W.Fast.tw2943359209918750952 : Nat := 0
def PySem.W.Fast.tw11839203269597629142 : Nat := 0
def PySem.W.Fast.tw13018042608313328977 : Nat := 0
def PySem.W.Fast.tw15556437888537812751 : Nat := 0
def PySem.W.Fast.tw17945712210942226631 : Nat := 0
def PySem.W.Fast.tw14562637877964021629 : Nat := 0
def PySem.W.Fast.tw919695581995946422 : Nat := 0
def PySem.W.Fast.tw7523655415891391612 : Nat := 0
def PySem.W.Fast.tw1187541787971277090 : Nat := 0
def PySem.W.Fast.tw17628607339128553254 : Nat := 0
def PySem.W.Fast.tw10662011881242713896 : Nat := 0
def PySem.W.Fast.tw12906213667137098137 : Nat := 0
def PySem.W.Fast.tw12417971880680711813 : Nat := 0
def PySem.W.Fast.tw14258223537950199511 : Nat := 0
def PySem.W.Fast.tw15319313622187855485 : Nat := 0
def PySem.W.Fast.tw17006296612165903484 : Nat := 0
def PySem.W.Fast.tw7376845332559033686 : Nat := 0
def PySem.W.Fast.tw6997713364437161731 : Nat := 0
def PySem.W.Fast.tw12753443613383492441 : Nat := 0
def PySem.W.Fast.tw14895107556027123496 : Nat := 0
def PySem.W.Fast.tw1233266093346677530 : Nat := 0
def PySem.W.Fast.tw977487342807883748 : Nat := 0
def PySem.W.Fast.tw2003736928437736765 : Nat := 0
def PySem.W.Fast.tw6577606136269930770 : Nat := 0
def PySem.W.Fast.tw10285661839932512234 : Nat := 0
def PySem.W.Fast.tw14172667966225130583 : Nat := 0
def PySem.W.Fast.tw1472446574385635636 : Nat := 0
def PySem.W.Fast.tw13359773482788062904 : Nat := 0
def PySem.W.Fast.tw17090946363540504003 : Nat := 0
def PySem.W.Fast.tw4226208646947804529 : Nat := 0
def PySem.W.Fast.tw9660533360000973839 : Nat := 0
def PySem.W.Fast.tw5922262491766860193 : Nat := 0
def PySem.W.Fast.tw18139932048483466130 : Nat := 0
def PySem.W.Fast.tw12451700828732180859 : Nat := 0
def PySem.W.Fast.tw15241085850192005731 : Nat := 0
def PySem.W.Fast.tw7065062419276437841 : Nat := 0
def PySem.W.Fast.tw4465370521667856168 : Nat := 0
def PySem.W.Fast.tw11902639909987837675 : Nat := 0
def PySem.W.Fast.tw15435009644475605530 : Nat := 0
def PySem.W.Fast.tw14100409644873010043 : Nat := 0
def PySem.W.Fast.tw15000186260724784968 : Nat := 0
def PySem.W.Fast.tw10768755694564245692 : Nat := 0
def PySem.W.Fast.tw13837563292101081676 : Nat := 0
def PySem.W.Fast.tw8851394817445135417 : Nat := 0
def PySem.W.Fast.tw4660250772537452658 : Nat := 0
def PySem.W.Fast.tw6985914127610944129 : Nat := 0
def PySem.W.Fast.tw2748060285782550856 : Nat := 0
def PySem.W.Fast.tw17920974351460650335 : Nat := 0
def PySem.W.Fast.tw13200679697902437842 : Nat := 0
def PySem.W.Fast.tw9076021416115206262 : Nat := 0
def PySem.W.Fast.tw13122699997259008144 : Nat := 0
def PySem.W.Fast.tw1114848641676181282 : Nat := 0
def PySem.W.Fast.tw11240854523731059265 : Nat := 0
def PySem.W.Fast.tw6446100113089480243 : Nat := 0
def PySem.W.Fast.tw5425657737453817890 : Nat := 0
def PySem.W.Fast.tw9410141282043139074 : Nat := 0
def PySem.W.Fast.tw9354298265103434977 : Nat := 0
def PySem.W.Fast.tw12976510980144310946 : Nat := 0
def PySem.W.Fast.tw15825622335233232869 : Nat := 0
def PySem.W.Fast.tw12882367517331564968 : Nat := 0
def PySem.W.Fast.tw16992051132127286988 : Nat := 0
def PySem.W.Fast.tw3480220340758322402 : Nat := 0
def PySem.W.Fast.tw18408983151714460010 : Nat := 0
def PySem.W.Fast.tw6639014594135783236 : Nat := 0
def PySem.W.Fast.tw1144473151723775268 : Nat := 0
def PySem.W.Fast.tw16987572513098404180 : Nat := 0
def PySem.W.Fast.tw18014245760770795999 : Nat := 0
def PySem.W.Fast.tw2740688082810306085 : Nat := 0
def PySem.W.Fast.tw12472389499655415239 : Nat := 0
def PySem.W.Fast.tw18298522291675997687 : Nat := 0
def PySem.W.Fast.tw9175294301006806921 : Nat := 0
def PySem.W.Fast.tw13846467645155319296 : Nat := 0
def PySem.W.Fast.tw8617273566008042942 : Nat := 0
def PySem.W.Fast.tw1404088352617635174 : Nat := 0
def PySem.W.Fast.tw17431705940158144656 : Nat := 0
def PySem.W.Fast.tw8354287875319894859 : Nat := 0
def PySem.W.Fast.tw7150542207403474585 : Nat := 0
def PySem.W.Fast.tw11017386281076723601 : Nat := 0
def PySem.W.Fast.tw1046663097314872816 : Nat := 0
def PySem.W.Fast.tw5640680524485960479 : Nat := 0
def PySem.W.Fast.tw8070184803427652598 : Nat := 0
def PySem.W.Fast.tw3122295737222022192 : Nat := 0
def PySem.W.Fast.tw16597171500440400924 : Nat := 0
def PySem.W.Fast.tw6166816313013566579 : Nat := 0
def PySem.W.Fast.tw13227435921436186906 : Nat := 0
def PySem.W.Fast.tw17343175928625278621 : Nat := 0
def PySem.W.Fast.tw11351178394287159682 : Nat := 0
def PySem.W.Fast.tw14619470312399316156 : Nat := 0
def PySem.W.Fast.tw3933695865602957423 : Nat := 0
def PySem.W.Fast.tw7922788106891334988 : Nat := 0
def PySem.W.Fast.tw10711555351370766331 : Nat := 0
def PySem.W.Fast.tw7678273804097976904 : Nat := 0
def PySem.W.Fast.tw300338904923912156 : Nat := 0
def PySem.W.Fast.tw4251977296107995033 : Nat := 0
def PySem.W.Fast.tw6392636732017442115 : Nat := 0
def PySem.W.Fast.tw9587866725592100656 : Nat := 0
def PySem.W.Fast.tw16528976981361920869 : Nat := 0
def PySem.W.Fast.tw7587079911438788005 : Nat := 0
def PySem.W.Fast.tw3572392878016818271 : Nat := 0
def PySem.W.Fast.tw988921120988996325 : Nat := 0
def PySem.W.Fast.tw12882429971949966313 : Nat := 0
def PySem.W.Fast.tw3725521045160002663 : Nat := 0
def PySem.W.Fast.tw15046367667117238179 : Nat := 0
def PySem.W.Fast.tw10962598327629659812 : Nat := 0
def PySem.W.Fast.tw12844332293066080489 : Nat := 0
def PySem.W.Fast.tw6268895454228714418 : Nat := 0
def PySem.W.Fast.tw2773858363637984606 : Nat := 0
def PySem.W.Fast.tw8164646454489278146 : Nat := 0
def PySem.W.Fast.tw17214338693271571546 : Nat := 0
def PySem.W.Fast.tw3417073189330300413 : Nat := 0
def PySem.W.Fast.tw6387445513648589092 : Nat := 0
def PySem.W.Fast.tw15090162523424396683 : Nat := 0
def PySem.W.Fast.tw6773170133215369289 : Nat := 0
def PySem.W.Fast.tw12929713934792520853 : Nat := 0
def PySem.W.Fast.tw8960572963208627390 : Nat := 0
def PySem.W.Fast.tw2337891178318984210 : Nat := 0
def PySem.W.Fast.tw12631297143763002268 : Nat := 0
def PySem.W.Fast.tw1204613978549289991 : Nat := 0
def PySem.W.Fast.tw17331479503562335922 : Nat := 0
def PySem.W.Fast.tw6279239431491843398 : Nat := 0
def PySem.W.Fast.tw15204183991380881814 : Nat := 0
def PySem.W.Fast.tw9051136955930212661 : Nat := 0
def PySem.W.Fast.tw13311852720219190781 : Nat := 0
def PySem.W.Fast.tw593270750169199657 : Nat := 0
def PySem.W.Fast.tw11347570249890299851 : Nat := 0
def PySem.W.Fast.tw9955071133807268075 : Nat := 0
def PySem.W.Fast.tw2966031265277156427 : Nat := 0
def PySem.W.Fast.tw17148281333878688204 : Nat := 0
def PySem.W.Fast.tw7373205018578323535 : Nat := 0
def PySem.W.Fast.tw743574429335949677 : Nat := 0
def PySem.W.Fast.tw13648004144185652493 : Nat := 0
def PySem.W.Fast.tw14314221822289741403 : Nat := 0
def PySem.W.Fast.tw14121247221220575307 : Nat := 0
def PySem.W.Fast.tw18379318467454137672 : Nat := 0
def PySem.W.Fast.tw9729944980675157668 : Nat := 0
def PySem.W.Fast.tw4127411680460742497 : Nat := 0
def PySem.W.Fast.tw14327221601622537442 : Nat := 0
def PySem.W.Fast.tw13036372471426109013 : Nat := 0
def PySem.W.Fast.tw3220164699206685873 : Nat := 0
def PySem.W.Fast.tw5503852952863710921 : Nat := 0
def PySem.W.Fast.tw8472642720379992354 : Nat := 0
def PySem.W.Fast.tw8007791873704369424 : Nat := 0
def PySem.W.Fast.tw16312738963345356676 : Nat := 0
def PySem.W.Fast.tw6676057997493706120 : Nat := 0
def PySem.W.Fast.tw14937051423993028965 : Nat := 0
def PySem.W.Fast.tw728954372558113483 : Nat := 0
def PySem.W.Fast.tw5097586851335747041 : Nat := 0
def PySem.W.Fast.tw11425479539516667366 : Nat := 0
def PySem.W.Fast.tw10823304829364850647 : Nat := 0
def PySem.W.Fast.tw12002844247526837376 : Nat := 0
def PySem.W.Fast.tw6474541103063108262 : Nat := 0
def PySem.W.Fast.tw5190946363591612001 : Nat := 0
def PySem.W.Fast.tw17032347470584001071 : Nat := 0
def PySem.W.Fast.tw8879530626031315879 : Nat := 0
def PySem.W.Fast.tw2416192881029681390 : Nat := 0
def PySem.W.Fast.tw13972233230007509305 : Nat := 0
def PySem.W.Fast.tw7650878905182672313 : Nat := 0
def PySem.W.Fast.tw2315280232404370109 : Nat := 0
def PySem.W.Fast.tw4700626996102457493 : Nat := 0
def PySem.W.Fast.tw8220050826442148796 : Nat := 0
def PySem.W.Fast.tw1998146074241367455 : Nat := 0
def PySem.W.Fast.tw12278527368373993445 : Nat := 0
def PySem.W.Fast.tw8841413150268524546 : Nat := 0
def PySem.W.Fast.tw4391336362644127268 : Nat := 0
def PySem.W.Fast.tw14649867153859807160 : Nat := 0
def PySem.W.Fast.tw11349771580666310258 : Nat := 0
def PySem.W.Fast.tw10296643074574310317 : Nat := 0
def PySem.W.Fast.tw8017705989424576163 : Nat := 0
def PySem.W.Fast.tw16105504942068777119 : Nat := 0
def PySem.W.Fast.tw8627017122489722840 : Nat := 0
def PySem.W.Fast.tw14083169977407922516 : Nat := 0
def PySem.W.Fast.tw14655602481610866609 : Nat := 0
def PySem.W.Fast.tw7637349333479838588 : Nat := 0
def PySem.W.Fast.tw18055145339746580194 : Nat := 0
def PySem.W.Fast.tw7549023201704449620 : Nat := 0
def PySem.W.Fast.tw3811227916581477323 : Nat := 0
def PySem.W.Fast.tw10262769810671998737 : Nat := 0
def PySem.W.Fast.tw13764689617347973620 : Nat := 0
def PySem.W.Fast.tw16978304545019611344 : Nat := 0
def PySem.W.Fast.tw14425608869124681595 : Nat := 0
def PySem.W.Fast.tw769521347922300448 : Nat := 0
def PySem.W.Fast.tw16089099480109769628 : Nat := 0
def PySem.W.Fast.tw4928278190761225240 : Nat := 0
def PySem.W.Fast.tw13582565648320245636 : Nat := 0
def PySem.W.Fast.tw11207183003442494998 : Nat := 0
def PySem.W.Fast.tw12629042607480704708 : Nat := 0
def PySem.W.Fast.tw3516548072600558494 : Nat := 0
def PySem.W.Fast.tw1384551950664911878 : Nat := 0
def PySem.W.Fast.tw10000934238874250959 : Nat := 0
def PySem.W.Fast.tw2031550998138844992 : Nat := 0
def PySem.W.Fast.tw1029816039784189082 : Nat := 0
def PySem.W.Fast.tw6337886131064549979 : Nat := 0
def PySem.W.Fast.tw15146871063178933183 : Nat := 0
def PySem.W.Fast.tw2308377409670903880 : Nat := 0
def PySem.W.Fast.tw7719340637819865752 : Nat := 0
def PySem.W.Fast.tw6420422428391134235 : Nat := 0
def PySem.W.Fast.tw12601878323933250193 : Nat := 0
def PySem.W.Fast.tw13255679597680688496 : Nat := 0
def PySem.W.Fast.tw15823585054685097319 : Nat := 0
def PySem.W.Fast.tw3049209455483777358 : Nat := 0
def PySem.W.Fast.tw9992010182890244497 : Nat := 0
def PySem.W.Fast.tw6976574831747136971 : Nat := 0
def PySem.W.Fast.tw6874558938595168150 : Nat := 0
def PySem.W.Fast.tw13768321041357602521 : Nat := 0
def PySem.W.Fast.tw759839138052946662 : Nat := 0
def PySem.W.Fast.tw9143722553366777923 : Nat := 0
def PySem.W.Fast.tw15973313343087597309 : Nat := 0
def PySem.W.Fast.tw4103722755824893553 : Nat := 0
def PySem.W.Fast.tw11156232318912357632 : Nat := 0
def PySem.W.Fast.tw3672781500024410626 : Nat := 0
def PySem.W.Fast.tw1786211831097402661 : Nat := 0
def PySem.W.Fast.tw9081389378762733929 : Nat := 0
def PySem.W.Fast.tw1487667437499381511 : Nat := 0
def PySem.W.Fast.tw6500508373235905783 : Nat := 0
def PySem.W.Fast.tw16853082523512650066 : Nat := 0
def PySem.W.Fast.tw13898966395499561592 : Nat := 0
def PySem.W.Fast.tw8605126389128931714 : Nat := 0
def PySem.W.Fast.tw4230932662165318606 : Nat := 0
def PySem.W.Fast.tw4884032745508468674 : Nat := 0
def PySem.W.Fast.tw10133173849986070489 : Nat := 0
def PySem.W.Fast.tw5945200357712723718 : Nat := 0
def PySem.W.Fast.tw13587668916108742926 : Nat := 0
def PySem.W.Fast.tw1256583637165369860 : Nat := 0
def PySem.W.Fast.tw3598852291092199011 : Nat := 0
def PySem.W.Fast.tw8825883865983488374 : Nat := 0
def PySem.W.Fast.tw4260905298170177888 : Nat := 0
def PySem.W.Fast.tw1648467822374069057 : Nat := 0
def PySem.W.Fast.tw242989151315001866 : Nat := 0
def PySem.W.Fast.tw1508045559333748207 : Nat := 0
def PySem.W.Fast.tw14298927748939954107 : Nat := 0
def PySem.W.Fast.tw17932224169532461559 : Nat := 0
def PySem.W.Fast.tw3883984001223595220 : Nat := 0
def PySem.W.Fast.tw3669604943930683023 : Nat := 0
def PySem.W.Fast.tw8202882970611279242 : Nat := 0
def PySem.W.Fast.tw7619525419226096502 : Nat := 0
def PySem.W.Fast.tw8220150410596247705 : Nat := 0
def PySem.W.Fast.tw17462237384763814477 : Nat := 0
def PySem.W.Fast.tw3753885948781900057 : Nat := 0
def PySem.W.Fast.tw612200974555001196 : Nat := 0
def PySem.W.Fast.tw4396873934632202383 : Nat := 0
def PySem.W.Fast.tw10415973662076883642 : Nat := 0
def PySem.W.Fast.tw4791593571687363764 : Nat := 0
def PySem.W.Fast.tw4595748910552278153 : Nat := 0
def PySem.W.Fast.tw5565887296617129712 : Nat := 0
def PySem.W.Fast.tw1935517436487600432 : Nat := 0
def PySem.W.Fast.tw7326744281287430992 : Nat := 0
def PySem.W.Fast.tw11438394088905804434 : Nat := 0
def PySem.W.Fast.tw137906617737976529 : Nat := 0
def PySem.W.Fast.tw15741641115508865935 : Nat := 0
def PySem.W.Fast.tw1318441719174984168 : Nat := 0
def PySem.W.Fast.tw2409425307974355528 : Nat := 0
def PySem.W.Fast.tw9491063832045805920 : Nat := 0
def PySem.W.Fast.tw5467956704875875207 : Nat := 0
def PySem.W.Fast.tw4002840972304102337 : Nat := 0
def PySem.W.Fast.tw7696781100797240732 : Nat := 0
def PySem.W.Fast.tw15299113775222697389 : Nat := 0
def PySem.W.Fast.tw6870664000397570062 : Nat := 0
def PySem.W.Fast.tw21660974950252158 : Nat := 0
def PySem.W.Fast.tw9354011198767187561 : Nat := 0
def PySem.W.Fast.tw18298293951998055410 : Nat := 0
def PySem.W.Fast.tw18019314122247640619 : Nat := 0
def PySem.W.Fast.tw2705205009455586131 : Nat := 0
def PySem.W.Fast.tw12451770465657707983 : Nat := 0
def PySem.W.Fast.tw14727056706608333641 : Nat := 0
def PySem.W.Fast.tw17888552763499595070 : Nat := 0
def PySem.W.Fast.tw3614421856457382642 : Nat := 0
def PySem.W.Fast.tw12438041023810523640 : Nat := 0
def PySem.W.Fast.tw11280775413999737117 : Nat := 0
def PySem.W.Fast.tw2895262210143976241 : Nat := 0
def PySem.W.Fast.tw6874032164065908062 : Nat := 0
def PySem.W.Fast.tw6948163305575054525 : Nat := 0
def PySem.W.Fast.tw8470874884650186694 : Nat := 0
def PySem.W.Fast.tw11805106912793570481 : Nat := 0
def PySem.W.Fast.tw753234689831569560 : Nat := 0
def PySem.W.Fast.tw3422659992488350514 : Nat := 0
def PySem.W.Fast.tw6235094467354142303 : Nat := 0
def PySem.W.Fast.tw2918990217404274032 : Nat := 0
def PySem.W.Fast.tw13834764153432754353 : Nat := 0
def PySem.W.Fast.tw6189931723988695663 : Nat := 0
def PySem.W.Fast.tw14327664842886680438 : Nat := 0
def PySem.W.Fast.tw11233612400241204817 : Nat := 0
def PySem.W.Fast.tw237499267503126290 : Nat := 0
def PySem.W.Fast.tw11709069728809609233 : Nat := 0
def PySem.W.Fast.tw11226050557170982635 : Nat := 0
def PySem.W.Fast.tw4309010348130580375 : Nat := 0
def PySem.W.Fast.tw4720167578657169109 : Nat := 0
def PySem.W.Fast.tw14680885881773206514 : Nat := 0
def PySem.W.Fast.tw7657552828048149176 : Nat := 0
def PySem.W.Fast.tw3465557981873990571 : Nat := 0
def PySem.W.Fast.tw7479647786532495702 : Nat := 0
def PySem.W.Fast.tw16719917047321124452 : Nat := 0
def PySem.W.Fast.tw7673576922551772986 : Nat := 0
def PySem.W.Fast.tw3171986697544925389 : Nat := 0
def PySem.W.Fast.tw1231678112424837979 : Nat := 0
def PySem.W.Fast.tw12065992805192952916 : Nat := 0
def PySem.W.Fast.tw6167710781902565699 : Nat := 0
def PySem.W.Fast.tw5607403311837671616 : Nat := 0
def PySem.W.Fast.tw2633886056875634666 : Nat := 0
def PySem.W.Fast.tw3393209070665685451 : Nat := 0
def PySem.W.Fast.tw5263476536552152876 : Nat := 0
def PySem.W.Fast.tw116157003934849554 : Nat := 0
def PySem.W.Fast.tw954622349323142243 : Nat := 0
def PySem.W.Fast.tw15759454012799098802 : Nat := 0
def PySem.W.Fast.tw8237987619573132645 : Nat := 0
def PySem.W.Fast.tw13134815084324905679 : Nat := 0
def PySem.W.Fast.tw4015661284075653950 : Nat := 0
def PySem.W.Fast.tw1520229718496485222 : Nat := 0
def PySem.W.Fast.tw4638823841309062799 : Nat := 0
def PySem.W.Fast.tw16711971595598917130 : Nat := 0
def PySem.W.Fast.tw2541508605575218526 : Nat := 0
def PySem.W.Fast.tw7933840933164486470 : Nat := 0
def PySem.W.Fast.tw282802012426000619 : Nat := 0
def PySem.W.Fast.tw12135465081963551870 : Nat := 0
def PySem.W.Fast.tw16768387614273605386 : Nat := 0
def PySem.W.Fast.tw658471297749657035 : Nat := 0
def PySem.W.Fast.tw14225068846100963698 : Nat := 0
def PySem.W.Fast.tw5673418207283128942 : Nat := 0
def PySem.W.Fast.tw5817264554509425119 : Nat := 0
def PySem.W.Fast.tw16732234224298518614 : Nat := 0
def PySem.W.Fast.tw16633414773593791110 : Nat := 0
def PySem.W.Fast.tw11842510588095457112 : Nat := 0
def PySem.W.Fast.tw4730240766504952841 : Nat := 0
def PySem.W.Fast.tw4147702727567626604 : Nat := 0
def PySem.W.Fast.tw13025105722782839450 : Nat := 0
def PySem.W.Fast.tw1679178454823852248 : Nat := 0
def PySem.W.Fast.tw4987109086769213654 : Nat := 0
def PySem.W.Fast.tw4771675707056109449 : Nat := 0
def PySem.W.Fast.tw11827724983202994303 : Nat := 0
def PySem.W.Fast.tw8178598121389179261 : Nat := 0
def PySem.W.Fast.tw12694081822766414033 : Nat := 0
def PySem.W.Fast.tw7604494254983246644 : Nat := 0
def PySem.W.Fast.tw10670067050830207521 : Nat := 0
def PySem.W.Fast.tw9024542086786962459 : Nat := 0
def PySem.W.Fast.tw14765361158158410167 : Nat := 0
def PySem.W.Fast.tw12302325924646902963 : Nat := 0
def PySem.W.Fast.tw13664814210655610282 : Nat := 0
def PySem.W.Fast.tw11981742056725060706 : Nat := 0
def PySem.W.Fast.tw16927152359507307750 : Nat := 0
def PySem.W.Fast.tw15032422496563368756 : Nat := 0
def PySem.W.Fast.tw16607822823780087853 : Nat := 0
def PySem.W.Fast.tw3483612458155123626 : Nat := 0
def PySem.W.Fast.tw3391223484079023425 : Nat := 0
def PySem.W.Fast.tw7009911046706005060 : Nat := 0
def PySem.W.Fast.tw4858503021134234595 : Nat := 0
def PySem.W.Fast.tw11030850307413670341 : Nat := 0
def PySem.W.Fast.tw15771909000882487480 : Nat := 0
def PySem.W.Fast.tw4344773987529826968 : Nat := 0
def PySem.W.Fast.tw17697577365343918652 : Nat := 0
def PySem.W.Fast.tw703596164268063552 : Nat := 0
def PySem.W.Fast.tw4164565964453852436 : Nat := 0
def PySem.W.Fast.tw17628032783459078139 : Nat := 0
def PySem.W.Fast.tw10869809591519442110 : Nat := 0
def PySem.W.Fast.tw2330061595388417870 : Nat := 0
def PySem.W.Fast.tw10737140417090004255 : Nat := 0
def PySem.W.Fast.tw3477048131739358151 : Nat := 0
def PySem.W.Fast.tw2040259567217125927 : Nat := 0
def PySem.W.Fast.tw7616547152628043023 : Nat := 0
def PySem.W.Fast.tw9712751944480175345 : Nat := 0
def PySem.W.Fast.tw18057681112267859692 : Nat := 0
def PySem.W.Fast.tw527411090720939751 : Nat := 0
def PySem.W.Fast.tw10432582577135018341 : Nat := 0
def PySem.W.Fast.tw16176307393070419275 : Nat := 0
def PySem.W.Fast.tw13014666472650995881 : Nat := 0
def PySem.W.Fast.tw13600779596275667965 : Nat := 0
def PySem.W.Fast.tw9521805743268112408 : Nat := 0
def PySem.W.Fast.tw8677392673606115852 : Nat := 0
def PySem.W.Fast.tw12648344835561667220 : Nat := 0
def PySem.W.Fast.tw3670532312161601875 : Nat := 0
def PySem.W.Fast.tw14917087079156185163 : Nat := 0
def PySem.W.Fast.tw4893435932172878345 : Nat := 0
def PySem.W.Fast.tw10190702004552490902 : Nat := 0
def PySem.W.Fast.tw4756986786179514050 : Nat := 0
def PySem.W.Fast.tw12665322547648898032 : Nat := 0
def PySem.W.Fast.tw8379350863247403809 : Nat := 0
def PySem.W.Fast.tw4059538277416407568 : Nat := 0
def PySem.W.Fast.tw16377362638977130156 : Nat := 0
def PySem.W.Fast.tw16455759746581913430 : Nat := 0
def PySem.W.Fast.tw5875439471225193662 : Nat := 0
def PySem.W.Fast.tw11218951685182292439 : Nat := 0
def PySem.W.Fast.tw6983226387607623728 : Nat := 0
def PySem.W.Fast.tw13731491591426769107 : Nat := 0
def PySem.W.Fast.tw48489227920933620 : Nat := 0
def PySem.W.Fast.tw12318607400224747817 : Nat := 0
def PySem.W.Fast.tw10257776308326320821 : Nat := 0
def PySem.W.Fast.tw4630499051326611249 : Nat := 0
def PySem.W.Fast.tw16953237018458781660 : Nat := 0
def PySem.W.Fast.tw17639902214432785596 : Nat := 0
def PySem.W.Fast.tw15676913283319573978 : Nat := 0
def PySem.W.Fast.tw2420778615505053217 : Nat := 0
def PySem.W.Fast.tw5340242980961685231 : Nat := 0
def PySem.W.Fast.tw4084446039284843392 : Nat := 0
def PySem.W.Fast.tw17215234742577400846 : Nat := 0
def PySem.W.Fast.tw17970950076092866618 : Nat := 0
def PySem.W.Fast.tw3010261027073252730 : Nat := 0
def PySem.W.Fast.tw3551622307807883305 : Nat := 0
def PySem.W.Fast.tw2192478522829212829 : Nat := 0
def PySem.W.Fast.tw6224327540371457289 : Nat := 0
def PySem.W.Fast.tw4686541420333629563 : Nat := 0
def PySem.W.Fast.tw7269001636376673475 : Nat := 0
def PySem.W.Fast.tw6575231790688855368 : Nat := 0
def PySem.W.Fast.tw7323115858740188955 : Nat := 0
def PySem.W.Fast.tw4919881397257979464 : Nat := 0
def PySem.W.Fast.tw5280822517993460120 : Nat := 0
def PySem.W.Fast.tw4389276548827267006 : Nat := 0
def PySem.W.Fast.tw10312992184347147588 : Nat := 0
def PySem.W.Fast.tw17368999043902156967 : Nat := 0
def PySem.W.Fast.tw4961483127649085509 : Nat := 0
def PySem.W.Fast.tw1147723757114164014 : Nat := 0
def PySem.W.Fast.tw7927796717125126645 : Nat := 0
def PySem.W.Fast.tw7667525892498918426 : Nat := 0
def PySem.W.Fast.tw18374904683130382998 : Nat := 0
def PySem.W.Fast.tw3215082065697471603 : Nat := 0
def PySem.W.Fast.tw8264155861945346817 : Nat := 0
def PySem.W.Fast.tw14433987464786573161 : Nat := 0
def PySem.W.Fast.tw17514466491649433719 : Nat := 0
def PySem.W.Fast.tw15581589666934400070 : Nat := 0
def PySem.W.Fast.tw813857933423774801 : Nat := 0
def PySem.W.Fast.tw16064712999488853166 : Nat := 0
def PySem.W.Fast.tw8282336536029723403 : Nat := 0
def PySem.W.Fast.tw8137919746472554476 : Nat := 0
def PySem.W.Fast.tw3602370866585963932 : Nat := 0
def PySem.W.Fast.tw6557381198343440876 : Nat := 0
def PySem.W.Fast.tw1131108126828072230 : Nat := 0
def PySem.W.Fast.tw5185828851999651134 : Nat := 0
def PySem.W.Fast.tw2770566590809016750 : Nat := 0
def PySem.W.Fast.tw13167177173938571644 : Nat := 0
def PySem.W.Fast.tw13971991868801166650 : Nat := 0
def PySem.W.Fast.tw5431558664856890989 : Nat := 0
def PySem.W.Fast.tw774766782576175527 : Nat := 0
def PySem.W.Fast.tw9539460922108017010 : Nat := 0
def PySem.W.Fast.tw2396742661386262458 : Nat := 0
def PySem.W.Fast.tw6143913663110011505 : Nat := 0
def PySem.W.Fast.tw5205463596502219665 : Nat := 0
def PySem.W.Fast.tw2623793241038596645 : Nat := 0
def PySem.W.Fast.tw14765156503140661639 : Nat := 0
def PySem.W.Fast.tw3378104783010045521 : Nat := 0
def PySem.W.Fast.tw12681497049290359353 : Nat := 0
def PySem.W.Fast.tw6113642675581197794 : Nat := 0
def PySem.W.Fast.tw3892880921614360850 : Nat := 0
def PySem.W.Fast.tw7307912904407189461 : Nat := 0
def PySem.W.Fast.tw10960589617598029040 : Nat := 0
def PySem.W.Fast.tw3398485565142934566 : Nat := 0
def PySem.W.Fast.tw5720383679626562607 : Nat := 0
def PySem.W.Fast.tw15302567823887022461 : Nat := 0
def PySem.W.Fast.tw14391259678838342584 : Nat := 0
def PySem.W.Fast.tw10700357000041388507 : Nat := 0
def PySem.W.Fast.tw10292029519125863021 : Nat := 0
def PySem.W.Fast.tw7203548919921349586 : Nat := 0
def PySem.W.Fast.tw17225165601869355492 : Nat := 0
def PySem.W.Fast.tw4914601688549206792 : Nat := 0
def PySem.W.Fast.tw17711555607542673601 : Nat := 0
def PySem.W.Fast.tw10936055796348764171 : Nat := 0
def PySem.W.Fast.tw5672511694822347508 : Nat := 0
def PySem.W.Fast.tw17891134552051196974 : Nat := 0
def PySem.W.Fast.tw3346223757378159113 : Nat := 0
def PySem.W.Fast.tw5967243033943436994 : Nat := 0
def PySem.W.Fast.tw3812354657599703473 : Nat := 0
def PySem.W.Fast.tw295883086317864158 : Nat := 0
def PySem.W.Fast.tw17543774069958011212 : Nat := 0
def PySem.W.Fast.tw16570540212283294693 : Nat := 0
def PySem.W.Fast.tw1554395237110737121 : Nat := 0
def PySem.W.Fast.tw18016326121164507839 : Nat := 0
def PySem.W.Fast.tw14880080257612768518 : Nat := 0
def PySem.W.Fast.tw15787249506836745986 : Nat := 0
def PySem.W.Fast.tw5292521331692025580 : Nat := 0
def PySem.W.Fast.tw14826820716164519779 : Nat := 0
def PySem.W.Fast.tw10653620787877925200 : Nat := 0
def PySem.W.Fast.tw5445547985814885593 : Nat := 0
def PySem.W.Fast.tw3090929255022463260 : Nat := 0
def PySem.W.Fast.tw12696332223541075703 : Nat := 0
def PySem.W.Fast.tw12720605845374210043 : Nat := 0
def PySem.W.Fast.tw3840098505275413918 : Nat := 0
def PySem.W.Fast.tw18206903346533308655 : Nat := 0
def PySem.W.Fast.tw11061967156856657366 : Nat := 0
def PySem.W.Fast.tw14747795071513591030 : Nat := 0
def PySem.W.Fast.tw10986961864940648048 : Nat := 0
def PySem.W.Fast.tw2174008250856905287 : Nat := 0
def PySem.W.Fast.tw15527901765210204651 : Nat := 0
def PySem.W.Fast.tw7982203115352621882 : Nat := 0
def PySem.W.Fast.tw5410478090918826802 : Nat := 0
def PySem.W.Fast.tw6323404210774126104 : Nat := 0
def PySem.W.Fast.tw5585081783541150445 : Nat := 0
def PySem.W.Fast.tw8222378691021050889 : Nat := 0
def PySem.W.Fast.tw1793711043033457726 : Nat := 0
def PySem.W.Fast.tw789168216653192544 : Nat := 0
def PySem.W.Fast.tw18296459659916784461 : Nat := 0
def PySem.W.Fast.tw2767405014172749014 : Nat := 0
def PySem.W.Fast.tw3426988712942000554 : Nat := 0
def PySem.W.Fast.tw8779899340117082121 : Nat := 0
def PySem.W.Fast.tw17124193409912262643 : Nat := 0
def PySem.W.Fast.tw4140912109675457399 : Nat := 0
def PySem.W.Fast.tw4415071866089434269 : Nat := 0
def PySem.W.Fast.tw14348690232195960720 : Nat := 0
def PySem.W.Fast.tw10092331503566879416 : Nat := 0
def PySem.W.Fast.tw11301813057249775257 : Nat := 0
def PySem.W.Fast.tw893073366364434405 : Nat := 0
def PySem.W.Fast.tw15980515679206610305 : Nat := 0
def PySem.W.Fast.tw12280632994420730024 : Nat := 0
def PySem.W.Fast.tw2097867894573993982 : Nat := 0
def PySem.W.Fast.tw10470265906379722756 : Nat := 0
def PySem.W.Fast.tw2379627822844265455 : Nat := 0
def PySem.W.Fast.tw16251712573097554320 : Nat := 0
def PySem.W.Fast.tw4685291781046410617 : Nat := 0
def PySem.W.Fast.tw737177252655448217 : Nat := 0
def PySem.W.Fast.tw16081644530855506011 : Nat := 0
def PySem.W.Fast.tw15873171664454429062 : Nat := 0
def PySem.W.Fast.tw12182722455310791308 : Nat := 0
def PySem.W.Fast.tw17127887516502781348 : Nat := 0
def PySem.W.Fast.tw1270545644625331000 : Nat := 0
def PySem.W.Fast.tw15736565657824977789 : Nat := 0
def PySem.W.Fast.tw12047435423751504279 : Nat := 0
def PySem.W.Fast.tw1051449594798233600 : Nat := 0
def PySem.W.Fast.tw1677914501809087237 : Nat := 0
def PySem.W.Fast.tw14556449134240376534 : Nat := 0
def PySem.W.Fast.tw6760680931176018856 : Nat := 0
def PySem.W.Fast.tw7015609294392361485 : Nat := 0
def PySem.W.Fast.tw9581640293964578374 : Nat := 0
def PySem.W.Fast.tw13039281374830402567 : Nat := 0
def PySem.W.Fast.tw11662564162296148819 : Nat := 0
def PySem.W.Fast.tw657925314206909832 : Nat := 0
def PySem.W.Fast.tw13464847000799768674 : Nat := 0
def PySem.W.Fast.tw11173127109852207189 : Nat := 0
def PySem.W.Fast.tw5899040318001180752 : Nat := 0
def PySem.W.Fast.tw13010703665967708595 : Nat := 0
def PySem.W.Fast.tw5422673128204246432 : Nat := 0
def PySem.W.Fast.tw13163447980869358378 : Nat := 0
def PySem.W.Fast.tw18291399775279325286 : Nat := 0
def PySem.W.Fast.tw5707607592035179110 : Nat := 0
def PySem.W.Fast.tw5290218632752171848 : Nat := 0
def PySem.W.Fast.tw8205192478681876975 : Nat := 0
def PySem.W.Fast.tw15925029803212830200 : Nat := 0
def PySem.W.Fast.tw399418760359364918 : Nat := 0
def PySem.W.Fast.tw6901542552030027168 : Nat := 0
def PySem.W.Fast.tw7023764814116025316 : Nat := 0
def PySem.W.Fast.tw12593257668206801032 : Nat := 0
def PySem.W.Fast.tw16668837296730131361 : Nat := 0
def PySem.W.Fast.tw7676799411112728500 : Nat := 0
def PySem.W.Fast.tw16932342521462931098 : Nat := 0
def PySem.W.Fast.tw16716182956775719936 : Nat := 0
def PySem.W.Fast.tw16039637800200706431 : Nat := 0
def PySem.W.Fast.tw165011725516516533 : Nat := 0
def PySem.W.Fast.tw12065557454123883265 : Nat := 0
def PySem.W.Fast.tw4080067512885932138 : Nat := 0
def PySem.W.Fast.tw12354851891805608666 : Nat := 0
def PySem.W.Fast.tw17318711739312875151 : Nat := 0
def PySem.W.Fast.tw4221187213546668064 : Nat := 0
def PySem.W.Fast.tw15894992280767354254 : Nat := 0
def PySem.W.Fast.tw4653568407580937808 : Nat := 0
def PySem.W.Fast.tw10246880718750644681 : Nat := 0
def PySem.W.Fast.tw7594425656914398926 : Nat := 0
def PySem.W.Fast.tw17810825912131609235 : Nat := 0
def PySem.W.Fast.tw3196638861919395981 : Nat := 0
def PySem.W.Fast.tw12759787618895453878 : Nat := 0
def PySem.W.Fast.tw3239844914196863001 : Nat := 0
def PySem.W.Fast.tw3899386379868586426 : Nat := 0
def PySem.W.Fast.tw8798604060230862604 : Nat := 0
def PySem.W.Fast.tw12785797332969729387 : Nat := 0
def PySem.W.Fast.tw14212752566979697693 : Nat := 0
def PySem.W.Fast.tw10760430573331181949 : Nat := 0
def PySem.W.Fast.tw17386940714505314109 : Nat := 0
def PySem.W.Fast.tw16194745197779203653 : Nat := 0
def PySem.W.Fast.tw5043751238230602417 : Nat := 0
def PySem.W.Fast.tw13407321330958785754 : Nat := 0
def PySem.W.Fast.tw18435171597252598507 : Nat := 0
def PySem.W.Fast.tw17555010123072463986 : Nat := 0
def PySem.W.Fast.tw2487476823741495601 : Nat := 0
def PySem.W.Fast.tw1011677814245182610 : Nat := 0
def PySem.W.Fast.tw4174016123311995819 : Nat := 0
def PySem.W.Fast.tw1355127835934175990 : Nat := 0
def PySem.W.Fast.tw12968703482700594113 : Nat := 0
def PySem.W.Fast.tw9885839232124261734 : Nat := 0
def PySem.W.Fast.tw2928823755156690300 : Nat := 0
def PySem.W.Fast.tw17473275186779047785 : Nat := 0
def PySem.W.Fast.tw15818327180484567841 : Nat := 0
def PySem.W.Fast.tw1070178747272862546 : Nat := 0
def PySem.W.Fast.tw2156477136153544466 : Nat := 0
def PySem.W.Fast.tw6921566208212563024 : Nat := 0
def PySem.W.Fast.tw10342584527442430793 : Nat := 0
def PySem.W.Fast.tw14349503393158744468 : Nat := 0
def PySem.W.Fast.tw17949071814799205904 : Nat := 0
def PySem.W.Fast.tw7798531025591414524 : Nat := 0
def PySem.W.Fast.tw5485001769304071023 : Nat := 0
def PySem.W.Fast.tw9148499115469798468 : Nat := 0
def PySem.W.Fast.tw3212438039159356870 : Nat := 0
def PySem.W.Fast.tw14923763011257682082 : Nat := 0
def PySem.W.Fast.tw9023873777214589193 : Nat := 0
def PySem.W.Fast.tw7479993690168474819 : Nat := 0
def PySem.W.Fast.tw7577079174496516545 : Nat := 0
def PySem.W.Fast.tw6663224931603647956 : Nat := 0
def PySem.W.Fast.tw12787855978018988964 : Nat := 0
def PySem.W.Fast.tw16764166981168953331 : Nat := 0
def PySem.W.Fast.tw9910389392864784231 : Nat := 0
def PySem.W.Fast.tw5564674283643929026 : Nat := 0
def PySem.W.Fast.tw9280576882827655582 : Nat := 0
def PySem.W.Fast.tw11396836044061005704 : Nat := 0
def PySem.W.Fast.tw2684523022829308342 : Nat := 0
def PySem.W.Fast.tw15729643983261411755 : Nat := 0
def PySem.W.Fast.tw1813898254962245393 : Nat := 0
def PySem.W.Fast.tw4486607030126250264 : Nat := 0
def PySem.W.Fast.tw3571156686871348616 : Nat := 0
def PySem.W.Fast.tw7112082139042926441 : Nat := 0
def PySem.W.Fast.tw6568987397970481958 : Nat := 0
def PySem.W.Fast.tw4217362857828122083 : Nat := 0
def PySem.W.Fast.tw16446421671125481087 : Nat := 0
def PySem.W.Fast.tw1416217048436478167 : Nat := 0
def PySem.W.Fast.tw3244700028146262381 : Nat := 0
def PySem.W.Fast.tw16670922281713949819 : Nat := 0
def PySem.W.Fast.tw4476804801363954593 : Nat := 0
def PySem.W.Fast.tw14510096679122267556 : Nat := 0
def PySem.W.Fast.tw11720153251135534811 : Nat := 0
def PySem.W.Fast.tw14140617127888824837 : Nat := 0
def PySem.W.Fast.tw1509826789362596136 : Nat := 0
def PySem.W.Fast.tw15600348446255482472 : Nat := 0
def PySem.W.Fast.tw15694028556754926903 : Nat := 0
def PySem.W.Fast.tw5036913760154383946 : Nat := 0
def PySem.W.Fast.tw18104058309608141 : Nat := 0
def PySem.W.Fast.tw14725924008650229361 : Nat := 0
def PySem.W.Fast.tw13602907345216443738 : Nat := 0
def PySem.W.Fast.tw7145533710953321341 : Nat := 0
def PySem.W.Fast.tw3420324591555267279 : Nat := 0
def PySem.W.Fast.tw5910094142464344431 : Nat := 0
def PySem.W.Fast.tw11695152190938694365 : Nat := 0
def PySem.W.Fast.tw7087641594988055571 : Nat := 0
def PySem.W.Fast.tw14461955688026278624 : Nat := 0
def PySem.W.Fast.tw1361120178055421603 : Nat := 0
def PySem.W.Fast.tw14625715832712005446 : Nat := 0
def PySem.W.Fast.tw14384021930074759827 : Nat := 0
def PySem.W.Fast.tw2797668400335445976 : Nat := 0
def PySem.W.Fast.tw3370272719333807466 : Nat := 0
def PySem.W.Fast.tw128006277191804301 : Nat := 0
def PySem.W.Fast.tw14583354930192280125 : Nat := 0
def PySem.W.Fast.tw14661512897153567790 : Nat := 0
def PySem.W.Fast.tw7164434748773852218 : Nat := 0
def PySem.W.Fast.tw6643204834051165170 : Nat := 0
def PySem.W.Fast.tw14578657336193613280 : Nat := 0
def PySem.W.Fast.tw16743749279832857402 : Nat := 0
def PySem.W.Fast.tw17510057799972505183 : Nat := 0
def PySem.W.Fast.tw9597543647229957582 : Nat := 0
def PySem.W.Fast.tw7634237488310701980 : Nat := 0
def PySem.W.Fast.tw6364618323875146923 : Nat := 0
def PySem.W.Fast.tw13076870394674436347 : Nat := 0
def PySem.W.Fast.tw1474934864640502215 : Nat := 0
def PySem.W.Fast.tw8492216934418086283 : Nat := 0
def PySem.W.Fast.tw5959038659464989723 : Nat := 0
def PySem.W.Fast.tw4530163165979306812 : Nat := 0
def PySem.W.Fast.tw16631785923102630075 : Nat := 0
def PySem.W.Fast.tw4903615777943930989 : Nat := 0
def PySem.W.Fast.tw7646216842072350892 : Nat := 0
def PySem.W.Fast.tw9607518011095056209 : Nat := 0
def PySem.W.Fast.tw6426087888585425629 : Nat := 0
def PySem.W.Fast.tw2171773096204342352 : Nat := 0
def PySem.W.Fast.tw9343212613590301858 : Nat := 0
def PySem.W.Fast.tw9758516975197533870 : Nat := 0
def PySem.W.Fast.tw18036214091413691062 : Nat := 0
def PySem.W.Fast.tw4674435172197039447 : Nat := 0
def PySem.W.Fast.tw14648849302025064034 : Nat := 0
def PySem.W.Fast.tw313771218802731524 : Nat := 0
def PySem.W.Fast.tw743272520816164680 : Nat := 0
def PySem.W.Fast.tw2882510167892676186 : Nat := 0
def PySem.W.Fast.tw4043920243344859466 : Nat := 0
def PySem.W.Fast.tw5705880753220339476 : Nat := 0
def PySem.W.Fast.tw14386030096312248443 : Nat := 0
def PySem.W.Fast.tw10008311354244017097 : Nat := 0
def PySem.W.Fast.tw16970359124656227379 : Nat := 0
def PySem.W.Fast.tw776614945995673342 : Nat := 0
def PySem.W.Fast.tw2087625420182185132 : Nat := 0
def PySem.W.Fast.tw14444726172888663073 : Nat := 0
def PySem.W.Fast.tw10231088568617981457 : Nat := 0
def PySem.W.Fast.tw3937974882966576888 : Nat := 0
def PySem.W.Fast.tw14966028423421437679 : Nat := 0
def PySem.W.Fast.tw14757680704517017340 : Nat := 0
def PySem.W.Fast.tw15021705426355642194 : Nat := 0
def PySem.W.Fast.tw3727677243792605091 : Nat := 0
def PySem.W.Fast.tw1533884951776523707 : Nat := 0
def PySem.W.Fast.tw11277643468084521436 : Nat := 0
def PySem.W.Fast.tw15726004311259409476 : Nat := 0
def PySem.W.Fast.tw8443376212166025077 : Nat := 0
def PySem.W.Fast.tw3306858369852723953 : Nat := 0
def PySem.W.Fast.tw11648343691604195242 : Nat := 0
def PySem.W.Fast.tw12196109567754024421 : Nat := 0
def PySem.W.Fast.tw6448993744320379724 : Nat := 0
def PySem.W.Fast.tw11743466629374037479 : Nat := 0
def PySem.W.Fast.tw540488748657110938 : Nat := 0
def PySem.W.Fast.tw979413278389327775 : Nat := 0
def PySem.W.Fast.tw12544228476388124541 : Nat := 0
def PySem.W.Fast.tw14082405546758678379 : Nat := 0
def PySem.W.Fast.tw16730873579043506766 : Nat := 0
def PySem.W.Fast.tw4175990591924110365 : Nat := 0
def PySem.W.Fast.tw14994497468382912766 : Nat := 0
def PySem.W.Fast.tw14518130056575157017 : Nat := 0
def PySem.W.Fast.tw9726820115485298420 : Nat := 0
def PySem.W.Fast.tw8470017162197192651 : Nat := 0
def PySem.W.Fast.tw17722820410957378573 : Nat := 0
def PySem.W.Fast.tw1848860134224701824 : Nat := 0
def PySem.W.Fast.tw3522234908747809113 : Nat := 0
def PySem.W.Fast.tw10428660717982405168 : Nat := 0
def PySem.W.Fast.tw13213802262714931492 : Nat := 0
def PySem.W.Fast.tw11266572875333292442 : Nat := 0
def PySem.W.Fast.tw16285329331656389587 : Nat := 0
def PySem.W.Fast.tw5839483350725868140 : Nat := 0
def PySem.W.Fast.tw16442342563783007592 : Nat := 0
def PySem.W.Fast.tw5083995173961187509 : Nat := 0
def PySem.W.Fast.tw3011312229436631767 : Nat := 0
def PySem.W.Fast.tw11478848278988032142 : Nat := 0
def PySem.W.Fast.tw11617282676467756259 : Nat := 0
def PySem.W.Fast.tw4611741594508324975 : Nat := 0
def PySem.W.Fast.tw7974952343429628834 : Nat := 0
def PySem.W.Fast.tw8596418473175010338 : Nat := 0
def PySem.W.Fast.tw6367082788773053350 : Nat := 0
def PySem.W.Fast.tw5056869945772848253 : Nat := 0
def PySem.W.Fast.tw11081157339249468458 : Nat := 0
def PySem.W.Fast.tw16912576976150436605 : Nat := 0
def PySem.W.Fast.tw14851490858443317571 : Nat := 0
def PySem.W.Fast.tw7348936664680573465 : Nat := 0
def PySem.W.Fast.tw5009228100607791520 : Nat := 0
def PySem.W.Fast.tw3110113415445063720 : Nat := 0
def PySem.W.Fast.tw17279562117875055210 : Nat := 0
def PySem.W.Fast.tw3208427666416562889 : Nat := 0
def PySem.W.Fast.tw1365643388149629479 : Nat := 0
def PySem.W.Fast.tw211366139689611938 : Nat := 0
def PySem.W.Fast.tw10462451023456221647 : Nat := 0
def PySem.W.Fast.tw3678724982720305966 : Nat := 0
def PySem.W.Fast.tw871026001278852984 : Nat := 0
def PySem.W.Fast.tw2515945674538208556 : Nat := 0
def PySem.W.Fast.tw6373485772217925494 : Nat := 0
def PySem.W.Fast.tw2668559932327498245 : Nat := 0
def PySem.W.Fast.tw1303054469220177578 : Nat := 0
def PySem.W.Fast.tw12900896783036157125 : Nat := 0
def PySem.W.Fast.tw634983190199665071 : Nat := 0
def PySem.W.Fast.tw12232830644401044207 : Nat := 0
def PySem.W.Fast.tw3850264252428267209 : Nat := 0
def PySem.W.Fast.tw543917167725117324 : Nat := 0
def PySem.W.Fast.tw2362426565334731897 : Nat := 0
def PySem.W.Fast.tw15814232964002997158 : Nat := 0
def PySem.W.Fast.tw10283080214918496247 : Nat := 0
def PySem.W.Fast.tw10645251841872861522 : Nat := 0
def PySem.W.Fast.tw12677972290683499910 : Nat := 0
def PySem.W.Fast.tw1567959888757004160 : Nat := 0
def PySem.W.Fast.tw9237070232906530150 : Nat := 0
def PySem.W.Fast.tw10396291726666937301 : Nat := 0
def PySem.W.Fast.tw1546014898882268621 : Nat := 0
def PySem.W.Fast.tw294114745002589813 : Nat := 0
def PySem.W.Fast.tw3754379259669423747 : Nat := 0
def PySem.W.Fast.tw4297416842329785551 : Nat := 0
def PySem.W.Fast.tw15017854168857093194 : Nat := 0
def PySem.W.Fast.tw15618517603145277588 : Nat := 0
def PySem.W.Fast.tw8829060469274561370 : Nat := 0
def PySem.W.Fast.tw182726471505679509 : Nat := 0
def PySem.W.Fast.tw2375552379738503424 : Nat := 0
def PySem.W.Fast.tw16425677667905219691 : Nat := 0
def PySem.W.Fast.tw9261606209877215040 : Nat := 0
def PySem.W.Fast.tw3698416516348197769 : Nat := 0
def PySem.W.Fast.tw14691792190543351545 : Nat := 0
def PySem.W.Fast.tw10404028563462090928 : Nat := 0
def PySem.W.Fast.tw12185730555742214296 : Nat := 0
def PySem.W.Fast.tw3943853247337125655 : Nat := 0
def PySem.W.Fast.tw9915834606333527145 : Nat := 0
def PySem.W.Fast.tw6000810123097508097 : Nat := 0
def PySem.W.Fast.tw3640485020123598012 : Nat := 0
def PySem.W.Fast.tw8682036753883490031 : Nat := 0
def PySem.W.Fast.tw10317029833026645565 : Nat := 0
def PySem.W.Fast.tw14767207598992350361 : Nat := 0
def PySem.W.Fast.tw967117094103848292 : Nat := 0
def PySem.W.Fast.tw2061582832166570262 : Nat := 0
def PySem.W.Fast.tw16902606199482023698 : Nat := 0
def PySem.W.Fast.tw5010333992619807284 : Nat := 0
def PySem.W.Fast.tw7155738622037275357 : Nat := 0
def PySem.W.Fast.tw2024250548013283286 : Nat := 0
def PySem.W.Fast.tw17777724880803660132 : Nat := 0
def PySem.W.Fast.tw2243475431915090869 : Nat := 0
def PySem.W.Fast.tw10100481398938605292 : Nat := 0
def PySem.W.Fast.tw1476505996366232723 : Nat := 0
def PySem.W.Fast.tw15853484593609817003 : Nat := 0
def PySem.W.Fast.tw16498179150381035942 : Nat := 0
def PySem.W.Fast.tw11435448543217295095 : Nat := 0
def PySem.W.Fast.tw7821288019350412980 : Nat := 0
def PySem.W.Fast.tw11846777626153845223 : Nat := 0
def PySem.W.Fast.tw8944339725847930889 : Nat := 0
def PySem.W.Fast.tw11119083330382590767 : Nat := 0
def PySem.W.Fast.tw9189782869855866929 : Nat := 0
def PySem.W.Fast.tw10411505992847129946 : Nat := 0
def PySem.W.Fast.tw472930802051443128 : Nat := 0
def PySem.W.Fast.tw9218934773070698337 : Nat := 0
def PySem.W.Fast.tw1186017139172339430 : Nat := 0
def PySem.W.Fast.tw1602333782327601447 : Nat := 0
def PySem.W.Fast.tw17668445251190823225 : Nat := 0
def PySem.W.Fast.tw15193273383029548683 : Nat := 0
def PySem.W.Fast.tw2174099577634484361 : Nat := 0
def PySem.W.Fast.tw12502548105562886243 : Nat := 0
def PySem.W.Fast.tw7882868850285744382 : Nat := 0
def PySem.W.Fast.tw3021295187064079378 : Nat := 0
def PySem.W.Fast.tw8565244810975322636 : Nat := 0
def PySem.W.Fast.tw12328392803557737121 : Nat := 0
def PySem.W.Fast.tw4835710304238425262 : Nat := 0
def PySem.W.Fast.tw13606851188496185440 : Nat := 0
def PySem.W.Fast.tw15264166212926374214 : Nat := 0
def PySem.W.Fast.tw18324080297914895581 : Nat := 0
def PySem.W.Fast.tw17324148978883661076 : Nat := 0
def PySem.W.Fast.tw6234809231782691962 : Nat := 0
def PySem.W.Fast.tw2255057584443704525 : Nat := 0
def PySem.W.Fast.tw7048483446184673038 : Nat := 0
def PySem.W.Fast.tw3472569640271590713 : Nat := 0
def PySem.W.Fast.tw7447713486777699837 : Nat := 0
def PySem.W.Fast.tw10302496311170364390 : Nat := 0
def PySem.W.Fast.tw1040220489983614271 : Nat := 0
def PySem.W.Fast.tw11715794839257356701 : Nat := 0
def PySem.W.Fast.tw3626414349999281290 : Nat := 0
def PySem.W.Fast.tw16504964712243929781 : Nat := 0
def PySem.W.Fast.tw13454403946686420628 : Nat := 0
def PySem.W.Fast.tw16988521738714632106 : Nat := 0
def PySem.W.Fast.tw15040582033567797505 : Nat := 0
def PySem.W.Fast.tw17171039635120582332 : Nat := 0
def PySem.W.Fast.tw505173757804334921 : Nat := 0
def PySem.W.Fast.tw1248210557878774796 : Nat := 0
def PySem.W.Fast.tw10730987308880375951 : Nat := 0
def PySem.W.Fast.tw16635939852637918076 : Nat := 0
def PySem.W.Fast.tw4920376654114231717 : Nat := 0
def PySem.W.Fast.tw1679340183840289902 : Nat := 0
def PySem.W.Fast.tw1841781237688219440 : Nat := 0
def PySem.W.Fast.tw12164552897849582897 : Nat := 0
def PySem.W.Fast.tw18000086185675532855 : Nat := 0
def PySem.W.Fast.tw15058717500309269724 : Nat := 0
def PySem.W.Fast.tw1387848415155679507 : Nat := 0
def PySem.W.Fast.tw8887783359488915482 : Nat := 0
def PySem.W.Fast.tw2690399154995083340 : Nat := 0
def PySem.W.Fast.tw1106592773519565454 : Nat := 0
def PySem.W.Fast.tw760176369585119926 : Nat := 0
def PySem.W.Fast.tw5896188444698930453 : Nat := 0
def PySem.W.Fast.tw8060085944122905099 : Nat := 0
def PySem.W.Fast.tw14862270750352863372 : Nat := 0
def PySem.W.Fast.tw11238958000038090186 : Nat := 0
def PySem.W.Fast.tw796322286191099042 : Nat := 0
def PySem.W.Fast.tw1659822745667443833 : Nat := 0
def PySem.W.Fast.tw9637588519273959015 : Nat := 0
def PySem.W.Fast.tw5076657783503168463 : Nat := 0
def PySem.W.Fast.tw12857291629769015605 : Nat := 0
def PySem.W.Fast.tw10235596846443238506 : Nat := 0
def PySem.W.Fast.tw16295093850554725844 : Nat := 0
def PySem.W.Fast.tw9499712795323914318 : Nat := 0
def PySem.W.Fast.tw9662332575545776381 : Nat := 0
def PySem.W.Fast.tw16421545670101309782 : Nat := 0
def PySem.W.Fast.tw10174920731568924958 : Nat := 0
def PySem.W.Fast.tw610349777880254364 : Nat := 0
def PySem.W.Fast.tw11606685385644895181 : Nat := 0
def PySem.W.Fast.tw13558772866189761007 : Nat := 0
def PySem.W.Fast.tw12234038943166920014 : Nat := 0
def PySem.W.Fast.tw10856096555893966416 : Nat := 0
def PySem.W.Fast.tw4645212407021171841 : Nat := 0
def PySem.W.Fast.tw11194203432413783009 : Nat := 0
def PySem.W.Fast.tw6502157988751391348 : Nat := 0
def PySem.W.Fast.tw4219928731679427474 : Nat := 0
def PySem.W.Fast.tw9181694576514542727 : Nat := 0
def PySem.W.Fast.tw10605575132486394693 : Nat := 0
def PySem.W.Fast.tw8612489244406440869 : Nat := 0
def PySem.W.Fast.tw2077461934902858121 : Nat := 0
def PySem.W.Fast.tw6002878054373501533 : Nat := 0
def PySem.W.Fast.tw15619406600721276466 : Nat := 0
def PySem.W.Fast.tw17726837487241034984 : Nat := 0
def PySem.W.Fast.tw10405504493152670171 : Nat := 0
def PySem.W.Fast.tw10778075968626382764 : Nat := 0
def PySem.W.Fast.tw10313633333305464878 : Nat := 0
def PySem.W.Fast.tw14772235626651931802 : Nat := 0
def PySem.W.Fast.tw4357423757861014427 : Nat := 0
def PySem.W.Fast.tw2979832317110449350 : Nat := 0
def PySem.W.Fast.tw14737578154555424726 : Nat := 0
def PySem.W.Fast.tw9037909520637951926 : Nat := 0
def PySem.W.Fast.tw1754891159359673462 : Nat := 0
def PySem.W.Fast.tw12425753674368083575 : Nat := 0
def PySem.W.Fast.tw3309919145416599826 : Nat := 0
def PySem.W.Fast.tw6935320466145970257 : Nat := 0
def PySem.W.Fast.tw10225872062649972165 : Nat := 0
def PySem.W.Fast.tw4862982424852952980 : Nat := 0
def PySem.W.Fast.tw4453607076536299184 : Nat := 0
def PySem.W.Fast.tw13546529841760811822 : Nat := 0
def PySem.W.Fast.tw5288036162620906115 : Nat := 0
def PySem.W.Fast.tw7079407683827884318 : Nat := 0
def PySem.W.Fast.tw17775282660302444119 : Nat := 0
def PySem.W.Fast.tw12862732108646243577 : Nat := 0
def PySem.W.Fast.tw11333159948618494323 : Nat := 0
def PySem.W.Fast.tw3065532755086944476 : Nat := 0
def PySem.W.Fast.tw413226832527245859 : Nat := 0
def PySem.W.Fast.tw8311920085304099590 : Nat := 0
def PySem.W.Fast.tw14038366636681297070 : Nat := 0
def PySem.W.Fast.tw15643737573995303530 : Nat := 0
def PySem.W.Fast.tw13910568665841169944 : Nat := 0
def PySem.W.Fast.tw4931350099694509510 : Nat := 0
def PySem.W.Fast.tw2760011494116893520 : Nat := 0
def PySem.W.Fast.tw8152331060250950304 : Nat := 0
def PySem.W.Fast.tw3529146570139149111 : Nat := 0
def PySem.W.Fast.tw12653740224812820783 : Nat := 0
def PySem.W.Fast.tw15770717146705279384 : Nat := 0
def PySem.W.Fast.tw13129894412325788056 : Nat := 0
def PySem.W.Fast.tw17469300083213925372 : Nat := 0
def PySem.W.Fast.tw15047706150733876578 : Nat := 0
def PySem.W.Fast.tw1724369148077876970 : Nat := 0
def PySem.W.Fast.tw1258072747125283611 : Nat := 0
def PySem.W.Fast.tw4518476364804483370 : Nat := 0
def PySem.W.Fast.tw351837255727199856 : Nat := 0
def PySem.W.Fast.tw2246821131400693482 : Nat := 0
def PySem.W.Fast.tw11684210615601330350 : Nat := 0
def PySem.W.Fast.tw7827655863211387665 : Nat := 0
def PySem.W.Fast.tw7974023928002786532 : Nat := 0
def PySem.W.Fast.tw8805942008523274150 : Nat := 0
def PySem.W.Fast.tw1480553486290765374 : Nat := 0
def PySem.W.Fast.tw12615559258734828940 : Nat := 0
def PySem.W.Fast.tw2265109827231690208 : Nat := 0
def PySem.W.Fast.tw7116298360296787755 : Nat := 0
def PySem.W.Fast.tw8344041522588265735 : Nat := 0
def PySem.W.Fast.tw9995748281234854962 : Nat := 0
def PySem.W.Fast.tw8082298046473094528 : Nat := 0
def PySem.W.Fast.tw11147498650814493212 : Nat := 0
def PySem.W.Fast.tw12189812839505093671 : Nat := 0
def PySem.W.Fast.tw16010659463254136953 : Nat := 0
def PySem.W.Fast.tw15355076621547850770 : Nat := 0
def PySem.W.Fast.tw16159964298568670700 : Nat := 0
def PySem.W.Fast.tw5027706370400491031 : Nat := 0
def PySem.W.Fast.tw8617388829943459428 : Nat := 0
def PySem.W.Fast.tw11686306642911074160 : Nat := 0
def PySem.W.Fast.tw10092873108963181856 : Nat := 0
def PySem.W.Fast.tw12480871032553051307 : Nat := 0
def PySem.W.Fast.tw15093766203086109367 : Nat := 0
def PySem.W.Fast.tw17298681479785153297 : Nat := 0
def PySem.W.Fast.tw7036038265130104484 : Nat := 0
def PySem.W.Fast.tw13821262905476124295 : Nat := 0
def PySem.W.Fast.tw16678396820294667218 : Nat := 0
def PySem.W.Fast.tw6006549671413070223 : Nat := 0
def PySem.W.Fast.tw6853981860784953740 : Nat := 0
def PySem.W.Fast.tw6956776710871480071 : Nat := 0
def PySem.W.Fast.tw749916726529621632 : Nat := 0
def PySem.W.Fast.tw9221176749024970076 : Nat := 0
def PySem.W.Fast.tw2844467617766848695 : Nat := 0
def PySem.W.Fast.tw1286117610432370302 : Nat := 0
def PySem.W.Fast.tw1106737612069810183 : Nat := 0
def PySem.W.Fast.tw13998086659179503188 : Nat := 0
def PySem.W.Fast.tw18325038183017888506 : Nat := 0
def PySem.W.Fast.tw2096406542794640861 : Nat := 0
def PySem.W.Fast.tw17944270987039624918 : Nat := 0
def PySem.W.Fast.tw7552677970136518982 : Nat := 0
def PySem.W.Fast.tw15553646828621397733 : Nat := 0
def PySem.W.Fast.tw6871699225298301371 : Nat := 0
def PySem.W.Fast.tw15387889030155464160 : Nat := 0
def PySem.W.Fast.tw9248874374904827859 : Nat := 0
def PySem.W.Fast.tw3388741340203349276 : Nat := 0
def PySem.W.Fast.tw7734107009792003101 : Nat := 0
def PySem.W.Fast.tw1429595346045607848 : Nat := 0
def PySem.W.Fast.tw13323992403239141882 : Nat := 0
def PySem.W.Fast.tw8515283512848430967 : Nat := 0
def PySem.W.Fast.tw1997518688941733209 : Nat := 0
def PySem.W.Fast.tw11640289397657210181 : Nat := 0
def PySem.W.Fast.tw11941266847323152658 : Nat := 0
def PySem.W.Fast.tw7476298156721310359 : Nat := 0
def PySem.W.Fast.tw7018980596709720273 : Nat := 0
def PySem.W.Fast.tw8730979244242124767 : Nat := 0
def PySem.W.Fast.tw10064554224257208179 : Nat := 0
def PySem.W.Fast.tw938370764971330632 : Nat := 0
def PySem.W.Fast.tw18321625118163202718 : Nat := 0
def PySem.W.Fast.tw10999935062356768783 : Nat := 0
def PySem.W.Fast.tw9402553278170310510 : Nat := 0
def PySem.W.Fast.tw15106366036488150112 : Nat := 0
def PySem.W.Fast.tw9595326715261792453 : Nat := 0
def PySem.W.Fast.tw17875081580754911859 : Nat := 0
def PySem.W.Fast.tw8908275182881907944 : Nat := 0
def PySem.W.Fast.tw15141649953290584849 : Nat := 0
def PySem.W.Fast.tw4313212939712633462 : Nat := 0
def PySem.W.Fast.tw17622131034084769091 : Nat := 0
def PySem.W.Fast.tw995885556321982842 : Nat := 0
def PySem.W.Fast.tw9012333280192567538 : Nat := 0
def PySem.W.Fast.tw12179729868388184009 : Nat := 0
def PySem.W.Fast.tw13207723126107232653 : Nat := 0
def PySem.W.Fast.tw16107581422925141186 : Nat := 0
def PySem.W.Fast.tw9150646619487212940 : Nat := 0
def PySem.W.Fast.tw7031984469133555723 : Nat := 0
def PySem.W.Fast.tw9096464743777590398 : Nat := 0
def PySem.W.Fast.tw15318184029897095204 : Nat := 0
def PySem.W.Fast.tw17868007331584413034 : Nat := 0
def PySem.W.Fast.tw1045684764088387695 : Nat := 0
def PySem.W.Fast.tw17335593120106787310 : Nat := 0
def PySem.W.Fast.tw2494728385952801840 : Nat := 0
def PySem.W.Fast.tw16359862596179788204 : Nat := 0
def PySem.W.Fast.tw4166680630737760143 : Nat := 0
def PySem.W.Fast.tw10863256530733352162 : Nat := 0
def PySem.W.Fast.tw16367521436384017111 : Nat := 0
def PySem.W.Fast.tw17625839748469955500 : Nat := 0
def PySem.W.Fast.tw18380139788065830471 : Nat := 0
def PySem.W.Fast.tw2436918933963806688 : Nat := 0
def PySem.W.Fast.tw3768295395218594628 : Nat := 0
def PySem.W.Fast.tw10916683078722724685 : Nat := 0
def PySem.W.Fast.tw14768030768443604734 : Nat := 0
def PySem.W.Fast.tw3142764318655496464 : Nat := 0
def PySem.W.Fast.tw4416621187653632864 : Nat := 0
def PySem.W.Fast.tw2993266539432062897 : Nat := 0
def PySem.W.Fast.tw4198198487840423027 : Nat := 0
def PySem.W.Fast.tw14886011229959236779 : Nat := 0
def PySem.W.Fast.tw16636967105771031485 : Nat := 0
def PySem.W.Fast.tw14163589657808858546 : Nat := 0
def PySem.W.Fast.tw1669611914260153616 : Nat := 0
def PySem.W.Fast.tw3644987358339940920 : Nat := 0
def PySem.W.Fast.tw5289581284057626389 : Nat := 0
def PySem.W.Fast.tw8819502893712638109 : Nat := 0
def PySem.W.Fast.tw3778896900931480748 : Nat := 0
def PySem.W.Fast.tw7557107973714047032 : Nat := 0
def PySem.W.Fast.tw3893094070926325471 : Nat := 0
def PySem.W.Fast.tw15853867871068439753 : Nat := 0
def PySem.W.Fast.tw4381132920775888459 : Nat := 0
def PySem.W.Fast.tw4458325883301552725 : Nat := 0
def PySem.W.Fast.tw11459459741957314302 : Nat := 0
def PySem.W.Fast.tw13315970462195916623 : Nat := 0
def PySem.W.Fast.tw1896268065890803314 : Nat := 0
def PySem.W.Fast.tw128714818676871533 : Nat := 0
def PySem.W.Fast.tw12908409267674255333 : Nat := 0
def PySem.W.Fast.tw11939547580532433642 : Nat := 0
def PySem.W.Fast.tw13727379852671382184 : Nat := 0
def PySem.W.Fast.tw1157156954827106128 : Nat := 0
def PySem.W.Fast.tw12805962469716772282 : Nat := 0
def PySem.W.Fast.tw1307544206637593184 : Nat := 0
def PySem.W.Fast.tw1900881872602579939 : Nat := 0
def PySem.W.Fast.tw1657708375622572562 : Nat := 0
def PySem.W.Fast.tw7868315517414254221 : Nat := 0
def PySem.W.Fast.tw5320683677881199938 : Nat := 0
def PySem.W.Fast.tw17648099473958705000 : Nat := 0
def PySem.W.Fast.tw5536305870238362546 : Nat := 0
def PySem.W.Fast.tw5719296322132649517 : Nat := 0
def PySem.W.Fast.tw15777877615135469986 : Nat := 0
def PySem.W.Fast.tw6088315199029347560 : Nat := 0
def PySem.W.Fast.tw4270176298747345615 : Nat := 0
def PySem.W.Fast.tw11914499308393953099 : Nat := 0
def PySem.W.Fast.tw2374491030766491561 : Nat := 0
def PySem.W.Fast.tw9610821686260911064 : Nat := 0
def PySem.W.Fast.tw9638523205033092861 : Nat := 0
def PySem.W.Fast.tw12278762032568464707 : Nat := 0
def PySem.W.Fast.tw9703052690709043214 : Nat := 0
def PySem.W.Fast.tw17692643881060883824 : Nat := 0
def PySem.W.Fast.tw5853711748145415323 : Nat := 0
def PySem.W.Fast.tw3599474862554767830 : Nat := 0
def PySem.W.Fast.tw9930717629053862125 : Nat := 0
def PySem.W.Fast.tw8082599484741834103 : Nat := 0
def PySem.W.Fast.tw7832148390657505834 : Nat := 0
def PySem.W.Fast.tw11570527242760490982 : Nat := 0
def PySem.W.Fast.tw2315098329951150948 : Nat := 0
def PySem.W.Fast.tw13767710980765283709 : Nat := 0
def PySem.W.Fast.tw13401645440786370638 : Nat := 0
def PySem.W.Fast.tw2037119526031006018 : Nat := 0
def PySem.W.Fast.tw4472745427443185186 : Nat := 0
def PySem.W.Fast.tw17642180950185038593 : Nat := 0
def PySem.W.Fast.tw8088541961496914408 : Nat := 0
def PySem.W.Fast.tw857016256100121284 : Nat := 0
def PySem.W.Fast.tw5225741704615005071 : Nat := 0
def PySem.W.Fast.tw10051810932851212149 : Nat := 0
def PySem.W.Fast.tw15982073499954013878 : Nat := 0
def PySem.W.Fast.tw9916537287298257015 : Nat := 0
def PySem.W.Fast.tw9513026964686836761 : Nat := 0
def PySem.W.Fast.tw2554595983230303680 : Nat := 0
def PySem.W.Fast.tw690490771651620853 : Nat := 0
def PySem.W.Fast.tw17291161002837086780 : Nat := 0
def PySem.W.Fast.tw8332512671819234854 : Nat := 0
def PySem.W.Fast.tw12285663003153663527 : Nat := 0
def PySem.W.Fast.tw7917169401306162646 : Nat := 0
def PySem.W.Fast.tw1825111628923090120 : Nat := 0
def PySem.W.Fast.tw12426952210919645609 : Nat := 0
def PySem.W.Fast.tw17229609976339496938 : Nat := 0
def PySem.W.Fast.tw12104096955887480495 : Nat := 0
def PySem.W.Fast.tw15301592336194842416 : Nat := 0
def PySem.W.Fast.tw7708116827328706751 : Nat := 0
def PySem.W.Fast.tw15012243641192713695 : Nat := 0
def PySem.W.Fast.tw13571194444921038907 : Nat := 0
def PySem.W.Fast.tw386883372443003627 : Nat := 0
def PySem.W.Fast.tw4313460876743720331 : Nat := 0
def PySem.W.Fast.tw560938896312874960 : Nat := 0
def PySem.W.Fast.tw4313805292755025710 : Nat := 0
def PySem.W.Fast.tw16460512696268713203 : Nat := 0
def PySem.W.Fast.tw15519105115995302683 : Nat := 0
def PySem.W.Fast.tw7930150578283427677 : Nat := 0
def PySem.W.Fast.tw13668648348156399982 : Nat := 0
def PySem.W.Fast.tw950870422221879871 : Nat := 0
def PySem.W.Fast.tw4563205361336849706 : Nat := 0
def PySem.W.Fast.tw15445186462219928884 : Nat := 0
def PySem.W.Fast.tw17228499867318633545 : Nat := 0
def PySem.W.Fast.tw11509547484604554970 : Nat := 0
def PySem.W.Fast.tw8770600701772898472 : Nat := 0
def PySem.W.Fast.tw14750208913113523098 : Nat := 0
def PySem.W.Fast.tw5519872162736321104 : Nat := 0
def PySem.W.Fast.tw1076622094974658004 : Nat := 0
def PySem.W.Fast.tw8453398299030146785 : Nat := 0
def PySem.W.Fast.tw2956590690116499723 : Nat := 0
def PySem.W.Fast.tw256730487858796696 : Nat := 0
def PySem.W.Fast.tw12402688675042508426 : Nat := 0
def PySem.W.Fast.tw2607114900510543007 : Nat := 0
def PySem.W.Fast.tw16736449701048366998 : Nat := 0
def PySem.W.Fast.tw5502981437067349886 : Nat := 0
def PySem.W.Fast.tw3889182412539653617 : Nat := 0
def PySem.W.Fast.tw8476172947431352482 : Nat := 0
def PySem.W.Fast.tw11084873313586579555 : Nat := 0
def PySem.W.Fast.tw5294272068206913468 : Nat := 0
def PySem.W.Fast.tw9805301963767046305 : Nat := 0
def PySem.W.Fast.tw8556185744817467732 : Nat := 0
def PySem.W.Fast.tw17891423799865271811 : Nat := 0
def PySem.W.Fast.tw18157921035240695087 : Nat := 0
def PySem.W.Fast.tw6026043554265163040 : Nat := 0
def PySem.W.Fast.tw12436618450309127259 : Nat := 0
def PySem.W.Fast.tw2741505526680795387 : Nat := 0
def PySem.W.Fast.tw7734002588265409585 : Nat := 0
def PySem.W.Fast.tw18381980996410722060 : Nat := 0
def PySem.W.Fast.tw17210985810928453920 : Nat := 0
def PySem.W.Fast.tw1229743871281458435 : Nat := 0
def PySem.W.Fast.tw12067896512816462460 : Nat := 0
def PySem.W.Fast.tw17385871038093405271 : Nat := 0
def PySem.W.Fast.tw10733343368856139034 : Nat := 0
def PySem.W.Fast.tw13013688640749526750 : Nat := 0
def PySem.W.Fast.tw4124103367955882312 : Nat := 0
def PySem.W.Fast.tw4553720100387470207 : Nat := 0
def PySem.W.Fast.tw12027582123160586647 : Nat := 0
def PySem.W.Fast.tw8310227696914825380 : Nat := 0
def PySem.W.Fast.tw18163294218724348307 : Nat := 0
def PySem.W.Fast.tw17874126775468176420 : Nat := 0
def PySem.W.Fast.tw12533933252556555416 : Nat := 0
def PySem.W.Fast.tw11104655443925187031 : Nat := 0
def PySem.W.Fast.tw16065573224813158926 : Nat := 0
def PySem.W.Fast.tw12997215172233260968 : Nat := 0
def PySem.W.Fast.tw1074611275722532269 : Nat := 0
def PySem.W.Fast.tw9399160895550316805 : Nat := 0
def PySem.W.Fast.tw4206120702616750007 : Nat := 0
def PySem.W.Fast.tw4631648946273876671 : Nat := 0
def PySem.W.Fast.tw2676603879214047308 : Nat := 0
def PySem.W.Fast.tw1446111462968913247 : Nat := 0
def PySem.W.Fast.tw15524729099042859289 : Nat := 0
def PySem.W.Fast.tw515862974544959084 : Nat := 0
def PySem.W.Fast.tw3090273455210071845 : Nat := 0
def PySem.W.Fast.tw13499324941792629630 : Nat := 0
def PySem.W.Fast.tw11366296695979275956 : Nat := 0
def PySem.W.Fast.tw12967347606223938439 : Nat := 0
def PySem.W.Fast.tw5133825164117524744 : Nat := 0
def PySem.W.Fast.tw12209172100957560507 : Nat := 0
def PySem.W.Fast.tw5253604964669705788 : Nat := 0
def PySem.W.Fast.tw8730701882850304698 : Nat := 0
def PySem.W.Fast.tw11761567524170570905 : Nat := 0
def PySem.W.Fast.tw13561033725930327346 : Nat := 0
def PySem.W.Fast.tw3019901495533139846 : Nat := 0
def PySem.W.Fast.tw5694507949576721973 : Nat := 0
def PySem.W.Fast.tw12723421657712133168 : Nat := 0
def PySem.W.Fast.tw9965348798076925901 : Nat := 0
def PySem.W.Fast.tw12942203133882354703 : Nat := 0
def PySem.W.Fast.tw9138880084590248962 : Nat := 0
def PySem.W.Fast.tw3578057431632908357 : Nat := 0
def PySem.W.Fast.tw5047415282411130479 : Nat := 0
def PySem.W.Fast.tw12912155201252487216 : Nat := 0
def PySem.W.Fast.tw4498039313128276924 : Nat := 0
def PySem.W.Fast.tw7030318182899043259 : Nat := 0
def PySem.W.Fast.tw12831306624754093353 : Nat := 0
def PySem.W.Fast.tw3863845801747353682 : Nat := 0
def PySem.W.Fast.tw4729202482666365270 : Nat := 0
def PySem.W.Fast.tw17360822894904628858 : Nat := 0
def PySem.W.Fast.tw3174286978905450770 : Nat := 0
def PySem.W.Fast.tw10810208378965752038 : Nat := 0
def PySem.W.Fast.tw13945012799998151714 : Nat := 0
def PySem.W.Fast.tw5906014640192731965 : Nat := 0
def PySem.W.Fast.tw11919106182309893284 : Nat := 0
def PySem.W.Fast.tw3919509514870684879 : Nat := 0
def PySem.W.Fast.tw12175132300024607668 : Nat := 0
def PySem.W.Fast.tw2795478705735624394 : Nat := 0
def PySem.W.Fast.tw11010997572041730719 : Nat := 0
def PySem.W.Fast.tw17546337970458301102 : Nat := 0
def PySem.W.Fast.tw14172524116776526736 : Nat := 0
def PySem.W.Fast.tw9765304196796366668 : Nat := 0
def PySem.W.Fast.tw13257273142184676944 : Nat := 0
def PySem.W.Fast.tw9176392524399520616 : Nat := 0
def PySem.W.Fast.tw8117030142468832996 : Nat := 0
def PySem.W.Fast.tw13410658594205767232 : Nat := 0
def PySem.W.Fast.tw3241025126344925173 : Nat := 0
def PySem.W.Fast.tw17919508230979254410 : Nat := 0
def PySem.W.Fast.tw6310564928585286673 : Nat := 0
def PySem.W.Fast.tw5143538443275889218 : Nat := 0
def PySem.W.Fast.tw4785789250326629467 : Nat := 0
def PySem.W.Fast.tw11310781603824649454 : Nat := 0
def PySem.W.Fast.tw1334258328777990654 : Nat := 0
def PySem.W.Fast.tw4155009936031444404 : Nat := 0
def PySem.W.Fast.tw12625184314966530124 : Nat := 0
def PySem.W.Fast.tw7566459769738754932 : Nat := 0
def PySem.W.Fast.tw7369229369981169726 : Nat := 0
def PySem.W.Fast.tw13046016578496959143 : Nat := 0
def PySem.W.Fast.tw3255830777299514746 : Nat := 0
def PySem.W.Fast.tw3601913471931234169 : Nat := 0
def PySem.W.Fast.tw6176916902666761851 : Nat := 0
def PySem.W.Fast.tw5845062071445389395 : Nat := 0
def PySem.W.Fast.tw1623472629297608284 : Nat := 0
def PySem.W.Fast.tw16165129392660998626 : Nat := 0
def PySem.W.Fast.tw262396463219537669 : Nat := 0
def PySem.W.Fast.tw15127418212020993159 : Nat := 0
def PySem.W.Fast.tw13102059241493641905 : Nat := 0
def PySem.W.Fast.tw7902276272733170168 : Nat := 0
def PySem.W.Fast.tw11882008019200042648 : Nat := 0
def PySem.W.Fast.tw3168884981448550722 : Nat := 0
def PySem.W.Fast.tw1769992245785022536 : Nat := 0
def PySem.W.Fast.tw14309287153351799480 : Nat := 0
def PySem.W.Fast.tw17466805437968186682 : Nat := 0
def PySem.W.Fast.tw11441252951742180454 : Nat := 0
def PySem.W.Fast.tw12420244676531920497 : Nat := 0
def PySem.W.Fast.tw16304035233558733798 : Nat := 0
def PySem.W.Fast.tw16190482647115094165 : Nat := 0
def PySem.W.Fast.tw5763407155937862758 : Nat := 0
def PySem.W.Fast.tw15581423653987105426 : Nat := 0
def PySem.W.Fast.tw13296228360777050563 : Nat := 0
def PySem.W.Fast.tw7173418201664862529 : Nat := 0
def PySem.W.Fast.tw6883110475877754786 : Nat := 0
def PySem.W.Fast.tw5019973550615707716 : Nat := 0
def PySem.W.Fast.tw17633202170784656631 : Nat := 0
def PySem.W.Fast.tw2293323316355208395 : Nat := 0
def PySem.W.Fast.tw10469893148917034389 : Nat := 0
def PySem.W.Fast.tw14292073908148486373 : Nat := 0
def PySem.W.Fast.tw1357836632118927671 : Nat := 0
def PySem.W.Fast.tw12650374031637027123 : Nat := 0
def PySem.W.Fast.tw17538919122422527805 : Nat := 0
def PySem.W.Fast.tw12902026176095558336 : Nat := 0
def PySem.W.Fast.tw4681157288963250125 : Nat := 0
def PySem.W.Fast.tw176074002303768984 : Nat := 0
def PySem.W.Fast.tw4194139414005038761 : Nat := 0
def PySem.W.Fast.tw7697361490083606661 : Nat := 0
def PySem.W.Fast.tw1922731666615763332 : Nat := 0
def PySem.W.Fast.tw7783189340170894790 : Nat := 0
def PySem.W.Fast.tw4297122788805569049 : Nat := 0
def PySem.W.Fast.tw10661195430514109217 : Nat := 0
def PySem.W.Fast.tw2605812604203574764 : Nat := 0
def PySem.W.Fast.tw14092353101747010538 : Nat := 0
def PySem.W.Fast.tw3434809386695098733 : Nat := 0
def PySem.W.Fast.tw3119521500737872271 : Nat := 0
def PySem.W.Fast.tw10459357297461737553 : Nat := 0
def PySem.W.Fast.tw6781711462606224235 : Nat := 0
def PySem.W.Fast.tw10188131211810930664 : Nat := 0
def PySem.W.Fast.tw4642550396171917066 : Nat := 0
def PySem.W.Fast.tw2291691355134083550 : Nat := 0
def PySem.W.Fast.tw7966405266753100777 : Nat := 0
def PySem.W.Fast.tw17010427736363185205 : Nat := 0
def PySem.W.Fast.tw15239178440227248240 : Nat := 0
def PySem.W.Fast.tw6702341814238094265 : Nat := 0
def PySem.W.Fast.tw17951696063932289105 : Nat := 0
def PySem.W.Fast.tw8008518881088986623 : Nat := 0
def PySem.W.Fast.tw9386184670980474282 : Nat := 0
def PySem.W.Fast.tw7366931645000481222 : Nat := 0
def PySem.W.Fast.tw1309128444957334282 : Nat := 0
def PySem.W.Fast.tw13993561505191120879 : Nat := 0
def PySem.W.Fast.tw4198105965753734368 : Nat := 0
def PySem.W.Fast.tw9554695325455527790 : Nat := 0
def PySem.W.Fast.tw1292873010273006806 : Nat := 0
def PySem.W.Fast.tw521544963314926163 : Nat := 0
def PySem.W.Fast.tw3286248912545388552 : Nat := 0
def PySem.W.Fast.tw13070368053494319235 : Nat := 0
def PySem.W.Fast.tw4300288965093933361 : Nat := 0
def PySem.W.Fast.tw4247511957351251425 : Nat := 0
def PySem.W.Fast.tw17395081314777281727 : Nat := 0
def PySem.W.Fast.tw17504219700197505113 : Nat := 0
def PySem.W.Fast.tw10184963563443417530 : Nat := 0
def PySem.W.Fast.tw4555187737315023004 : Nat := 0
def PySem.W.Fast.tw9661762856631517486 : Nat := 0
def PySem.W.Fast.tw448279956251418251 : Nat := 0
def PySem.W.Fast.tw4532841201009070650 : Nat := 0
def PySem.W.Fast.tw8180881980809228406 : Nat := 0
def PySem.W.Fast.tw8748515162213414076 : Nat := 0
def PySem.W.Fast.tw4765897032375226 : Nat := 0
def PySem.W.Fast.tw101380949194532914 : Nat := 0
def PySem.W.Fast.tw2687697017315623746 : Nat := 0
def PySem.W.Fast.tw14336668111075663258 : Nat := 0
def PySem.W.Fast.tw9039703524942841 : Nat := 0
def PySem.W.Fast.tw15788531243165778150 : Nat := 0
def PySem.W.Fast.tw4705684252432340744 : Nat := 0
def PySem.W.Fast.tw5701772888362274852 : Nat := 0
def PySem.W.Fast.tw2354236335633487419 : Nat := 0
def PySem.W.Fast.tw9352242217936422676 : Nat := 0
def PySem.W.Fast.tw5074973503241384276 : Nat := 0
def PySem.W.Fast.tw14872859772079528894 : Nat := 0
def PySem.W.Fast.tw12161512028360756153 : Nat := 0
def PySem.W.Fast.tw4328787266766947430 : Nat := 0
def PySem.W.Fast.tw17003241287194364922 : Nat := 0
def PySem.W.Fast.tw6725012404337630744 : Nat := 0
def PySem.W.Fast.tw12200450372142922551 : Nat := 0
def PySem.W.Fast.tw9215296769016432261 : Nat := 0
def PySem.W.Fast.tw5848416286478885660 : Nat := 0
def PySem.W.Fast.tw8565007931535501576 : Nat := 0
def PySem.W.Fast.tw15422035538698302491 : Nat := 0
def PySem.W.Fast.tw9371536250841933935 : Nat := 0
def PySem.W.Fast.tw13372922129214700652 : Nat := 0
def PySem.W.Fast.tw2493358136887011153 : Nat := 0
def PySem.W.Fast.tw2856155830369077181 : Nat := 0
def PySem.W.Fast.tw9167993235461392672 : Nat := 0
def PySem.W.Fast.tw9316144088952055584 : Nat := 0
def PySem.W.Fast.tw9908445185530517865 : Nat := 0
def PySem.W.Fast.tw8107630470415831912 : Nat := 0
def PySem.W.Fast.tw8821557411027849181 : Nat := 0
def PySem.W.Fast.tw16440114505109615914 : Nat := 0
def PySem.W.Fast.tw15745452814646898947 : Nat := 0
def PySem.W.Fast.tw4923586570631412930 : Nat := 0
def PySem.W.Fast.tw17139944313731936047 : Nat := 0
def PySem.W.Fast.tw5496019807714960646 : Nat := 0
def PySem.W.Fast.tw1207681132725668207 : Nat := 0
def PySem.W.Fast.tw5334907739700223950 : Nat := 0
def PySem.W.Fast.tw5127266743549029328 : Nat := 0
def PySem.W.Fast.tw16694241398843788037 : Nat := 0
def PySem.W.Fast.tw18196979320570012280 : Nat := 0
def PySem.W.Fast.tw3093540886176762230 : Nat := 0
def PySem.W.Fast.tw5461154674618081896 : Nat := 0
def PySem.W.Fast.tw3213559487326273279 : Nat := 0
def PySem.W.Fast.tw3247047510300743295 : Nat := 0
def PySem.W.Fast.tw14828835720518901102 : Nat := 0
def PySem.W.Fast.tw226737733372216878 : Nat := 0
def PySem.W.Fast.tw13772541583641984053 : Nat := 0
def PySem.W.Fast.tw8724526712734346145 : Nat := 0
def PySem.W.Fast.tw15407936651924651787 : Nat := 0
def PySem.W.Fast.tw9387922222797726607 : Nat := 0
def PySem.W.Fast.tw16498091409816476862 : Nat := 0
def PySem.W.Fast.tw4709145652506585535 : Nat := 0
def PySem.W.Fast.tw8624677787034201163 : Nat := 0
def PySem.W.Fast.tw12013344057232610094 : Nat := 0
def PySem.W.Fast.tw7623482999595323528 : Nat := 0
def PySem.W.Fast.tw7997628969396214382 : Nat := 0
def PySem.W.Fast.tw4006578155214839813 : Nat := 0
def PySem.W.Fast.tw1493596547009500011 : Nat := 0
def PySem.W.Fast.tw9709828980650314172 : Nat := 0
def PySem.W.Fast.tw8966975704413248449 : Nat := 0
def PySem.W.Fast.tw6093790723759901524 : Nat := 0
def PySem.W.Fast.tw565387612782373455 : Nat := 0
def PySem.W.Fast.tw1194988319177502873 : Nat := 0
def PySem.W.Fast.tw6290832882502440259 : Nat := 0
def PySem.W.Fast.tw13679437082634346785 : Nat := 0
def PySem.W.Fast.tw6790821516941506482 : Nat := 0
def PySem.W.Fast.tw13730498317942980482 : Nat := 0
def PySem.W.Fast.tw5118138956685916334 : Nat := 0
def PySem.W.Fast.tw1568410962588350050 : Nat := 0
def PySem.W.Fast.tw13640962799988721754 : Nat := 0
def PySem.W.Fast.tw8640002915243989385 : Nat := 0
def PySem.W.Fast.tw229897284421575969 : Nat := 0
def PySem.W.Fast.tw10612322335650286816 : Nat := 0
def PySem.W.Fast.tw14126484916624877503 : Nat := 0
def PySem.W.Fast.tw190364548503094806 : Nat := 0
def PySem.W.Fast.tw11596060911783060537 : Nat := 0
def PySem.W.Fast.tw4316929929400134930 : Nat := 0
def PySem.W.Fast.tw17692261757522241644 : Nat := 0
def PySem.W.Fast.tw16167805322210562968 : Nat := 0
def PySem.W.Fast.tw7436705379537620403 : Nat := 0
def PySem.W.Fast.tw7775136927023190264 : Nat := 0
def PySem.W.Fast.tw8502894375109079595 : Nat := 0
def PySem.W.Fast.tw9237290285522033200 : Nat := 0
def PySem.W.Fast.tw9933691719601669607 : Nat := 0
def PySem.W.Fast.tw17954039353195008148 : Nat := 0
def PySem.W.Fast.tw6271211725215929352 : Nat := 0
def PySem.W.Fast.tw6881533139393393269 : Nat := 0
def PySem.W.Fast.tw15133070692737128215 : Nat := 0
def PySem.W.Fast.tw9005676925319709986 : Nat := 0
def PySem.W.Fast.tw5776111009558940080 : Nat := 0
def PySem.W.Fast.tw14368195676203488746 : Nat := 0
def PySem.W.Fast.tw926881638594488157 : Nat := 0
def PySem.W.Fast.tw12381944497594221435 : Nat := 0
def PySem.W.Fast.tw14930842110081374237 : Nat := 0
def PySem.W.Fast.tw14606378671597156104 : Nat := 0
def PySem.W.Fast.tw12283432887866788114 : Nat := 0
def PySem.W.Fast.tw4976613869430235515 : Nat := 0
def PySem.W.Fast.tw2240316180169684317 : Nat := 0
def PySem.W.Fast.tw9282616205272231401 : Nat := 0
def PySem.W.Fast.tw15497467467105464033 : Nat := 0
def PySem.W.Fast.tw17356610078692657896 : Nat := 0
def PySem.W.Fast.tw11298454221575178287 : Nat := 0
def PySem.W.Fast.tw6123920244097281769 : Nat := 0
def PySem.W.Fast.tw3568644995325181551 : Nat := 0
def PySem.W.Fast.tw1271054153779916199 : Nat := 0
def PySem.W.Fast.tw17697659599077706384 : Nat := 0
def PySem.W.Fast.tw15118731596430015331 : Nat := 0
def PySem.W.Fast.tw11743139599890707104 : Nat := 0
def PySem.W.Fast.tw227143832213012580 : Nat := 0
def PySem.W.Fast.tw14974816510897059144 : Nat := 0
def PySem.W.Fast.tw16735832139510811780 : Nat := 0
def PySem.W.Fast.tw15093374121990033992 : Nat := 0
def PySem.W.Fast.tw3801638890480205794 : Nat := 0
def PySem.W.Fast.tw7138690821113190559 : Nat := 0
def PySem.W.Fast.tw8143941692978388670 : Nat := 0
def PySem.W.Fast.tw10682761746772820157 : Nat := 0
def PySem.W.Fast.tw4134083075600339587 : Nat := 0
def PySem.W.Fast.tw1737528841087545575 : Nat := 0
def PySem.W.Fast.tw15573876898820882531 : Nat := 0
def PySem.W.Fast.tw724265735050236805 : Nat := 0
def PySem.W.Fast.tw5947102185373456157 : Nat := 0
def PySem.W.Fast.tw11627654305832146056 : Nat := 0
def PySem.W.Fast.tw8621381809416018611 : Nat := 0
def PySem.W.Fast.tw4973659343539872496 : Nat := 0
def PySem.W.Fast.tw15060006591831826819 : Nat := 0
def PySem.W.Fast.tw263322356151783231 : Nat := 0
def PySem.W.Fast.tw10778489067798944612 : Nat := 0
def PySem.W.Fast.tw15154213719299598879 : Nat := 0
def PySem.W.Fast.tw13379109754188135986 : Nat := 0
def PySem.W.Fast.tw15620916442042992677 : Nat := 0
def PySem.W.Fast.tw8591697602320395019 : Nat := 0
def PySem.W.Fast.tw18010740849210205328 : Nat := 0
def PySem.W.Fast.tw11023292213170556421 : Nat := 0
def PySem.W.Fast.tw12870734027314514706 : Nat := 0
def PySem.W.Fast.tw13238867465697602185 : Nat := 0
def PySem.W.Fast.tw13054515241485584046 : Nat := 0
def PySem.W.Fast.tw3558673058968504638 : Nat := 0
def PySem.W.Fast.tw2165459061243189924 : Nat := 0
def PySem.W.Fast.tw7128848754926902023 : Nat := 0
def PySem.W.Fast.tw1733786736786247234 : Nat := 0
def PySem.W.Fast.tw11599369010360500773 : Nat := 0
def PySem.W.Fast.tw4480415248792138755 : Nat := 0
def PySem.W.Fast.tw15360140165757872719 : Nat := 0
def PySem.W.Fast.tw9284938604929878871 : Nat := 0
def PySem.W.Fast.tw14209300303965404132 : Nat := 0
def PySem.W.Fast.tw16692923194030973397 : Nat := 0
def PySem.W.Fast.tw1617239935618229027 : Nat := 0
def PySem.W.Fast.tw7891395704097408374 : Nat := 0
def PySem.W.Fast.tw11318961409691425318 : Nat := 0
def PySem.W.Fast.tw1002611040367824563 : Nat := 0
def PySem.W.Fast.tw14380173472355168263 : Nat := 0
def PySem.W.Fast.tw14347316974117782986 : Nat := 0
def PySem.W.Fast.tw2541079160038446617 : Nat := 0
def PySem.W.Fast.tw9606388863865052380 : Nat := 0
def PySem.W.Fast.tw12987331751820349553 : Nat := 0
def PySem.W.Fast.tw3512520777195356880 : Nat := 0
def PySem.W.Fast.tw4372483985546155246 : Nat := 0
def PySem.W.Fast.tw10742099950808007601 : Nat := 0
def PySem.W.Fast.tw6610217391625764051 : Nat := 0
def PySem.W.Fast.tw8646025936888136088 : Nat := 0
def PySem.W.Fast.tw2107588907275672484 : Nat := 0
def PySem.W.Fast.tw13003146950412384728 : Nat := 0
def PySem.W.Fast.tw3066569009454285080 : Nat := 0
def PySem.W.Fast.tw9695948575236415883 : Nat := 0
def PySem.W.Fast.tw379216817712815219 : Nat := 0
def PySem.W.Fast.tw2978545482163384688 : Nat := 0
def PySem.W.Fast.tw8351983100556849880 : Nat := 0
def PySem.W.Fast.tw11248557770948098321 : Nat := 0
def PySem.W.Fast.tw5805611038939415461 : Nat := 0
def PySem.W.Fast.tw5432266254423131226 : Nat := 0
def PySem.W.Fast.tw15576466249515786412 : Nat := 0
def PySem.W.Fast.tw12178335670775141273 : Nat := 0
def PySem.W.Fast.tw2125142593044194458 : Nat := 0
def PySem.W.Fast.tw8839678301488521290 : Nat := 0
def PySem.W.Fast.tw10829213883817831043 : Nat := 0
def PySem.W.Fast.tw3659990019525868945 : Nat := 0
def PySem.W.Fast.tw628350344115488530 : Nat := 0
def PySem.W.Fast.tw3323061624821911958 : Nat := 0
def PySem.W.Fast.tw11520397305504092109 : Nat := 0
def PySem.W.Fast.tw2604172090139059657 : Nat := 0
def PySem.W.Fast.tw10171313035907581664 : Nat := 0
def PySem.W.Fast.tw2917063033592564475 : Nat := 0
def PySem.W.Fast.tw17828430335300355650 : Nat := 0
def PySem.W.Fast.tw3309091623053874462 : Nat := 0
def PySem.W.Fast.tw5213140757976921109 : Nat := 0
def PySem.W.Fast.tw5386103847989660125 : Nat := 0
def PySem.W.Fast.tw7555285725984844421 : Nat := 0
def PySem.W.Fast.tw7027230479438660330 : Nat := 0
def PySem.W.Fast.tw14273456558942667714 : Nat := 0
def PySem.W.Fast.tw8379732127143471475 : Nat := 0
def PySem.W.Fast.tw8257423016653430516 : Nat := 0
def PySem.W.Fast.tw14119138519588646212 : Nat := 0
def PySem.W.Fast.tw635832120499878058 : Nat := 0
def PySem.W.Fast.tw5399601025627416724 : Nat := 0
def PySem.W.Fast.tw12173062094594305953 : Nat := 0
def PySem.W.Fast.tw678183560706646107 : Nat := 0
def PySem.W.Fast.tw16579253244950458441 : Nat := 0
def PySem.W.Fast.tw4802594500975126616 : Nat := 0
def PySem.W.Fast.tw16025967387124493774 : Nat := 0
def PySem.W.Fast.tw9589674746103061390 : Nat := 0
def PySem.W.Fast.tw18185570430301530076 : Nat := 0
def PySem.W.Fast.tw17942253869837836212 : Nat := 0
def PySem.W.Fast.tw15760850820072941014 : Nat := 0
def PySem.W.Fast.tw1979264787109953360 : Nat := 0
def PySem.W.Fast.tw6590195615609339800 : Nat := 0
def PySem.W.Fast.tw6434194599188031704 : Nat := 0
def PySem.W.Fast.tw9296923653735165660 : Nat := 0
def PySem.W.Fast.tw8741197488254382912 : Nat := 0
def PySem.W.Fast.tw1399565416568681310 : Nat := 0
def PySem.W.Fast.tw17076643071652191378 : Nat := 0
def PySem.W.Fast.tw579898743198014551 : Nat := 0
def PySem.W.Fast.tw13334332713515432155 : Nat := 0
def PySem.W.Fast.tw7652586468233555546 : Nat := 0
def PySem.W.Fast.tw5763829161048728044 : Nat := 0
def PySem.W.Fast.tw15049745481699502017 : Nat := 0
def PySem.W.Fast.tw17136375898488928180 : Nat := 0
def PySem.W.Fast.tw11521590528495030752 : Nat := 0
def PySem.W.Fast.tw4179865095543851041 : Nat := 0
def PySem.W.Fast.tw14221856873896970782 : Nat := 0
def PySem.W.Fast.tw11583017748164381743 : Nat := 0
def PySem.W.Fast.tw2268014611029088344 : Nat := 0
def PySem.W.Fast.tw12032237327138889752 : Nat := 0
def PySem.W.Fast.tw16414851208809206167 : Nat := 0
def PySem.W.Fast.tw12657400163680358112 : Nat := 0
def PySem.W.Fast.tw9334403768382279995 : Nat := 0
def PySem.W.Fast.tw7880796320059520565 : Nat := 0
def PySem.W.Fast.tw1925318540557329547 : Nat := 0
def PySem.W.Fast.tw15385893848697095213 : Nat := 0
def PySem.W.Fast.tw7494076025545857396 : Nat := 0
def PySem.W.Fast.tw6245631371243937679 : Nat := 0
def PySem.W.Fast.tw15056681196561583112 : Nat := 0
def PySem.W.Fast.tw4130458271160926832 : Nat := 0
def PySem.W.Fast.tw477169014268950417 : Nat := 0
def PySem.W.Fast.tw9346841190406908990 : Nat := 0
def PySem.W.Fast.tw3379409260558950567 : Nat := 0
def PySem.W.Fast.tw3045170016924247387 : Nat := 0
def PySem.W.Fast.tw3250293851319606058 : Nat := 0
def PySem.W.Fast.tw15001711778434659800 : Nat := 0
def PySem.W.Fast.tw5909943662521742997 : Nat := 0
def PySem.W.Fast.tw8307386544284231636 : Nat := 0
def PySem.W.Fast.tw4810988868566364817 : Nat := 0
def PySem.W.Fast.tw10010518389150849641 : Nat := 0
def PySem.W.Fast.tw1096698804911732408 : Nat := 0
def PySem.W.Fast.tw6748218618088419129 : Nat := 0
def PySem.W.Fast.tw17424072313354461636 : Nat := 0
def PySem.W.Fast.tw5928579029035973485 : Nat := 0
def PySem.W.Fast.tw5408245648363950376 : Nat := 0
def PySem.W.Fast.tw16318739623784584851 : Nat := 0
def PySem.W.Fast.tw15378434632462757450 : Nat := 0
def PySem.W.Fast.tw17487549275639872725 : Nat := 0
def PySem.W.Fast.tw7267165122673256615 : Nat := 0
def PySem.W.Fast.tw6501726116258210904 : Nat := 0
def PySem.W.Fast.tw13002666397278907219 : Nat := 0
def PySem.W.Fast.tw6208769226048134311 : Nat := 0
def PySem.W.Fast.tw10838061417764248254 : Nat := 0
def PySem.W.Fast.tw10264213848183058560 : Nat := 0
def PySem.W.Fast.tw8044862991184453845 : Nat := 0
def PySem.W.Fast.tw796488320772824705 : Nat := 0
def PySem.W.Fast.tw7728756674982197103 : Nat := 0
def PySem.W.Fast.tw11594072167526005469 : Nat := 0
def PySem.W.Fast.tw14249737696293947447 : Nat := 0
def PySem.W.Fast.tw15385411898651777596 : Nat := 0
def PySem.W.Fast.tw4948638381582122767 : Nat := 0
def PySem.W.Fast.tw1623927741539609797 : Nat := 0
def PySem.W.Fast.tw17036341128558249769 : Nat := 0
def PySem.W.Fast.tw15567169127091110672 : Nat := 0
def PySem.W.Fast.tw15494201900391681398 : Nat := 0
def PySem.W.Fast.tw4208751895611580050 : Nat := 0
def PySem.W.Fast.tw14133762099538063418 : Nat := 0
def PySem.W.Fast.tw16153535744236464210 : Nat := 0
def PySem.W.Fast.tw1549723663913824107 : Nat := 0
def PySem.W.Fast.tw8034981095816926177 : Nat := 0
def PySem.W.Fast.tw10969512104665397811 : Nat := 0
def PySem.W.Fast.tw14352668518394240244 : Nat := 0
def PySem.W.Fast.tw16542172701009158248 : Nat := 0
def PySem.W.Fast.tw1787665715079428635 : Nat := 0
def PySem.W.Fast.tw4086750158890493441 : Nat := 0
def PySem.W.Fast.tw10138702490305022723 : Nat := 0
def PySem.W.Fast.tw7658502753920879157 : Nat := 0
def PySem.W.Fast.tw8658861018057303567 : Nat := 0
def PySem.W.Fast.tw2213406828469061841 : Nat := 0
def PySem.W.Fast.tw8443736772594295445 : Nat := 0
def PySem.W.Fast.tw16914647070441252666 : Nat := 0
def PySem.W.Fast.tw7804547889692088555 : Nat := 0
def PySem.W.Fast.tw18315156365274642006 : Nat := 0
def PySem.W.Fast.tw5830399639145655464 : Nat := 0
def PySem.W.Fast.tw1634435462463449215 : Nat := 0
def PySem.W.Fast.tw537008452299299385 : Nat := 0
def PySem.W.Fast.tw9702646976100306252 : Nat := 0
def PySem.W.Fast.tw16613486684931303054 : Nat := 0
def PySem.W.Fast.tw17436368470741701069 : Nat := 0
def PySem.W.Fast.tw10793006237711809483 : Nat := 0
def PySem.W.Fast.tw10906898768427092714 : Nat := 0
def PySem.W.Fast.tw1652556501329446686 : Nat := 0
def PySem.W.Fast.tw4273507201693993861 : Nat := 0
def PySem.W.Fast.tw12189141394484619300 : Nat := 0
def PySem.W.Fast.tw3017525889430711512 : Nat := 0
def PySem.W.Fast.tw11594141224473939230 : Nat := 0
def PySem.W.Fast.tw14806273271788797928 : Nat := 0
def PySem.W.Fast.tw8952551812679213023 : Nat := 0
def PySem.W.Fast.tw16630076805849650040 : Nat := 0
def PySem.W.Fast.tw3880898776828864751 : Nat := 0
def PySem.W.Fast.tw14642212093945855415 : Nat := 0
def PySem.W.Fast.tw8171459549028169344 : Nat := 0
def PySem.W.Fast.tw15799087415083273062 : Nat := 0
def PySem.W.Fast.tw16319302336910077799 : Nat := 0
def PySem.W.Fast.tw2872545498032331253 : Nat := 0
def PySem.W.Fast.tw4077697728346190897 : Nat := 0
def PySem.W.Fast.tw6324091646288590023 : Nat := 0
def PySem.W.Fast.tw4340974241414117776 : Nat := 0
def PySem.W.Fast.tw2504050097297822438 : Nat := 0
def PySem.W.Fast.tw8152476358523368297 : Nat := 0
def PySem.W.Fast.tw4432363492112157505 : Nat := 0
def PySem.W.Fast.tw6259152974883401605 : Nat := 0
def PySem.W.Fast.tw5784110874117599252 : Nat := 0
def PySem.W.Fast.tw10086103624817573215 : Nat := 0
def PySem.W.Fast.tw973628134824040535 : Nat := 0
def PySem.W.Fast.tw8837690105746586821 : Nat := 0
def PySem.W.Fast.tw1942734730899076173 : Nat := 0
def PySem.W.Fast.tw1888766800893799762 : Nat := 0
def PySem.W.Fast.tw3885356515996472981 : Nat := 0
def PySem.W.Fast.tw9376769308311200736 : Nat := 0
def PySem.W.Fast.tw16867183074837512605 : Nat := 0
def PySem.W.Fast.tw3913592854140384593 : Nat := 0
def PySem.W.Fast.tw257422883330734759 : Nat := 0
def PySem.W.Fast.tw13648026291701408716 : Nat := 0
def PySem.W.Fast.tw1646252034342332630 : Nat := 0
def PySem.W.Fast.tw3057094048553826523 : Nat := 0
def PySem.W.Fast.tw4778475100094993068 : Nat := 0
def PySem.W.Fast.tw1440127851162573386 : Nat := 0
def PySem.W.Fast.tw2351182147512842842 : Nat := 0
def PySem.W.Fast.tw12381423008748515098 : Nat := 0
def PySem.W.Fast.tw15456305342129193280 : Nat := 0
def PySem.W.Fast.tw7673933632109562256 : Nat := 0
def PySem.W.Fast.tw7402148265552115861 : Nat := 0
def PySem.W.Fast.tw6255961268890571868 : Nat := 0
def PySem.W.Fast.tw13011090683304211536 : Nat := 0
def PySem.W.Fast.tw16216144490542732536 : Nat := 0
def PySem.W.Fast.tw9546586635146785301 : Nat := 0
def PySem.W.Fast.tw1928299461841339951 : Nat := 0
def PySem.W.Fast.tw16496655063859658145 : Nat := 0
def PySem.W.Fast.tw5412920211473380529 : Nat := 0
def PySem.W.Fast.tw4940963192817440315 : Nat := 0
def PySem.W.Fast.tw9344498914186663640 : Nat := 0
def PySem.W.Fast.tw3302073676313566436 : Nat := 0
def PySem.W.Fast.tw791008671798228502 : Nat := 0
def PySem.W.Fast.tw6394332566965740239 : Nat := 0
def PySem.W.Fast.tw14777879950448978680 : Nat := 0
def PySem.W.Fast.tw414457174743733152 : Nat := 0
def PySem.W.Fast.tw9865263650502680865 : Nat := 0
def PySem.W.Fast.tw4998919228996896283 : Nat := 0
def PySem.W.Fast.tw4466536799403212688 : Nat := 0
def PySem.W.Fast.tw10213792917645384788 : Nat := 0
def PySem.W.Fast.tw18217528953014478364 : Nat := 0
def PySem.W.Fast.tw11592611467874203349 : Nat := 0
def PySem.W.Fast.tw10062127868477341394 : Nat := 0
def PySem.W.Fast.tw12196551111633695646 : Nat := 0
def PySem.W.Fast.tw10822062390508827586 : Nat := 0
def PySem.W.Fast.tw2102339871137232439 : Nat := 0
def PySem.W.Fast.tw6866453744313973635 : Nat := 0
def PySem.W.Fast.tw868014243785297283 : Nat := 0
def PySem.W.Fast.tw12486793724166426225 : Nat := 0
def PySem.W.Fast.tw1842870625526643126 : Nat := 0
def PySem.W.Fast.tw16507451658658749904 : Nat := 0
def PySem.W.Fast.tw15374030657613244277 : Nat := 0
def PySem.W.Fast.tw9123538475627267590 : Nat := 0
def PySem.W.Fast.tw5666017196311676028 : Nat := 0
def PySem.W.Fast.tw10548540417849390539 : Nat := 0
def PySem.W.Fast.tw16145022448995518039 : Nat := 0
def PySem.W.Fast.tw4261788619606671283 : Nat := 0
def PySem.W.Fast.tw10748272468545027124 : Nat := 0
def PySem.W.Fast.tw9605787009128903243 : Nat := 0
def PySem.W.Fast.tw9447284124001472948 : Nat := 0
def PySem.W.Fast.tw9845685634047688701 : Nat := 0
def PySem.W.Fast.tw4646571157920325995 : Nat := 0
def PySem.W.Fast.tw14616712160350653562 : Nat := 0
def PySem.W.Fast.tw14201501881145695967 : Nat := 0
def PySem.W.Fast.tw8870940340393868023 : Nat := 0
def PySem.W.Fast.tw9672752119731388722 : Nat := 0
def PySem.W.Fast.tw9405296434511104733 : Nat := 0
def PySem.W.Fast.tw9918587466131443896 : Nat := 0
def PySem.W.Fast.tw8517647366444503574 : Nat := 0
def PySem.W.Fast.tw1196872478408044894 : Nat := 0
def PySem.W.Fast.tw1688475339941868180 : Nat := 0
def PySem.W.Fast.tw15453212290314217471 : Nat := 0
def PySem.W.Fast.tw16500315393629765349 : Nat := 0
def PySem.W.Fast.tw11128658815544535939 : Nat := 0
def PySem.W.Fast.tw10046879421670067698 : Nat := 0
def PySem.W.Fast.tw13551103475682088619 : Nat := 0
def PySem.W.Fast.tw1444345416876074197 : Nat := 0
def PySem.W.Fast.tw14877758658368447595 : Nat := 0
def PySem.W.Fast.tw6355627532066527059 : Nat := 0
def PySem.W.Fast.tw15011734472032174102 : Nat := 0
def PySem.W.Fast.tw923786812694559432 : Nat := 0
def PySem.W.Fast.tw5432473604273918995 : Nat := 0
def PySem.W.Fast.tw14962647304308890965 : Nat := 0
def PySem.W.Fast.tw5259637198776721133 : Nat := 0
def PySem.W.Fast.tw7454100498882592313 : Nat := 0
def PySem.W.Fast.tw15885708950883003620 : Nat := 0
def PySem.W.Fast.tw14734438068524541820 : Nat := 0
def PySem.W.Fast.tw5174004418975866805 : Nat := 0
def PySem.W.Fast.tw3730426134560166207 : Nat := 0
def PySem.W.Fast.tw11426987281878048729 : Nat := 0
def PySem.W.Fast.tw13041152554724464755 : Nat := 0
def PySem.W.Fast.tw8408640145869494387 : Nat := 0
def PySem.W.Fast.tw5431886874727698302 : Nat := 0
def PySem.W.Fast.tw9210442142592783178 : Nat := 0
def PySem.W.Fast.tw1994299165210761582 : Nat := 0
def PySem.W.Fast.tw13390934618004069234 : Nat := 0
def PySem.W.Fast.tw15243441923205476889 : Nat := 0
def PySem.W.Fast.tw14232460763346515168 : Nat := 0
def PySem.W.Fast.tw1834317473525303939 : Nat := 0
def PySem.W.Fast.tw5514675557565624772 : Nat := 0
def PySem.W.Fast.tw325260630246331206 : Nat := 0
def PySem.W.Fast.tw12403002379744873159 : Nat := 0
def PySem.W.Fast.tw17224112587558774413 : Nat := 0
def PySem.W.Fast.tw11660962622689063835 : Nat := 0
def PySem.W.Fast.tw7396448531168063503 : Nat := 0
def PySem.W.Fast.tw7967539895605300506 : Nat := 0
def PySem.W.Fast.tw12659023510727906023 : Nat := 0
def PySem.W.Fast.tw11195999256864976390 : Nat := 0
def PySem.W.Fast.tw7190258932528637976 : Nat := 0
def PySem.W.Fast.tw2138646522667699425 : Nat := 0
def PySem.W.Fast.tw15407606732363208555 : Nat := 0
def PySem.W.Fast.tw17113614486788345512 : Nat := 0
def PySem.W.Fast.tw16899031668077888201 : Nat := 0
def PySem.W.Fast.tw17466934812804938473 : Nat := 0
def PySem.W.Fast.tw5840973412970277687 : Nat := 0
def PySem.W.Fast.tw2562367457362211035 : Nat := 0
def PySem.W.Fast.tw13146231970256746590 : Nat := 0
def PySem.W.Fast.tw7984493361100065574 : Nat := 0
def PySem.W.Fast.tw6068926240721537593 : Nat := 0
def PySem.W.Fast.tw5426569366172823135 : Nat := 0
def PySem.W.Fast.tw17408262367797031502 : Nat := 0
def PySem.W.Fast.tw6459859257626963669 : Nat := 0
def PySem.W.Fast.tw7101466510324313162 : Nat := 0
def PySem.W.Fast.tw15500305741079149186 : Nat := 0
def PySem.W.Fast.tw8470303331941565190 : Nat := 0
def PySem.W.Fast.tw11547889295860681438 : Nat := 0
def PySem.W.Fast.tw1834265326452122205 : Nat := 0
def PySem.W.Fast.tw1632809441217709545 : Nat := 0
def PySem.W.Fast.tw7765487362396587318 : Nat := 0
def PySem.W.Fast.tw15009605672710472892 : Nat := 0
def PySem.W.Fast.tw14703135764660014839 : Nat := 0
def PySem.W.Fast.tw7974984189854880262 : Nat := 0
def PySem.W.Fast.tw18406652396938555743 : Nat := 0
def PySem.W.Fast.tw6905019676158617411 : Nat := 0
def PySem.W.Fast.tw9113132453750207644 : Nat := 0
def PySem.W.Fast.tw16202700613481504904 : Nat := 0
def PySem.W.Fast.tw3422244913737080121 : Nat := 0
def PySem.W.Fast.tw2257901128687282806 : Nat := 0
def PySem.W.Fast.tw5272817633392383421 : Nat := 0
def PySem.W.Fast.tw5905864984769124955 : Nat := 0
def PySem.W.Fast.tw5564380146555263025 : Nat := 0
def PySem.W.Fast.tw5093029046871619889 : Nat := 0
def PySem.W.Fast.tw1609584179269088759 : Nat := 0
def PySem.W.Fast.tw6404412936214316191 : Nat := 0
set_option maxRecDepth 100000 in
set_option maxHeartbeats 0 in
open_top PySem.Challenge.hd11 for PySem.Challenge.rw_seatchains_k11_plans_told_from_others
end
set_option linter.all false
set_option maxRecDepth 100000
namespace Z
open PySem PySem.Spec L2
open PyProof.Rows hiding St
inductive PV where
 | non | bl (b : Bool) | int (i : Int) | str (x : Str)
 | tup (xs : List PV) | lst (xs : List PV) | scr (ns : List Int)
 | ins (C : Addr) (fs : List (Str × PV)) | dic (kvs : List (Key × PV)) | raw (v : V) | pln (xs : List PV) | exn (a : Addr) (d : Option Addr) (fs : List (Str × PV))
abbrev PV.dic0 : PV := .dic []
section
variable (K : PySem.W.Frag)
def TupAt (O : Addr → Prop) (H : Hp) (a : Addr) (vs : List V) : Prop :=
 (¬ O a ∧ Rd H a (.tup vs)) ∨
  ∃ (o : Obj) (its : Array Value) (n : Nat), K.lookup a = some o ∧ o.cls = .type "tuple" ∧ o.data = .seq its n ∧ its.size ≤ sizeLine ∧ Vals vs its.toList
theorem TupAt.sq {K : PySem.W.Frag} {O H a vs} (h : TupAt K O H a vs) : SqT K H a vs := by
 rcases h with ⟨_, h⟩ | h
 ·exact .inl h
 ·exact .inr h
mutual
def Rep (O : Addr → Prop) (H : Hp) : PV → V → Prop
 | .non, v => v = .non
 | .bl b, v => v = .bl b
 | .int i, v => v = .int i
 | .str x, v => v = .str x
 | .raw u, v => v = u
 | .scr ns, v => ∃ a o, v = .ref a ∧ ¬ O a ∧ H a = some (.frz o (.lst (ns.map V.int)))
 | .tup xs, v => ∃ a vs, v = .ref a ∧ TupAt K O H a vs ∧ Reps O H xs vs
 | .lst xs, v => ∃ a vs, v = .ref a ∧ ¬ O a ∧ H a = some (.lst vs) ∧ Reps O H xs vs
 | .ins C fs, v => ∃ a dx ws, v = .ref a ∧ ¬ O a ∧ H a = some (.ins C dx ws) ∧ RepF O H fs ws
 | .dic kvs, v => ∃ a ws, v = .ref a ∧ ¬ O a ∧ H a = some (.dK ws) ∧ RepD O H kvs ws
 | .pln xs, v => ∃ a vs o, v = .ref a ∧ ¬ O a ∧ H a = some (.frz o (.tup vs)) ∧ o.dict = none ∧ Reps O H xs vs
 | .exn a d fs, v => v = .ref a ∧ ∃ ws, (∀ x, d = some x → ¬ O x ∧ H x = some (.xd ws)) ∧ RepF O H fs ws
def Reps (O : Addr → Prop) (H : Hp) : List PV → List V → Prop
 | [], vs => vs = []
 | x :: xs, vs => ∃ v us, vs = v :: us ∧ Rep O H x v ∧ Reps O H xs us
def RepF (O : Addr → Prop) (H : Hp) : List (Str × PV) → List (Str × V) → Prop
 | [], vs => vs = []
 | (n, x) :: xs, vs => ∃ v us, vs = (n, v) :: us ∧ Rep O H x v ∧ RepF O H xs us
def RepD (O : Addr → Prop) (H : Hp) : List (Key × PV) → List (Key × V) → Prop
 | [], vs => vs = []
 | (n, x) :: xs, vs => ∃ v us, vs = (n, v) :: us ∧ Rep O H x v ∧ RepD O H xs us
end
end
def Car (O O' : Addr → Prop) (H H' : Hp) : Prop := ∀ a o, ¬ O a → H a = some o → (∀ ps, o ≠ .tbl ps) → H' a = some o ∧ ¬ O' a
section
variable {K : PySem.W.Frag} {O O' : Addr → Prop} {H H' : Hp}
theorem TupAt.car {a : Addr} {vs : List V} (c : Car O O' H H') (h : TupAt K O H a vs) : TupAt K O' H' a vs := by
 rcases h with ⟨n, h | ⟨o, h⟩⟩ | h
 ·exact .inl ⟨(c _ _ n h nofun).2, .inl (c _ _ n h nofun).1⟩
 ·exact .inl ⟨(c _ _ n h nofun).2, .inr ⟨o, (c _ _ n h nofun).1⟩⟩
 ·exact .inr h
mutual
theorem Rep.car (c : Car O O' H H') : ∀ (x : PV) (v : V), Rep K O H x v → Rep K O' H' x v
 | .non, _, h => by unfold Rep at h ⊢; exact h
 | .bl _, _, h => by unfold Rep at h ⊢; exact h
 | .int _, _, h => by unfold Rep at h ⊢; exact h
 | .str _, _, h => by unfold Rep at h ⊢; exact h
 | .raw _, _, h => by unfold Rep at h ⊢; exact h
 | .scr _, _, h => by
  unfold Rep at h ⊢
  obtain ⟨a, o, e, n, h⟩ := h
  exact ⟨a, o, e, (c _ _ n h nofun).2, (c _ _ n h nofun).1⟩
 | .dic kvs, _, h => by
  unfold Rep at h ⊢
  obtain ⟨a, ws, e, n, h, r⟩ := h
  exact ⟨a, ws, e, (c _ _ n h nofun).2, (c _ _ n h nofun).1, RepD.car c kvs ws r⟩
 | .pln xs, _, h => by
  unfold Rep at h ⊢
  obtain ⟨a, vs, o, e, n, h, d, r⟩ := h
  exact ⟨a, vs, o, e, (c _ _ n h nofun).2, (c _ _ n h nofun).1, d, Reps.car c xs vs r⟩
 | .exn _ d fs, _, h => by
  unfold Rep at h ⊢
  obtain ⟨e, ws, n, r⟩ := h
  exact ⟨e, ws, fun x hx => ⟨(c _ _ (n x hx).1 (n x hx).2 nofun).2, (c _ _ (n x hx).1 (n x hx).2 nofun).1⟩, RepF.car c fs ws r⟩
 | .tup xs, _, h => by
  unfold Rep at h ⊢
  obtain ⟨a, vs, e, t, r⟩ := h
  exact ⟨a, vs, e, t.car c, Reps.car c xs vs r⟩
 | .lst xs, _, h => by
  unfold Rep at h ⊢
  obtain ⟨a, vs, e, n, t, r⟩ := h
  exact ⟨a, vs, e, (c _ _ n t nofun).2, (c _ _ n t nofun).1, Reps.car c xs vs r⟩
 | .ins C fs, _, h => by
  unfold Rep at h ⊢
  obtain ⟨a, dx, ws, e, n, t, r⟩ := h
  exact ⟨a, dx, ws, e, (c _ _ n t nofun).2, (c _ _ n t nofun).1, RepF.car c fs ws r⟩
theorem Reps.car (c : Car O O' H H') : ∀ (xs : List PV) (vs : List V), Reps K O H xs vs → Reps K O' H' xs vs
 | [], _, h => by unfold Reps at h ⊢; exact h
 | x :: xs, _, h => by
  unfold Reps at h ⊢
  obtain ⟨v, us, e, r, t⟩ := h
  exact ⟨v, us, e, Rep.car c x v r, Reps.car c xs us t⟩
theorem RepF.car (c : Car O O' H H') : ∀ (xs : List (Str × PV)) (vs : List (Str × V)), RepF K O H xs vs → RepF K O' H' xs vs
 | [], _, h => by unfold RepF at h ⊢; exact h
 | (n, x) :: xs, _, h => by
  unfold RepF at h ⊢
  obtain ⟨v, us, e, r, t⟩ := h
  exact ⟨v, us, e, Rep.car c x v r, RepF.car c xs us t⟩
theorem RepD.car (c : Car O O' H H') : ∀ (xs : List (Key × PV)) (vs : List (Key × V)), RepD K O H xs vs → RepD K O' H' xs vs
 | [], _, h => by unfold RepD at h ⊢; exact h
 | (n, x) :: xs, _, h => by
  unfold RepD at h ⊢
  obtain ⟨v, us, e, r, t⟩ := h
  exact ⟨v, us, e, Rep.car c x v r, RepD.car c xs us t⟩
end
theorem Car.mono {O O' : Addr → Prop} {H : Hp} (h : ∀ a, O' a → O a) : Car O O' H H := fun a o n e _ => ⟨e, fun z => n (h a z)⟩
theorem Rep.mono {x v} (h : ∀ a, O' a → O a) (r : Rep K O H x v) : Rep K O' H x v := r.car (Car.mono h)
theorem Reps.mono {x v} (h : ∀ a, O' a → O a) (r : Reps K O H x v) : Reps K O' H x v := r.car (Car.mono h)
theorem RepF.mono {x v} (h : ∀ a, O' a → O a) (r : RepF K O H x v) : RepF K O' H x v := r.car (Car.mono h)
theorem RepD.mono {x v} (h : ∀ a, O' a → O a) (r : RepD K O H x v) : RepD K O' H x v := r.car (Car.mono h)
def Nw (H : Hp) (b : Addr) : Prop := ∀ o, H b = some o → ∃ ps, o = .tbl ps
theorem Nw.of {b : Addr} (h : H b = none) : Nw H b := fun o e => by rw [h] at e; cases e
theorem Nw.no {b : Addr} {o : HO} (n : Nw H b) (h : H b = some o) (t : ∀ ps, o ≠ .tbl ps) : False := by
 obtain ⟨ps, e⟩ := n o h
 exact t ps e
theorem nw_ne {a b : Addr} {u : HO} (z : b ≠ a) (n : Nw (upd H a u) b) : Nw H b := fun o h => n o (by rw [upd_ne z]; exact h)
theorem nw_same {a : Addr} {u : HO} (t : ∀ ps, u ≠ .tbl ps) : ¬ Nw (upd H a u) a := fun n => n.no upd_same t
theorem live_upd {a b : Addr} {u : HO} (t : ∀ ps, u ≠ .tbl ps) (n : ¬ Nw H b) : ¬ Nw (upd H a u) b := by
 by_cases z : b = a
 ·rw [z]; exact nw_same t
 ·exact fun q => n (nw_ne z q)
def Trk (O : Addr → Prop) (H : Hp) : Prop := ∀ a, O a → ¬ Nw H a
theorem Trk.same (t : Trk O H) (s : Same H H') : Trk O H' := fun a h e => t a h fun o q => e o (s a o q)
theorem Car.same (s : Same H H') : Car O O H H' := fun a o n e _ => ⟨s a o e, n⟩
theorem Same.new {p : Addr} {o : HO} (hp : H p = none) : Same H (upd H p o) := fun b u e => by rw [upd_ne (ne_of_none e hp)]; exact e
theorem Trk.fresh {p : Addr} (t : Trk O H) (hp : H p = none) : ¬ O p := fun h => t p h (Nw.of hp)
-- lists
theorem Reps.nil : Reps K O H [] [] := by unfold Reps; rfl
theorem Reps.cons {x xs v vs} (h : Rep K O H x v) (t : Reps K O H xs vs) : Reps K O H (x :: xs) (v :: vs) := by unfold Reps; exact ⟨v, vs, rfl, h, t⟩
theorem Reps.inv {x : PV} {xs : List PV} {vs : List V} (h : Reps K O H (x :: xs) vs) : ∃ v us, vs = v :: us ∧ Rep K O H x v ∧ Reps K O H xs us := by unfold Reps at h; exact h
theorem Reps.inv0 {vs : List V} (h : Reps K O H [] vs) : vs = [] := by unfold Reps at h; exact h
theorem Reps.len : ∀ {xs : List PV} {vs : List V}, Reps K O H xs vs → vs.length = xs.length
 | [], _, h => by rw [h.inv0]; rfl
 | x :: xs, _, h => by
  obtain ⟨v, us, rfl, _, t⟩ := h.inv
  rw [List.length_cons, List.length_cons, t.len]
theorem Reps.get : ∀ {xs : List PV} {vs : List V} {i : Nat} {x : PV}, Reps K O H xs vs → xs[i]? = some x → ∃ v, vs[i]? = some v ∧ Rep K O H x v
 | [], _, _, _, _, e => by simp at e
 | x :: xs, _, 0, _, h, e => by
  obtain ⟨v, us, rfl, r, t⟩ := h.inv
  simp at e; subst e; exact ⟨v, rfl, r⟩
 | x :: xs, _, i + 1, _, h, e => by
  obtain ⟨v, us, rfl, r, t⟩ := h.inv
  obtain ⟨u, h1, h2⟩ := t.get (i := i) (by simpa using e)
  exact ⟨u, by simpa using h1, h2⟩
theorem Reps.app : ∀ {xs ys : List PV} {vs us : List V}, Reps K O H xs vs → Reps K O H ys us → Reps K O H (xs ++ ys) (vs ++ us)
 | [], _, _, _, h, t => by rw [h.inv0]; exact t
 | x :: xs, _, _, _, h, t => by
  obtain ⟨v, us, rfl, r, q⟩ := h.inv
  exact .cons r (q.app t)
theorem Reps.take : ∀ {xs : List PV} {vs : List V} (n : Nat), Reps K O H xs vs → Reps K O H (xs.take n) (vs.take n)
 | [], _, n, h => by rw [h.inv0]; simp; exact .nil
 | x :: xs, _, 0, h => by simp; exact .nil
 | x :: xs, _, n + 1, h => by
  obtain ⟨v, us, rfl, r, q⟩ := h.inv
  exact .cons r (q.take n)
theorem Reps.drop : ∀ {xs : List PV} {vs : List V} (n : Nat), Reps K O H xs vs → Reps K O H (xs.drop n) (vs.drop n)
 | [], _, n, h => by rw [h.inv0]; simp; exact .nil
 | x :: xs, _, 0, h => by simpa using h
 | x :: xs, _, n + 1, h => by
  obtain ⟨v, us, rfl, r, q⟩ := h.inv
  exact q.drop n
theorem Reps.set : ∀ {xs : List PV} {vs : List V} {x v} (i : Nat), Reps K O H xs vs → Rep K O H x v → Reps K O H (xs.set i x) (vs.set i v)
 | [], _, _, _, n, h, _ => by rw [h.inv0]; exact .nil
 | y :: xs, _, _, _, 0, h, r => by
  obtain ⟨v, us, rfl, _, q⟩ := h.inv
  exact .cons r q
 | y :: xs, _, _, _, n + 1, h, r => by
  obtain ⟨v, us, rfl, r0, q⟩ := h.inv
  exact .cons r0 (q.set n r)
theorem RepF.look : ∀ {fs : List (Str × PV)} {ws : List (Str × V)}, RepF K O H fs ws → ∀ f : Str, (∀ x, fs.lookup f = some x → ∃ v, ws.lookup f = some v ∧ Rep K O H x v) ∧ (fs.lookup f = none → ws.lookup f = none)
 | [], _, h, f => by
  unfold RepF at h; subst h
  refine ⟨fun x e => ?_, fun _ => rfl⟩
  simp at e
 | (n, x) :: fs, _, h, f => by
  unfold RepF at h
  obtain ⟨v, us, rfl, r, t⟩ := h
  obtain ⟨h1, h2⟩ := t.look f
  by_cases e : f = n
  ·subst e
   simp only [List.lookup_cons_self]
   exact ⟨fun y q => by cases q; exact ⟨v, rfl, r⟩, fun q => nomatch q⟩
  ·have e' : (f == n) = false := by simpa using e
   simp only [List.lookup_cons, e']
   exact ⟨h1, h2⟩
theorem RepF.len : ∀ {fs : List (Str × PV)} {ws : List (Str × V)}, RepF K O H fs ws → ws.length = fs.length
 | [], _, h => by unfold RepF at h; rw [h]; rfl
 | (n, x) :: fs, _, h => by
  unfold RepF at h
  obtain ⟨v, us, rfl, r, t⟩ := h
  rw [List.length_cons, List.length_cons, t.len]
theorem RepD.nil : RepD K O H [] [] := by unfold RepD; rfl
theorem RepD.len : ∀ {fs : List (Key × PV)} {ws : List (Key × V)}, RepD K O H fs ws → ws.length = fs.length
 | [], _, h => by unfold RepD at h; rw [h]; rfl
 | (n, x) :: fs, _, h => by
  unfold RepD at h
  obtain ⟨v, us, rfl, r, t⟩ := h
  rw [List.length_cons, List.length_cons, t.len]
theorem RepD.keys : ∀ {fs : List (Key × PV)} {ws : List (Key × V)}, RepD K O H fs ws → ws.map (·.1) = fs.map (·.1)
 | [], _, h => by unfold RepD at h; rw [h]; rfl
 | (n, x) :: fs, _, h => by
  unfold RepD at h
  obtain ⟨v, us, rfl, r, t⟩ := h
  rw [List.map_cons, List.map_cons, t.keys]
end
inductive Ow where
 | l (xs : List PV) | o (C : Addr) (fs : List (Str × PV)) | d (kvs : List (Key × PV))
inductive Sl where
 | no | va (x : PV) | ow (o : Ow)
abbrev EP' := List Sl
def OwAt (K : PySem.W.Frag) (O : Addr → Prop) (H : Hp) (a : Addr) : Ow → Prop
 | .l xs => ∃ vs, H a = some (.lst vs) ∧ Reps K O H xs vs
 | .o C fs => ∃ dx ws, H a = some (.ins C dx ws) ∧ RepF K O H fs ws
 | .d kvs => ∃ ws, H a = some (.dK ws) ∧ RepD K O H kvs ws
def IsOwn (σ : St) (η : EP') (a : Addr) : Prop := ∃ (i : Nat) (o : Ow), σ[i]? = some (some (V.ref a)) ∧ η[i]? = some (Sl.ow o)
def Oof (F : Addr → Prop) (σ : St) (η : EP') : Addr → Prop := fun a => F a ∨ IsOwn σ η a
structure Rs (K : PySem.W.Frag) (T : List (Addr × Str)) (F : Addr → Prop) (σ : St) (η : EP') (H : Hp) : Prop where
 len : σ.length = η.length
 va : ∀ (i : Nat) (x : PV), η[i]? = some (Sl.va x) → ∃ v, σ[i]? = some (some v) ∧ Rep K (Oof F σ η) H x v
 ow : ∀ (i : Nat) (o : Ow), η[i]? = some (Sl.ow o) → ∃ a, σ[i]? = some (some (V.ref a)) ∧ OwAt K (Oof F σ η) H a o ∧ ¬ F a
 nd : ∀ (i j : Nat) (o o' : Ow) (a : Addr), η[i]? = some (Sl.ow o) → η[j]? = some (Sl.ow o') → σ[i]? = some (some (V.ref a)) → σ[j]? = some (some (V.ref a)) → i = j
 tr : Trk F H
 tb : LamX.Tabs T H
structure Ext (σ : St) (η : EP') (σ' : St) (η' : EP') (H H' : Hp) : Prop where
 keep : ∀ b o, H b = some o → ¬ IsOwn σ η b → (∀ ps, o ≠ .tbl ps) → H' b = some o
 live : ∀ b, ¬ Nw H b → ¬ Nw H' b
 new : ∀ b, IsOwn σ' η' b → IsOwn σ η b ∨ Nw H b
 fst : ∀ o' : Ow, η'[0]? = some (Sl.ow o') → ∃ o : Ow, η[0]? = some (Sl.ow o) ∧ σ'[0]? = σ[0]?
section
variable {K : PySem.W.Frag} {T : List (Addr × Str)} {F : Addr → Prop} {σ σ1 σ2 : St} {η η1 η2 : EP'} {H H1 H2 : Hp}
theorem Ext.refl : Ext σ η σ η H H := ⟨fun _ _ e _ _ => e, fun _ e => e, fun _ e => .inl e, fun o e => ⟨o, e, rfl⟩⟩
theorem Ext.trans (a : Ext σ η σ1 η1 H H1) (b : Ext σ1 η1 σ2 η2 H1 H2) : Ext σ η σ2 η2 H H2 := by
 refine ⟨fun c o e n t => b.keep c o (a.keep c o e n t) ?_ t, fun c e => b.live c (a.live c e), fun c z => ?_, fun o e => ?_⟩
 ·intro z
  rcases a.new c z with q | q
  ·exact n q
  ·exact q.no e t
 ·rcases b.new c z with q | q
  ·exact a.new c q
  ·by_cases e : Nw H c
   ·exact .inr e
   ·exact absurd q (a.live c e)
 ·obtain ⟨o1, e1, s1⟩ := b.fst o e
  obtain ⟨o2, e2, s2⟩ := a.fst o1 e1
  exact ⟨o2, e2, s1.trans s2⟩
theorem Ext.same (s : Same H H1) : Ext σ η σ η H H1 := by
 refine ⟨fun b o e _ _ => s b o e, fun b e q => e fun o r => q o (s b o r), fun _ z => .inl z, fun o e => ⟨o, e, rfl⟩⟩
theorem Ext.nw {b : Addr} (e : Ext σ η σ1 η1 H H1) (n : Nw H1 b) : Nw H b := Classical.byContradiction fun z => e.live b z n
theorem Rs.trO (R : Rs K T F σ η H) : Trk (Oof F σ η) H := by
 rintro a (h | ⟨i, o, h1, h2⟩) e
 ·exact R.tr a h e
 ·obtain ⟨b, q1, q2, _⟩ := R.ow i o h2
  rw [h1] at q1; cases q1
  cases o with
  | l xs => obtain ⟨vs, q, _⟩ := q2; exact e.no q nofun
  | o C fs => obtain ⟨dx, ws, q, _⟩ := q2; exact e.no q nofun
  | d kvs => obtain ⟨ws, q, _⟩ := q2; exact e.no q nofun
theorem Ext.car (e : Ext σ η σ1 η1 H H1) : Car (Oof F σ η) (Oof F σ1 η1) H H1 := fun a o n h t =>
 ⟨e.keep a o h (fun z => n (.inr z)) t, fun z => z.elim (fun z => n (.inl z)) fun z => (e.new a z).elim (fun z => n (.inr z)) fun q => q.no h t⟩
theorem OwAt.car {O O' : Addr → Prop} {a : Addr} {o : Ow} (c : Car O O' H H1) (h : OwAt K O H a o) (e : H1 a = H a) : OwAt K O' H1 a o := by
 cases o with
 | l xs =>
  obtain ⟨vs, q, r⟩ := h
  exact ⟨vs, e.trans q, r.car c⟩
 | o C fs =>
  obtain ⟨dx, ws, q, r⟩ := h
  exact ⟨dx, ws, e.trans q, r.car c⟩
 | d kvs =>
  obtain ⟨ws, q, r⟩ := h
  exact ⟨ws, e.trans q, r.car c⟩
theorem Rs.same (R : Rs K T F σ η H) (s : Same H H1) : Rs K T F σ η H1 := by
 have c : Car (Oof F σ η) (Oof F σ η) H H1 := Car.same s
 refine ⟨R.len, fun i x e => ?_, fun i o e => ?_, R.nd, R.tr.same s, R.tb.ext s⟩
 ·obtain ⟨v, h1, h2⟩ := R.va i x e
  exact ⟨v, h1, h2.car c⟩
 ·obtain ⟨a, h1, h2, h3⟩ := R.ow i o e
  refine ⟨a, h1, h2.car c ?_, h3⟩
  cases q : H a with
  | none => exact absurd (Nw.of q) (R.trO a (.inr ⟨i, o, h1, e⟩))
  | some u => exact s a u q
end
abbrev TEp := EP' → (PV → EP' → Prop) → Prop
abbrev TTp := EP' → (Bool → EP' → Prop) → Prop
abbrev TAp := EP' → (List PV → EP' → Prop) → Prop
structure EndsP where
 nx : EP' → Prop
 rt : PV → EP' → Prop
 bk : EP' → Prop := fun _ => False
 ct : EP' → Prop := fun _ => False
abbrev TSp := EndsP → EP' → Prop
def up (K : PySem.W.Frag) (T : List (Addr × Str)) (tp : TEp) : TE := fun σ H Q => ∃ F η P, Rs K T F σ η H ∧ tp η P ∧ ∀ x η' v H', P x η' → Ext σ η σ η' H H' → Rs K T F σ η' H' → Rep K (Oof F σ η') H' x v → Q v H'
def upB (K : PySem.W.Frag) (T : List (Addr × Str)) (tp : TTp) : TT := fun σ H Q => ∃ F η P, Rs K T F σ η H ∧ tp η P ∧ ∀ x η' H', P x η' → Ext σ η σ η' H H' → Rs K T F σ η' H' → Q x H'
def upA (K : PySem.W.Frag) (T : List (Addr × Str)) (tp : TAp) : TA := fun σ H Q => ∃ F η P, Rs K T F σ η H ∧ tp η P ∧ ∀ xs η' vs H', P xs η' → Ext σ η σ η' H H' → Rs K T F σ η' H' → Reps K (Oof F σ η') H' xs vs → Q vs H'
def upS (K : PySem.W.Frag) (T : List (Addr × Str)) (ts : TSp) : TS := fun D σ H => ∃ F η D', Rs K T F σ η H ∧ ts D' η ∧
 (∀ η' σ' H', D'.nx η' → Ext σ η σ' η' H H' → Rs K T F σ' η' H' → D.nx σ' H') ∧
 (∀ η' σ' H', D'.bk η' → Ext σ η σ' η' H H' → Rs K T F σ' η' H' → D.bk σ' H') ∧
 (∀ η' σ' H', D'.ct η' → Ext σ η σ' η' H H' → Rs K T F σ' η' H' → D.ct σ' H') ∧
 (∀ x η' σ' v H', D'.rt x η' → Ext σ η σ' η' H H' → Rs K T F σ' η' H' → Rep K (Oof F σ' η') H' x v → D.rt v H')
section
variable {X : Cx}
theorem PE.weak {e : Expr} {t t' : TE} (h : PE X e t) (w : ∀ σ H Q, t' σ H Q → t σ H Q) : PE X e t' := ⟨fun pins s σ H Q I q => h.run pins s σ H Q I (w _ _ _ q)⟩
theorem PT.weak {e : Expr} {t t' : TT} (h : PT X e t) (w : ∀ σ H Q, t' σ H Q → t σ H Q) : PT X e t' := ⟨fun pins s σ H Q I q => h.run pins s σ H Q I (w _ _ _ q)⟩
theorem PW.weak {e : Expr} {t t' : TT} (h : PW X e t) (w : ∀ σ H Q, t' σ H Q → t σ H Q) : PW X e t' := ⟨fun wh pins s σ H Q I q => h.run wh pins s σ H Q I (w _ _ _ q)⟩
theorem PA.weak {e : List Expr} {t t' : TA} (h : PA X e t) (w : ∀ σ H Q, t' σ H Q → t σ H Q) : PA X e t' := ⟨fun pos pins s σ H Q I q => h.run pos pins s σ H Q I (w _ _ _ q)⟩
theorem PS.weak {e : Stmt} {t t' : TS} (h : PS X e t) (w : ∀ D σ H, t' D σ H → t D σ H) : PS X e t' := ⟨fun pins s σ H D I q => h.run pins s σ H D I (w _ _ _ q)⟩
theorem PSs.weak {e : List Stmt} {t t' : TS} (h : PSs X e t) (w : ∀ D σ H, t' D σ H → t D σ H) : PSs X e t' := ⟨fun pins s σ H D I q => h.run pins s σ H D I (w _ _ _ q)⟩
end
section
variable {K : PySem.W.Frag} {T : List (Addr × Str)} {F : Addr → Prop} {σ : St} {η : EP'} {H H' : Hp} {i : Nat} {x : PV} {v : V} {a : Addr} {o : Ow}
theorem ne_set {α : Type} {l : List α} {i j : Nat} {x : α} (h : j ≠ i) : (l.set i x)[j]? = l[j]? := List.getElem?_set_ne (Ne.symm h)
theorem at_set {α : Type} {l : List α} {i : Nat} {x y : α} (h : (l.set i x)[i]? = some y) : y = x := by
 by_cases hi : i < l.length
 ·rw [List.getElem?_set_self hi] at h; exact (Option.some.inj h).symm
 ·rw [List.getElem?_eq_none (by simpa using hi)] at h; cases h
theorem own_set {b : Addr} {w : V} (h : IsOwn (σ.set i (some w)) (η.set i (.va x)) b) : IsOwn σ η b := by
 obtain ⟨j, o, h1, h2⟩ := h
 by_cases e : j = i
 ·subst e; cases at_set h2
 ·rw [ne_set e] at h1 h2; exact ⟨j, o, h1, h2⟩
theorem own_set1 {b : Addr} (h : IsOwn σ (η.set i (.va x)) b) : IsOwn σ η b := by
 obtain ⟨j, o, h1, h2⟩ := h
 by_cases e : j = i
 ·subst e; cases at_set h2
 ·rw [ne_set e] at h2; exact ⟨j, o, h1, h2⟩
theorem Oof_mono {σ' : St} {η' : EP'} (h : ∀ b, IsOwn σ' η' b → IsOwn σ η b) : ∀ b, Oof F σ' η' b → Oof F σ η b := fun b z => z.elim .inl fun z => .inr (h b z)
theorem OwAt.mono {O O' : Addr → Prop} (h : ∀ b, O' b → O b) (r : OwAt K O H a o) : OwAt K O' H a o := r.car (Car.mono h) rfl
theorem Rs.setv (R : Rs K T F σ η H) (r : Rep K (Oof F σ η) H x v) : Rs K T F (σ.set i (some v)) (η.set i (.va x)) H := by
 have m : ∀ b, Oof F (σ.set i (some v)) (η.set i (.va x)) b → Oof F σ η b := Oof_mono fun b z => own_set z
 refine ⟨by simpa using R.len, fun j y e => ?_, fun j o e => ?_, fun j k o o' a e1 e2 e3 e4 => ?_, R.tr, R.tb⟩
 ·by_cases h : j = i
  ·subst h
   have := at_set e; cases this
   have hj : j < η.length := by
    have := (List.getElem?_eq_some_iff.mp e).1; simpa using this
   exact ⟨v, by rw [List.getElem?_set_self (by rw [R.len]; exact hj)], r.mono m⟩
  ·rw [ne_set h] at e ⊢
   obtain ⟨w, h1, h2⟩ := R.va j y e
   exact ⟨w, h1, h2.mono m⟩
 ·by_cases h : j = i
  ·subst h; cases at_set e
  ·rw [ne_set h] at e ⊢
   obtain ⟨a, h1, h2, h3⟩ := R.ow j o e
   exact ⟨a, h1, h2.mono m, h3⟩
 ·have hj : j ≠ i := fun h => by subst h; cases at_set e1
  have hk : k ≠ i := fun h => by subst h; cases at_set e2
  rw [ne_set hj] at e1 e3
  rw [ne_set hk] at e2 e4
  exact R.nd j k o o' a e1 e2 e3 e4
theorem Ext.setv {w : V} : Ext σ η (σ.set i (some w)) (η.set i (.va x)) H H := ⟨fun _ _ e _ _ => e, fun _ e => e, fun _ z => .inl (own_set z), fun o e => by
 by_cases h : (0 : Nat) = i
 ·subst h; cases at_set e
 ·rw [ne_set h] at e ⊢
  exact ⟨o, e, rfl⟩⟩
def wkV : PV → PV
 | .pln xs => .tup xs
 | x => x
theorem Rep.wkV {O : Addr → Prop} {x : PV} {v : V} (h : Rep K O H x v) : Rep K O H (wkV x) v := by
 cases x <;> try exact h
 unfold Z.wkV
 unfold Rep at h ⊢
 obtain ⟨a, vs, o, e, n, h, d, r⟩ := h
 exact ⟨a, vs, e, .inl ⟨n, .inr ⟨o, h⟩⟩, r⟩
def frz : Ow → PV
 | .l xs => .lst xs
 | .o C fs => .ins C fs
 | .d kvs => .dic kvs
theorem OwAt.frz {O : Addr → Prop} (h : OwAt K O H a o) (n : ¬ O a) : Rep K O H (frz o) (.ref a) := by
 cases o with
 | l xs =>
  obtain ⟨vs, h1, h2⟩ := h
  unfold Z.frz Rep
  exact ⟨a, vs, rfl, n, h1, h2⟩
 | o C fs =>
  obtain ⟨dx, ws, h1, h2⟩ := h
  unfold Z.frz Rep
  exact ⟨a, dx, ws, rfl, n, h1, h2⟩
 | d kvs =>
  obtain ⟨ws, h1, h2⟩ := h
  unfold Z.frz Rep
  exact ⟨a, ws, rfl, n, h1, h2⟩
theorem Rs.freeze (R : Rs K T F σ η H) (e : η[i]? = some (.ow o)) : ∃ a, σ[i]? = some (some (V.ref a)) ∧ Rs K T F σ (η.set i (.va (frz o))) H ∧ Rep K (Oof F σ (η.set i (.va (frz o)))) H (frz o) (.ref a) := by
 obtain ⟨a, s, r, nf⟩ := R.ow i o e
 have m : ∀ b, Oof F σ (η.set i (.va (frz o))) b → Oof F σ η b := Oof_mono fun b z => own_set1 z
 have na : ¬ Oof F σ (η.set i (.va (frz o))) a := by
  rintro (z | ⟨j, o', h1, h2⟩)
  ·exact nf z
  ·have hj : j ≠ i := fun h => by subst h; cases at_set h2
   rw [ne_set hj] at h2
   exact hj (R.nd j i o' o a h2 e h1 s)
 have rep := (r.mono m).frz na
 refine ⟨a, s, ⟨by simpa using R.len, fun j y q => ?_, fun j o' q => ?_, fun j k p p' b e1 e2 e3 e4 => ?_, R.tr, R.tb⟩, rep⟩
 ·by_cases h : j = i
  ·subst h
   cases at_set q
   exact ⟨_, s, rep⟩
  ·rw [ne_set h] at q
   obtain ⟨w, h1, h2⟩ := R.va j y q
   exact ⟨w, h1, h2.mono m⟩
 ·by_cases h : j = i
  ·subst h; cases at_set q
  ·rw [ne_set h] at q
   obtain ⟨b, h1, h2, h3⟩ := R.ow j o' q
   exact ⟨b, h1, h2.mono m, h3⟩
 ·have hj : j ≠ i := fun h => by subst h; cases at_set e1
  have hk : k ≠ i := fun h => by subst h; cases at_set e2
  rw [ne_set hj] at e1
  rw [ne_set hk] at e2
  exact R.nd j k p p' b e1 e2 e3 e4
theorem Ext.freeze : Ext σ η σ (η.set i (.va x)) H H := ⟨fun _ _ e _ _ => e, fun _ e => e, fun _ z => .inl (own_set1 z), fun o e => by
 by_cases h : (0 : Nat) = i
 ·subst h; cases at_set e
 ·rw [ne_set h] at e
  exact ⟨o, e, rfl⟩⟩
end
section
variable {X : Cx} {T : List (Addr × Str)}
def Out (K : PySem.W.Frag) (O : Addr → Prop) (H : Hp) (P : PV → Prop) (Q : VK) : Prop := ∀ z v H', P z → Same H H' → Rep K O H' z v → Q v H'
abbrev R2p := PV → PV → (PV → Prop) → Prop
def r2 (K : PySem.W.Frag) (r : R2p) : R2 := fun x y H Q => ∃ O px py P, Trk O H ∧ Rep K O H px x ∧ Rep K O H py y ∧ r px py P ∧ Out K O H P Q
abbrev R1p := List PV → (PV → Prop) → Prop
def r1 (K : PySem.W.Frag) (r : R1p) : List V → Hp → VK → Prop := fun vs H Q => ∃ O ps P, Trk O H ∧ Reps K O H ps vs ∧ r ps P ∧ Out K O H P Q
def tOpP (r : R2p) (ta tb : TEp) : TEp := fun η P => ta η fun x η1 => tb η1 fun y η2 => r x y fun z => P z η2
def tCBP (r : R1p) (t : TAp) : TEp := fun η P => t η fun xs η1 => r xs fun z => P z η1
def tConP (x : PV) : TEp := fun η P => P x η
def tVarP (i : Nat) : TEp := fun η P => match η[i]? with
 | some (.va x) => P x η
 | some (.ow o) => P (frz o) (η.set i (.va (frz o)))
 | _ => False
def tNilP : TAp := fun η P => P [] η
def tConsP (ta : TEp) (t : TAp) : TAp := fun η P => ta η fun x η1 => t η1 fun xs η2 => P (x :: xs) η2
variable {e a b c : Expr} {es : List Expr} {ta tb tc : TEp} {t : TAp} {pos : Pos}
theorem z_var {i : Nat} {x : Str} (h : PE X (.Name x pos) (tVar i)) : PE X (.Name x pos) (up X.K T (tVarP i)) := by
 refine PE.weak h fun σ H Q q => ?_
 obtain ⟨F, η, P, R, h, k⟩ := q
 unfold tVarP at h
 split at h
 ·rename_i y e
  obtain ⟨v, h1, h2⟩ := R.va i y e
  exact ⟨v, h1, k _ _ _ _ h .refl R h2⟩
 ·rename_i o e
  obtain ⟨a, h1, h2, h3⟩ := R.freeze e
  exact ⟨_, h1, k _ _ _ _ h .freeze h2 h3⟩
 ·cases h
def tVarKP (i : Nat) : TEp := fun η P => match η[i]? with
 | some (.va x) => P (wkV x) η
 | _ => False
theorem z_varK {i : Nat} {x : Str} (h : PE X (.Name x pos) (tVar i)) : PE X (.Name x pos) (up X.K T (tVarKP i)) := by
 refine PE.weak h fun σ H Q q => ?_
 obtain ⟨F, η, P, R, h, k⟩ := q
 unfold tVarKP at h
 split at h
 ·rename_i y e
  obtain ⟨v, h1, h2⟩ := R.va i y e
  exact ⟨v, h1, k _ _ _ _ h .refl R h2.wkV⟩
 ·cases h
theorem zvK (i : Nat) {x : Str} {pos : Pos} (hN : X.N[i]? = some x := by rfl) (hv : Vis X.env.scope x := by first | exact Or.inl rfl | exact Or.inr (Or.inl rfl) | exact Or.inr (Or.inr rfl)) (hd : (x == ("__debug__" : Str)) = false := by decide)
  (hcd : (x == ("__classdict__" : Str)) = false := by decide) : PE X (.Name x pos) (up X.K T (tVarKP i)) := z_varK (pe_var hN hv hd hcd)
theorem zv (i : Nat) {x : Str} {pos : Pos} (hN : X.N[i]? = some x := by rfl) (hv : Vis X.env.scope x := by first | exact Or.inl rfl | exact Or.inr (Or.inl rfl) | exact Or.inr (Or.inr rfl)) (hd : (x == ("__debug__" : Str)) = false := by decide)
  (hcd : (x == ("__classdict__" : Str)) = false := by decide) : PE X (.Name x pos) (up X.K T (tVarP i)) := z_var (pe_var hN hv hd hcd)
theorem z_con {v : V} {x : PV} (h : PE X e (tC v)) (r : ∀ O H, Rep X.K O H x v) : PE X e (up X.K T (tConP x)) := by
 refine PE.weak h fun σ H Q q => ?_
 obtain ⟨F, η, P, R, h, k⟩ := q
 exact k _ _ _ _ h .refl R (r _ _)
theorem z_int {i j} : PE X (.Constant (.int i) j pos) (up X.K T (tConP (.int i))) := z_con pe_int fun _ _ => by unfold Rep; rfl
theorem z_bl {i j} : PE X (.Constant (.bool i) j pos) (up X.K T (tConP (.bl i))) := z_con pe_bl fun _ _ => by unfold Rep; rfl
theorem z_non {j} : PE X (.Constant .none j pos) (up X.K T (tConP .non)) := z_con pe_non fun _ _ => by unfold Rep; rfl
theorem z_str {i j} : PE X (.Constant (.str i) j pos) (up X.K T (tConP (.str i))) := z_con pe_str fun _ _ => by unfold Rep; rfl
theorem z_op {op : Operator} {r : R2p} (ho : OpR X (binaryOp op) (r2 X.K r)) (ha : PE X a (up X.K T ta)) (hb : PE X b (up X.K T tb)) : PE X (.BinOp a op b pos) (up X.K T (tOpP r ta tb)) := by
 refine PE.weak (pe_op ho ha hb) fun σ H Q q => ?_
 obtain ⟨F, η, P, R, h, k⟩ := q
 refine ⟨F, η, _, R, h, fun x η1 v H1 h1 e1 R1 r1' => ⟨F, η1, _, R1, h1, fun y η2 w H2 h2 e2 R2' rw' => ?_⟩⟩
 exact ⟨Oof F σ η2, x, y, _, R2'.trO, r1'.car e2.car, rw', h2, fun z u H3 pz s rz => k z η2 u H3 pz ((e1.trans e2).trans (.same s)) (R2'.same s) rz⟩
theorem z_cmp {op : CmpOp} {r : R2p} (ho : OpR X (compareOp op) (r2 X.K r)) (ha : PE X a (up X.K T ta)) (hb : PE X b (up X.K T tb)) (hm : behindInMarks op b = false := by first | exact nomark _ | rfl) : PE X (.Compare a [op] [b] pos) (up X.K T (tOpP r ta tb)) := by
 refine PE.weak (pe_cmpR ho ha hb hm) fun σ H Q q => ?_
 obtain ⟨F, η, P, R, h, k⟩ := q
 refine ⟨F, η, _, R, h, fun x η1 v H1 h1 e1 R1 r1' => ⟨F, η1, _, R1, h1, fun y η2 w H2 h2 e2 R2' rw' => ?_⟩⟩
 exact ⟨Oof F σ η2, x, y, _, R2'.trO, r1'.car e2.car, rw', h2, fun z u H3 pz s rz => k z η2 u H3 pz ((e1.trans e2).trans (.same s)) (R2'.same s) rz⟩
def tChainP (r r' : R2p) (ta tb tc : TEp) : TEp := fun η P => ta η fun x η1 => tb η1 fun y η2 => r x y fun z => ∃ k, z = .bl k ∧ if k = true then tc η2 fun w η3 => r' y w fun z' => P z' η3 else P (.bl false) η2
theorem za_nil : PA X [] (upA X.K T tNilP) := by
 refine PA.weak pa_nil fun σ H Q q => ?_
 obtain ⟨F, η, P, R, h, k⟩ := q
 exact k [] η [] H h .refl R .nil
theorem za_cons (ha : PE X e (up X.K T ta)) (hr : PA X es (upA X.K T t)) (hs : starEach (e :: es) X.env = (false, eval e X.env) :: starEach es X.env := by rfl) : PA X (e :: es) (upA X.K T (tConsP ta t)) := by
 refine PA.weak (pa_cons ha hr hs) fun σ H Q q => ?_
 obtain ⟨F, η, P, R, h, k⟩ := q
 refine ⟨F, η, _, R, h, fun x η1 v H1 h1 e1 R1 r1' => ⟨F, η1, _, R1, h1, fun y η2 w H2 h2 e2 R2' rw' => ?_⟩⟩
 exact k (x :: y) η2 (v :: w) H2 h2 (e1.trans e2) R2' (.cons (r1'.car e2.car) rw')
theorem z_callB {x : Str} {id : String} {r : R1p} {p : Pos} (hc : CallR X (.builtin id) (r1 X.K r)) (hg : Gl X x) (hm : X.mg x = none) (hv : bootBuiltins x = some (.builtin id)) (ha : PA X (e :: es) (upA X.K T t)) (hn : x ≠ "__name__" := by decide) (hdb : (x == ("__debug__" : Str)) = false := by decide)
  (he : starEach (e :: es) X.env = (false, eval e X.env) :: starEach es X.env := by rfl) (hpl : (backTo pos (starEach es X.env)).any (·.1) = false := by rfl) : PE X (.Call (.Name x p) (e :: es) [] pos) (up X.K T (tCBP r t)) := by
 refine PE.weak (pe_callB hc hg hm hv ha hn hdb he hpl) fun σ H Q q => ?_
 obtain ⟨F, η, P, R, h, k⟩ := q
 refine ⟨F, η, _, R, h, fun x η1 v H1 h1 e1 R1 r1' => ?_⟩
 exact ⟨Oof F σ η1, x, _, R1.trO, r1', h1, fun z u H3 pz s rz => k z η1 u H3 pz (e1.trans (.same s)) (R1.same s) rz⟩
theorem z_callTy {x : Str} {id : String} {r : R1p} {p : Pos} (hc : CallR X (.type id) (r1 X.K r)) (hg : Gl X x) (hm : X.mg x = none) (hv : bootBuiltins x = some (.type id)) (ha : PA X (e :: es) (upA X.K T t)) (hn : x ≠ "__name__" := by decide) (hdb : (x == ("__debug__" : Str)) = false := by decide)
  (he : starEach (e :: es) X.env = (false, eval e X.env) :: starEach es X.env := by rfl) (hpl : (backTo pos (starEach es X.env)).any (·.1) = false := by rfl) : PE X (.Call (.Name x p) (e :: es) [] pos) (up X.K T (tCBP r t)) := by
 refine PE.weak (pe_callTy hc hg hm hv ha hn hdb he hpl) fun σ H Q q => ?_
 obtain ⟨F, η, P, R, h, k⟩ := q
 refine ⟨F, η, _, R, h, fun x η1 v H1 h1 e1 R1 r1' => ?_⟩
 exact ⟨Oof F σ η1, x, _, R1.trO, r1', h1, fun z u H3 pz s rz => k z η1 u H3 pz (e1.trans (.same s)) (R1.same s) rz⟩
def tTupP (t : TAp) : TEp := fun η P => t η fun xs η1 => xs.length ≤ sizeLine ∧ P (.tup xs) η1
def tLstP (t : TAp) : TEp := fun η P => t η fun xs η1 => xs.length ≤ sizeLine ∧ P (.lst xs) η1
theorem rep_newT {K : PySem.W.Frag} {O : Addr → Prop} {H : Hp} {p : Addr} {xs : List PV} {vs : List V} (tr : Trk O H) (hp : H p = none) (r : Reps K O H xs vs) : Rep K O (upd H p (.tup vs)) (.tup xs) (.ref p) := by
 unfold Rep
 exact ⟨p, vs, rfl, .inl ⟨tr.fresh hp, .inl upd_same⟩, r.car (Car.same (Same.new hp))⟩
theorem rep_newL {K : PySem.W.Frag} {O : Addr → Prop} {H : Hp} {p : Addr} {xs : List PV} {vs : List V} (tr : Trk O H) (hp : H p = none) (r : Reps K O H xs vs) : Rep K O (upd H p (.lst vs)) (.lst xs) (.ref p) := by
 unfold Rep
 exact ⟨p, vs, rfl, tr.fresh hp, upd_same, r.car (Car.same (Same.new hp))⟩
theorem z_tup {x1} (h : PA X es (upA X.K T t)) : PE X (.Tuple es x1 pos) (up X.K T (tTupP t)) := by
 refine PE.weak (pe_tup h) fun σ H Q q => ?_
 obtain ⟨F, η, P, R, h, k⟩ := q
 refine ⟨F, η, _, R, h, fun xs η1 vs H1 h1 e1 R1 r1' => ⟨by rw [r1'.len]; exact h1.1, fun p hp => ?_⟩⟩
 exact k _ η1 _ _ h1.2 (e1.trans (.same (Same.new hp))) (R1.same (Same.new hp)) (rep_newT R1.trO hp r1')
theorem z_lst (h : PA X es (upA X.K T t)) : PE X (.List es pos) (up X.K T (tLstP t)) := by
 refine PE.weak (pe_lst h) fun σ H Q q => ?_
 obtain ⟨F, η, P, R, h, k⟩ := q
 refine ⟨F, η, _, R, h, fun xs η1 vs H1 h1 e1 R1 r1' => ⟨by rw [r1'.len]; exact h1.1, fun p hp => ?_⟩⟩
 exact k _ η1 _ _ h1.2 (e1.trans (.same (Same.new hp))) (R1.same (Same.new hp)) (rep_newL R1.trO hp r1')
def truth : PV → Option Bool
 | .bl b => some b
 | .non => some false
 | .int i => some (i != 0)
 | .lst xs => some (!xs.isEmpty)
 | .tup xs => some (!xs.isEmpty)
 | _ => none
def tBlP (ta : TEp) : TTp := fun η P => ta η fun x η1 => match x with | .bl b => P b η1 | _ => False
theorem zt_val (h : PE X e (up X.K T ta)) (he : ∀ whole, isTrue e X.env whole = (do let v ← whole; standAt e.pos; holding [v] (truthy v)) := by intro _; rfl) : PT X e (upB X.K T (tBlP ta)) := by
 refine PT.weak (pt_val h he) fun σ H Q q => ?_
 obtain ⟨F, η, P, R, h, k⟩ := q
 refine ⟨F, η, _, R, h, fun x η1 v H1 h1 e1 R1 r1' => ?_⟩
 split at h1
 ·unfold Rep at r1'
  exact ⟨_, r1', k _ η1 H1 h1 e1 R1⟩
 ·cases h1
theorem zt_cmp {op : CmpOp} {r : R2p} (ho : OpR X (compareOp op) (r2 X.K r)) (ha : PE X a (up X.K T ta)) (hb : PE X b (up X.K T tb)) (hm : behindInMarks op b = false := by first | exact nomark _ | rfl) : PT X (.Compare a [op] [b] pos) (upB X.K T (tBlP (tOpP r ta tb))) := by
 refine PT.weak (pt_cmpR ho ha hb hm) fun σ H Q q => ?_
 obtain ⟨F, η, P, R, h, k⟩ := q
 refine ⟨F, η, _, R, h, fun x η1 v H1 h1 e1 R1 r1' => ⟨F, η1, _, R1, h1, fun y η2 w H2 h2 e2 R2' rw' => ?_⟩⟩
 refine ⟨Oof F σ η2, x, y, _, R2'.trO, r1'.car e2.car, rw', h2, fun z u H3 pz s rz => ?_⟩
 dsimp only at pz
 split at pz
 ·unfold Rep at rz
  exact ⟨_, rz, k _ η2 H3 pz ((e1.trans e2).trans (.same s)) (R2'.same s)⟩
 ·cases pz
theorem z_chain {op op' : CmpOp} {r r' : R2p} (ho : OpR X (compareOp op) (r2 X.K r)) (ho' : OpR X (compareOp op') (r2 X.K r')) (ha : PE X a (up X.K T ta)) (hb : PE X b (up X.K T tb)) (hc : PE X c (up X.K T tc))
  (pf : PE X (.Compare a [op, op'] [b, c] pos) (tChain (r2 X.K r) (r2 X.K r') (up X.K T ta) (up X.K T tb) (up X.K T tc))) : PE X (.Compare a [op, op'] [b, c] pos) (up X.K T (tChainP r r' ta tb tc)) := by
 refine PE.weak pf fun σ H Q q => ?_
 obtain ⟨F, η, P, R, h, k⟩ := q
 refine ⟨F, η, _, R, h, fun x η1 v H1 h1 e1 R1 r1' => ⟨F, η1, _, R1, h1, fun y η2 w H2 h2 e2 R2' rw' => ?_⟩⟩
 refine ⟨Oof F σ η2, x, y, _, R2'.trO, r1'.car e2.car, rw', h2, fun z u H3 pz s rz => ?_⟩
 obtain ⟨kk, rfl, pz⟩ := pz
 unfold Rep at rz
 refine ⟨kk, rz, ?_⟩
 cases kk with
 | false => exact k _ η2 _ H3 pz ((e1.trans e2).trans (.same s)) (R2'.same s) (by unfold Rep; rfl)
 | true =>
  simp only [if_true] at pz ⊢
  refine ⟨F, η2, _, R2'.same s, pz, fun z' η3 u' H4 h4 e4 R4 r4 => ?_⟩
  exact ⟨Oof F σ η3, y, z', _, R4.trO, (rw'.car (Car.same s)).car e4.car, r4, h4, fun z2 u2 H5 p5 s5 r5 => k z2 η3 u2 H5 p5 ((((e1.trans e2).trans (.same s)).trans e4).trans (.same s5)) (R4.same s5) r5⟩
def tAndP (t u : TTp) : TTp := fun η P => t η fun c η1 => if c = true then u η1 P else P false η1
def tOrP (t u : TTp) : TTp := fun η P => t η fun c η1 => if c = true then P true η1 else u η1 P
def tNotP (t : TTp) : TTp := fun η P => t η fun c η1 => P (!c) η1
variable {rest : List Expr} {tA tB : TTp}
theorem zw_and1 (ha : PT X a (upB X.K T tA)) : PW X (.BoolOp .And [a] pos) (upB X.K T tA) := pw_and1 ha
theorem zw_or1 (ha : PT X a (upB X.K T tA)) : PW X (.BoolOp .Or [a] pos) (upB X.K T tA) := pw_or1 ha
theorem zw_and (ha : PT X a (upB X.K T tA)) (hb : PW X (.BoolOp .And (b :: rest) pos) (upB X.K T tB)) : PW X (.BoolOp .And (a :: b :: rest) pos) (upB X.K T (tAndP tA tB)) := by
 refine PW.weak (pw_and ha hb) fun σ H Q q => ?_
 obtain ⟨F, η, P, R, h, k⟩ := q
 refine ⟨F, η, _, R, h, fun x η1 H1 h1 e1 R1 => ?_⟩
 cases x with
 | false => exact k _ _ _ h1 e1 R1
 | true =>
  simp only [if_true] at h1 ⊢
  exact ⟨F, η1, _, R1, h1, fun y η2 H2 h2 e2 R2' => k _ _ _ h2 (e1.trans e2) R2'⟩
theorem zw_or (ha : PT X a (upB X.K T tA)) (hb : PW X (.BoolOp .Or (b :: rest) pos) (upB X.K T tB)) : PW X (.BoolOp .Or (a :: b :: rest) pos) (upB X.K T (tOrP tA tB)) := by
 refine PW.weak (pw_or ha hb) fun σ H Q q => ?_
 obtain ⟨F, η, P, R, h, k⟩ := q
 refine ⟨F, η, _, R, h, fun x η1 H1 h1 e1 R1 => ?_⟩
 cases x with
 | true => exact k _ _ _ h1 e1 R1
 | false =>
  simp only [Bool.false_eq_true, if_false] at h1 ⊢
  exact ⟨F, η1, _, R1, h1, fun y η2 H2 h2 e2 R2' => k _ _ _ h2 (e1.trans e2) R2'⟩
theorem zt_not (ha : PT X a (upB X.K T tA)) : PT X (.UnaryOp .Not a pos) (upB X.K T (tNotP tA)) := by
 refine PT.weak (pt_not ha) fun σ H Q q => ?_
 obtain ⟨F, η, P, R, h, k⟩ := q
 exact ⟨F, η, _, R, h, fun x η1 H1 h1 e1 R1 => k _ _ _ h1 e1 R1⟩
def tAndVP (ta tb : TEp) : TEp := fun η P => ta η fun x η1 => match x with | .bl true => tb η1 P | .bl false => P (.bl false) η1 | _ => False
def tOrVP (ta tb : TEp) : TEp := fun η P => ta η fun x η1 => match x with | .bl false => tb η1 P | .bl true => P (.bl true) η1 | _ => False
def tNotVP (ta : TEp) : TEp := fun η P => ta η fun x η1 => match x with | .bl b => P (.bl (!b)) η1 | _ => False
theorem z_one {op} (h : PE X a (up X.K T ta)) : PE X (.BoolOp op [a] pos) (up X.K T ta) := pe_one h
theorem z_and (ha : PE X a (up X.K T ta)) (hb : PE X (.BoolOp .And (b :: rest) pos) (up X.K T tb)) : PE X (.BoolOp .And (a :: b :: rest) pos) (up X.K T (tAndVP ta tb)) := by
 refine PE.weak (pe_and ha hb) fun σ H Q q => ?_
 obtain ⟨F, η, P, R, h, k⟩ := q
 refine ⟨F, η, _, R, h, fun x η1 v H1 h1 e1 R1 r => ?_⟩
 split at h1
 ·unfold Rep at r
  exact ⟨true, r, F, η1, _, R1, h1, fun y η2 w H2 h2 e2 R2' r2' => k _ _ _ _ h2 (e1.trans e2) R2' r2'⟩
 ·have r' := r
  unfold Rep at r'
  exact ⟨false, r', k _ _ _ _ h1 e1 R1 (by unfold Rep; rfl)⟩
 ·cases h1
theorem z_not (ha : PE X a (up X.K T ta)) : PE X (.UnaryOp .Not a pos) (up X.K T (tNotVP ta)) := by
 refine PE.weak (pe_not ha) fun σ H Q q => ?_
 obtain ⟨F, η, P, R, h, k⟩ := q
 refine ⟨F, η, _, R, h, fun x η1 v H1 h1 e1 R1 r => ?_⟩
 split at h1
 ·unfold Rep at r
  exact ⟨_, r, k _ _ _ _ h1 e1 R1 (by unfold Rep; rfl)⟩
 ·cases h1
def tIfP (t : TTp) (ta tb : TEp) : TEp := fun η P => t η fun c η1 => if c = true then ta η1 P else tb η1 P
theorem z_ifExp (hc : PT X c (upB X.K T tA)) (ha : PE X a (up X.K T ta)) (hb : PE X b (up X.K T tb)) : PE X (.IfExp c a b pos) (up X.K T (tIfP tA ta tb)) := by
 refine PE.weak (pe_ifExp hc ha hb) fun σ H Q q => ?_
 obtain ⟨F, η, P, R, h, k⟩ := q
 refine ⟨F, η, _, R, h, fun x η1 H1 h1 e1 R1 => ?_⟩
 cases x with
 | true =>
  simp only [if_true] at h1 ⊢
  exact ⟨F, η1, _, R1, h1, fun y η2 w H2 h2 e2 R2' r2' => k _ _ _ _ h2 (e1.trans e2) R2' r2'⟩
 | false =>
  simp only [Bool.false_eq_true, if_false] at h1 ⊢
  exact ⟨F, η1, _, R1, h1, fun y η2 w H2 h2 e2 R2' r2' => k _ _ _ _ h2 (e1.trans e2) R2' r2'⟩
end
section
variable {X : Cx}
theorem OpR.weak {f : Value → Value → Sem Value} {r r' : R2} (h : OpR X f r) (w : ∀ x y H Q, r' x y H Q → r x y H Q) : OpR X f r' := fun pins s σ H x y v u Q I rx ry q => h pins s σ H x y v u Q I rx ry (w _ _ _ _ q)
theorem CallR.weak {f : Value} {r r' : List V → Hp → VK → Prop} (h : CallR X f r) (w : ∀ x H Q, r' x H Q → r x H Q) : CallR X f r' := fun pins s σ H xs us Q I r q => h pins s σ H xs us Q I r (w _ _ _ q)
variable {K : PySem.W.Frag} {O : Addr → Prop} {H : Hp} {v : V} {P : PV → Prop} {Q : VK}
-- inversion
theorem Rep.int_ {i} (h : Rep K O H (.int i) v) : v = .int i := by unfold Rep at h; exact h
theorem Rep.str_ {i} (h : Rep K O H (.str i) v) : v = .str i := by unfold Rep at h; exact h
theorem Rep.bl_ {i} (h : Rep K O H (.bl i) v) : v = .bl i := by unfold Rep at h; exact h
theorem Rep.non_ (h : Rep K O H .non v) : v = .non := by unfold Rep at h; exact h
theorem Rep.raw_ {u} (h : Rep K O H (.raw u) v) : v = u := by unfold Rep at h; exact h
theorem Rep.lst_ {xs} (h : Rep K O H (.lst xs) v) : ∃ a vs, v = .ref a ∧ ¬ O a ∧ H a = some (.lst vs) ∧ Reps K O H xs vs := by unfold Rep at h; exact h
theorem Rep.tup_ {xs} (h : Rep K O H (.tup xs) v) : ∃ a vs, v = .ref a ∧ TupAt K O H a vs ∧ Reps K O H xs vs := by unfold Rep at h; exact h
theorem Rep.scr_ {ns} (h : Rep K O H (.scr ns) v) : ∃ a o, v = .ref a ∧ ¬ O a ∧ H a = some (.frz o (.lst (ns.map V.int))) := by unfold Rep at h; exact h
theorem Rep.ins_ {C fs} (h : Rep K O H (.ins C fs) v) : ∃ a dx ws, v = .ref a ∧ ¬ O a ∧ H a = some (.ins C dx ws) ∧ RepF K O H fs ws := by unfold Rep at h; exact h
theorem rep_int {i} : Rep K O H (.int i) (.int i) := by unfold Rep; rfl
theorem rep_str {i} : Rep K O H (.str i) (.str i) := by unfold Rep; rfl
theorem rep_bl {i} : Rep K O H (.bl i) (.bl i) := by unfold Rep; rfl
theorem rep_non : Rep K O H .non .non := by unfold Rep; rfl
theorem Out.int {i} (h : Out K O H P Q) (p : P (.int i)) : Q (.int i) H := h _ _ _ p (Same.refl _) rep_int
theorem Out.str {i} (h : Out K O H P Q) (p : P (.str i)) : Q (.str i) H := h _ _ _ p (Same.refl _) rep_str
theorem Out.bl {i} (h : Out K O H P Q) (p : P (.bl i)) : Q (.bl i) H := h _ _ _ p (Same.refl _) rep_bl
theorem Out.non (h : Out K O H P Q) (p : P .non) : Q .non H := h _ _ _ p (Same.refl _) rep_non
theorem Out.newL {xs vs} {p : Addr} (h : Out K O H P Q) (q : P (.lst xs)) (tr : Trk O H) (r : Reps K O H xs vs) (hp : H p = none) : Q (.ref p) (upd H p (.lst vs)) := h _ _ _ q (Same.new hp) (rep_newL tr hp r)
theorem Out.newT {xs vs} {p : Addr} (h : Out K O H P Q) (q : P (.tup xs)) (tr : Trk O H) (r : Reps K O H xs vs) (hp : H p = none) : Q (.ref p) (upd H p (.tup vs)) := h _ _ _ q (Same.new hp) (rep_newT tr hp r)
def rAdd : R2p := fun x y P => match x, y with
 | .int i, .int j => P (.int (i + j))
 | .str x, .str y => x.length + y.length ≤ sizeLine ∧ P (.str (x ++ y))
 | .lst xs, .lst ys => xs.length + ys.length ≤ sizeLine ∧ P (.lst (xs ++ ys))
 | .tup xs, .tup ys => xs ≠ [] ∧ xs.length + ys.length ≤ sizeLine ∧ P (.tup (xs ++ ys))
 | _, _ => False
theorem zo_add : OpR X (binaryOp .Add) (r2 X.K rAdd) := by
 refine OpR.weak ((op_add (X := X)).or (op_add_str.or (op_cat.or op_catT))) fun x y H Q h => ?_
 obtain ⟨O, px, py, P, tr, hx, hy, h, k⟩ := h
 unfold rAdd at h
 split at h
 ·exact .inl ⟨_, _, hx.int_, hy.int_, k.int h⟩
 ·exact .inr (.inl ⟨_, _, hx.str_, hy.str_, h.1, k.str h.2⟩)
 ·obtain ⟨a, vs, e1, n1, h1, q1⟩ := hx.lst_
  obtain ⟨b, us, e2, n2, h2, q2⟩ := hy.lst_
  exact .inr (.inr (.inl ⟨a, b, vs, us, e1, e2, h1, h2, by rw [q1.len, q2.len]; exact h.1, fun p hp => k.newL h.2 tr (q1.app q2) hp⟩))
 ·obtain ⟨a, vs, e1, h1, q1⟩ := hx.tup_
  obtain ⟨b, us, e2, h2, q2⟩ := hy.tup_
  refine .inr (.inr (.inr ⟨a, b, vs, us, e1, e2, h1.sq, h2.sq, fun z => h.1 (by rw [z] at q1; exact List.length_eq_zero_iff.mp q1.len.symm), by rw [q1.len, q2.len]; exact h.2.1, fun z => ?_, fun _ p hp => k.newT h.2.2 tr (q1.app q2) hp⟩))
  refine k _ _ _ h.2.2 (Same.refl _) ?_
  unfold Rep
  exact ⟨a, vs, rfl, h1, by have := q1.app q2; rw [z, List.append_nil] at this; exact this⟩
 ·cases h
def rSub : R2p := fun x y P => match x, y with
 | .int i, .int j => P (.int (i - j))
 | _, _ => False
theorem zo_sub : OpR X (binaryOp .Sub) (r2 X.K rSub) := by
 refine OpR.weak (op_sub (X := X)) fun x y H Q h => ?_
 obtain ⟨O, px, py, P, tr, hx, hy, h, k⟩ := h
 unfold rSub at h
 split at h
 ·exact ⟨_, _, hx.int_, hy.int_, k.int h⟩
 ·cases h
def rMul : R2p := fun x y P => match x, y with
 | .int i, .int j => CMul i j ∧ P (.int (i * j))
 | .lst xs, .int k => -(2 ^ 63) ≤ k ∧ k < 2 ^ 63 ∧ xs.length * k.toNat ≤ sizeLine ∧ P (.lst (List.replicate k.toNat xs).flatten)
 | _, _ => False
theorem Reps.flat {xs vs} (h : Reps K O H xs vs) : ∀ n, Reps K O H (List.replicate n xs).flatten (List.replicate n vs).flatten
 | 0 => by simp; exact .nil
 | n + 1 => by simp only [List.replicate_succ, List.flatten_cons]; exact h.app (h.flat n)
theorem zo_mul : OpR X (binaryOp .Mult) (r2 X.K rMul) := by
 refine OpR.weak ((op_mul (X := X)).or op_rep) fun x y H Q h => ?_
 obtain ⟨O, px, py, P, tr, hx, hy, h, k⟩ := h
 unfold rMul at h
 split at h
 ·exact .inl ⟨_, _, hx.int_, hy.int_, h.1, k.int h.2⟩
 ·obtain ⟨a, vs, e1, n1, h1, q1⟩ := hx.lst_
  exact .inr ⟨a, _, vs, e1, hy.int_, h1, h.1, h.2.1, by rw [q1.len]; exact h.2.2.1, fun p hp => k.newL h.2.2.2 tr (q1.flat _) hp⟩
 ·cases h
def rDiv : R2p := fun x y P => match x, y with
 | .int i, .int j => CDiv i j ∧ P (.int (i / j))
 | _, _ => False
theorem zo_div : OpR X (binaryOp .FloorDiv) (r2 X.K rDiv) := by
 refine OpR.weak (op_fdiv (X := X)) fun x y H Q h => ?_
 obtain ⟨O, px, py, P, tr, hx, hy, h, k⟩ := h
 unfold rDiv at h
 split at h
 ·exact ⟨_, _, hx.int_, hy.int_, h.1, k.int h.2⟩
 ·cases h
def rMod : R2p := fun x y P => match x, y with
 | .int i, .int j => 0 < j ∧ P (.int (i % j))
 | _, _ => False
theorem zo_mod : OpR X (binaryOp .Mod) (r2 X.K rMod) := by
 refine OpR.weak (op_mod (X := X)) fun x y H Q h => ?_
 obtain ⟨O, px, py, P, tr, hx, hy, h, k⟩ := h
 unfold rMod at h
 split at h
 ·exact ⟨_, _, hx.int_, hy.int_, h.1, k.int h.2⟩
 ·cases h
def rPow : R2p := fun x y P => match x, y with
 | .int i, .int j => CPow i j ∧ P (.int (i ^ j.toNat))
 | _, _ => False
theorem zo_pow : OpR X (binaryOp .Pow) (r2 X.K rPow) := by
 refine OpR.weak (op_pow (X := X)) fun x y H Q h => ?_
 obtain ⟨O, px, py, P, tr, hx, hy, h, k⟩ := h
 unfold rPow at h
 split at h
 ·exact ⟨_, _, hx.int_, hy.int_, h.1, k.int h.2⟩
 ·cases h
def rLt : R2p := fun x y P => match x, y with
 | .int i, .int j => P (.bl (decide (i < j)))
 | .str x, .str y => P (.bl (decide (x.cps.toList < y.cps.toList)))
 | _, _ => False
theorem zo_lt : OpR X (compareOp .Lt) (r2 X.K rLt) := by
 refine OpR.weak ((op_lt (X := X)).or op_lt_str) fun x y H Q h => ?_
 obtain ⟨O, px, py, P, tr, hx, hy, h, k⟩ := h
 unfold rLt at h
 split at h
 ·exact .inl ⟨_, _, hx.int_, hy.int_, k.bl h⟩
 ·exact .inr ⟨_, _, hx.str_, hy.str_, k.bl h⟩
 ·cases h
def rGt : R2p := fun x y P => match x, y with
 | .int i, .int j => P (.bl (decide (j < i)))
 | _, _ => False
theorem zo_gt : OpR X (compareOp .Gt) (r2 X.K rGt) := by
 refine OpR.weak (op_gt (X := X)) fun x y H Q h => ?_
 obtain ⟨O, px, py, P, tr, hx, hy, h, k⟩ := h
 unfold rGt at h
 split at h
 ·exact ⟨_, _, hx.int_, hy.int_, k.bl h⟩
 ·cases h
def rGe : R2p := fun x y P => match x, y with
 | .int i, .int j => P (.bl (decide (j ≤ i)))
 | _, _ => False
theorem zo_ge : OpR X (compareOp .GtE) (r2 X.K rGe) := by
 refine OpR.weak (op_ge (X := X)) fun x y H Q h => ?_
 obtain ⟨O, px, py, P, tr, hx, hy, h, k⟩ := h
 unfold rGe at h
 split at h
 ·exact ⟨_, _, hx.int_, hy.int_, k.bl h⟩
 ·cases h
end
mutual
def toD : PV → Option PyData
 | .non => some .none
 | .bl b => some (.bool b)
 | .int i => some (.int i)
 | .str x => some (.str x)
 | .tup xs => (toDs xs).map .tuple
 | .lst xs => (toDs xs).map .list
 | .scr _ => none
 | .ins _ _ => none
 | .dic _ => none
 | .raw _ => none
 | .pln xs => (toDs xs).map .tuple
 | .exn _ _ _ => none
def toDs : List PV → Option (List PyData)
 | [] => some []
 | x :: xs => match toD x, toDs xs with
  | some d, some ds => some (d :: ds)
  | _, _ => none
end
theorem toDs_cons {x : PV} {xs : List PV} {ds : List PyData} (h : toDs (x :: xs) = some ds) : ∃ d r, ds = d :: r ∧ toD x = some d ∧ toDs xs = some r := by
 unfold toDs at h
 split at h
 ·rename_i d r h1 h2
  cases h
  exact ⟨d, r, rfl, h1, h2⟩
 ·cases h
section
variable {K : PySem.W.Frag} {O : Addr → Prop} {H : Hp}
mutual
theorem Rep.dp : ∀ (x : PV) (v : V) (d : PyData), Rep K O H x v → toD x = some d → Dp K H v d
 | .non, _, _, h, e => by cases h.non_; unfold toD at e; cases e; exact .non
 | .bl _, _, _, h, e => by cases h.bl_; unfold toD at e; cases e; exact .bl _
 | .int _, _, _, h, e => by cases h.int_; unfold toD at e; cases e; exact .int _
 | .str _, _, _, h, e => by cases h.str_; unfold toD at e; cases e; exact .str _
 | .tup xs, _, _, h, e => by
  obtain ⟨a, vs, rfl, t, r⟩ := h.tup_
  unfold toD at e
  cases q : toDs xs with
  | none => rw [q] at e; cases e
  | some ds => rw [q] at e; cases e; exact .tup t.sq (Reps.dp xs vs ds r q)
 | .lst xs, _, _, h, e => by
  obtain ⟨a, vs, rfl, n, t, r⟩ := h.lst_
  unfold toD at e
  cases q : toDs xs with
  | none => rw [q] at e; cases e
  | some ds => rw [q] at e; cases e; exact .lst (SqL.of t) (Reps.dp xs vs ds r q)
 | .scr _, _, _, _, e => by unfold toD at e; cases e
 | .ins _ _, _, _, _, e => by unfold toD at e; cases e
 | .dic _, _, _, _, e => by unfold toD at e; cases e
 | .raw _, _, _, _, e => by unfold toD at e; cases e
 | .exn _ _ _, _, _, _, e => by unfold toD at e; cases e
 | .pln xs, _, _, h, e => by
  have h' := h.wkV
  unfold wkV at h'
  obtain ⟨a, vs, rfl, t, r⟩ := h'.tup_
  unfold toD at e
  cases q : toDs xs with
  | none => rw [q] at e; cases e
  | some ds => rw [q] at e; cases e; exact .tup t.sq (Reps.dp xs vs ds r q)
theorem Reps.dp : ∀ (xs : List PV) (vs : List V) (ds : List PyData), Reps K O H xs vs → toDs xs = some ds → DpAll K H vs ds
 | [], _, _, h, e => by rw [h.inv0]; unfold toDs at e; cases e; exact .nil
 | x :: xs, _, _, h, e => by
  obtain ⟨v, us, rfl, r, t⟩ := h.inv
  obtain ⟨d, ds, rfl, h1, h2⟩ := toDs_cons e
  exact .cons (Rep.dp x v d r h1) (Reps.dp xs us ds t h2)
end
end
section
variable {X : Cx}
def rEqP (neg : Bool) : R2p := fun x y P => ∃ d e, toD x = some d ∧ toD y = some e ∧ SeqAt.shaped d = true ∧ SeqAt.shaped e = true ∧ P (.bl (if neg then !PyData.eqv d e else PyData.eqv d e))
theorem zo_eq (hu : X.A.units + 64 < cLine) : OpR X (compareOp .Eq) (r2 X.K (rEqP false)) := by
 refine OpR.weak (op_eqD hu) fun x y H Q h => ?_
 obtain ⟨O, px, py, P, tr, hx, hy, ⟨d, e, h1, h2, h3, h4, h⟩, k⟩ := h
 exact ⟨d, e, Rep.dp _ _ _ hx h1, Rep.dp _ _ _ hy h2, h3, h4, k.bl h⟩
theorem zo_ne (hu : X.A.units + 64 < cLine) : OpR X (compareOp .NotEq) (r2 X.K (rEqP true)) := by
 refine OpR.weak (op_neD hu) fun x y H Q h => ?_
 obtain ⟨O, px, py, P, tr, hx, hy, ⟨d, e, h1, h2, h3, h4, h⟩, k⟩ := h
 exact ⟨d, e, Rep.dp _ _ _ hx h1, Rep.dp _ _ _ hy h2, h3, h4, k.bl h⟩
def rEqI (neg : Bool) : R2p := fun x y P => match x, y with
 | .int i, .int j => P (.bl (if neg then !decide (i = j) else decide (i = j)))
 | .str i, .str j => P (.bl (if neg then !decide (i = j) else decide (i = j)))
 | .bl i, .bl j => P (.bl (if neg then !decide (i = j) else decide (i = j)))
 | _, _ => False
theorem zo_eqI : OpR X (compareOp .Eq) (r2 X.K (rEqI false)) := by
 refine OpR.weak (op_eq (X := X)) fun x y H Q h => ?_
 obtain ⟨O, px, py, P, tr, hx, hy, h, k⟩ := h
 unfold rEqI at h
 split at h
 ·rw [hx.int_, hy.int_]; refine ⟨rfl, k.bl ?_⟩; simpa using h
 ·rw [hx.str_, hy.str_]; refine ⟨rfl, k.bl ?_⟩; simpa using h
 ·rw [hx.bl_, hy.bl_]; refine ⟨rfl, k.bl ?_⟩; simpa using h
 ·cases h
theorem zo_neI : OpR X (compareOp .NotEq) (r2 X.K (rEqI true)) := by
 refine OpR.weak (op_ne (X := X)) fun x y H Q h => ?_
 obtain ⟨O, px, py, P, tr, hx, hy, h, k⟩ := h
 unfold rEqI at h
 split at h
 ·rw [hx.int_, hy.int_]; refine ⟨rfl, k.bl ?_⟩; simpa using h
 ·rw [hx.str_, hy.str_]; refine ⟨rfl, k.bl ?_⟩; simpa using h
 ·rw [hx.bl_, hy.bl_]; refine ⟨rfl, k.bl ?_⟩; simpa using h
 ·cases h
def rLe : R2p := fun x y P => match x, y with
 | .int i, .int j => P (.bl (decide (i ≤ j)))
 | .str x, .str y => P (.bl (!decide (y.cps.toList < x.cps.toList)))
 | _, _ => False
theorem zo_le : OpR X (compareOp .LtE) (r2 X.K rLe) := by
 refine OpR.weak ((op_le (X := X)).or op_le_str) fun x y H Q h => ?_
 obtain ⟨O, px, py, P, tr, hx, hy, h, k⟩ := h
 unfold rLe at h
 split at h
 ·exact .inl ⟨_, _, hx.int_, hy.int_, k.bl h⟩
 ·exact .inr ⟨_, _, hx.str_, hy.str_, k.bl h⟩
 ·cases h
def isNon : PV → Option Bool
 | .non => some true
 | .raw _ => none
 | _ => some false
def rIsN (neg : Bool) : R2p := fun x y P => match y with
 | .non => ∃ b, isNon x = some b ∧ P (.bl (if neg then !b else b))
 | _ => False
theorem isNon_rep {K : PySem.W.Frag} {O : Addr → Prop} {H : Hp} {x : PV} {v : V} {b : Bool} (h : Rep K O H x v) (e : isNon x = some b) : decide (v = .non) = b := by
 cases x <;> unfold isNon at e <;> try (cases e)
 ·rw [h.non_]; rfl
 ·rw [h.bl_]; rfl
 ·rw [h.int_]; rfl
 ·rw [h.str_]; rfl
 ·obtain ⟨a, vs, rfl, _⟩ := h.tup_; rfl
 ·obtain ⟨a, vs, rfl, _⟩ := h.lst_; rfl
 ·obtain ⟨a, vs, rfl, _⟩ := h.scr_; rfl
 ·obtain ⟨a, vs, _, rfl, _⟩ := h.ins_; rfl
 ·unfold Rep at h; obtain ⟨a, ws, rfl, _⟩ := h; rfl
 ·unfold Rep at h; obtain ⟨a, ws, o, rfl, _⟩ := h; rfl
 ·unfold Rep at h; obtain ⟨rfl, _⟩ := h; rfl
theorem zo_is : OpR X (compareOp .Is) (r2 X.K (rIsN false)) := by
 refine OpR.weak (op_isN (X := X)) fun x y H Q h => ?_
 obtain ⟨O, px, py, P, tr, hx, hy, h, k⟩ := h
 unfold rIsN at h
 split at h
 ·obtain ⟨b, h1, h2⟩ := h
  refine ⟨hy.non_, ?_⟩
  rw [isNon_rep hx h1]; exact k.bl h2
 ·cases h
theorem zo_isnot : OpR X (compareOp .IsNot) (r2 X.K (rIsN true)) := by
 refine OpR.weak (op_notN (X := X)) fun x y H Q h => ?_
 obtain ⟨O, px, py, P, tr, hx, hy, h, k⟩ := h
 unfold rIsN at h
 split at h
 ·obtain ⟨b, h1, h2⟩ := h
  refine ⟨hy.non_, ?_⟩
  rw [isNon_rep hx h1]; exact k.bl h2
 ·cases h
def rInS (neg : Bool) : R2p := fun x y P => match x, y with
 | .str a, .str z => ∃ c, a = ⟨#[c]⟩ ∧ P (.bl (if neg then !decide (c ∈ z.cps.toList) else decide (c ∈ z.cps.toList)))
 | _, _ => False
theorem zo_in : OpR X (compareOp .In) (r2 X.K (rInS false)) := by
 refine OpR.weak (op_in_sign (X := X)) fun x y H Q h => ?_
 obtain ⟨O, px, py, P, tr, hx, hy, h, k⟩ := h
 unfold rInS at h
 split at h
 ·obtain ⟨c, rfl, h⟩ := h
  exact ⟨c, _, hx.str_, hy.str_, k.bl h⟩
 ·cases h
def rLen : R1p := fun ps P => match ps with
 | [.str x] => x.length ≤ sizeLine ∧ P (.int x.length)
 | [.lst xs] => P (.int xs.length)
 | [.tup xs] => P (.int xs.length)
 | [.scr xs] => P (.int xs.length)
 | _ => False
theorem zc_len : CallR X (.builtin "len") (r1 X.K rLen) := by
 refine CallR.weak (call_len (X := X)) fun xs H Q h => ?_
 obtain ⟨O, ps, P, tr, hx, h, k⟩ := h
 unfold rLen at h
 split at h
 ·obtain ⟨v, us, rfl, r, t⟩ := hx.inv
  cases t.inv0; cases r.str_
  exact ⟨_, _, rfl, ⟨h.1, rfl⟩, k.int h.2⟩
 ·obtain ⟨v, us, rfl, r, t⟩ := hx.inv
  cases t.inv0
  obtain ⟨a, vs, rfl, n, q, rr⟩ := r.lst_
  exact ⟨_, _, rfl, .inl ⟨vs, SqL.of q, rfl⟩, by rw [rr.len]; exact k.int h⟩
 ·obtain ⟨v, us, rfl, r, t⟩ := hx.inv
  cases t.inv0
  obtain ⟨a, vs, rfl, q, rr⟩ := r.tup_
  exact ⟨_, _, rfl, .inr ⟨vs, q.sq, rfl⟩, by rw [rr.len]; exact k.int h⟩
 ·obtain ⟨v, us, rfl, r, t⟩ := hx.inv
  cases t.inv0
  obtain ⟨a, o, rfl, n, q⟩ := r.scr_
  exact ⟨_, _, rfl, .inl ⟨_, .inl (.inr ⟨o, q⟩), rfl⟩, by rw [List.length_map]; exact k.int h⟩
 ·cases h
def rAbs : R1p := fun ps P => match ps with
 | [.int i] => P (.int (if i < 0 then -i else i))
 | _ => False
theorem zc_abs : CallR X (.builtin "abs") (r1 X.K rAbs) := by
 refine CallR.weak (call_abs (X := X)) fun xs H Q h => ?_
 obtain ⟨O, ps, P, tr, hx, h, k⟩ := h
 unfold rAbs at h
 split at h
 ·obtain ⟨v, us, rfl, r, t⟩ := hx.inv
  cases t.inv0; cases r.int_
  exact ⟨_, rfl, k.int h⟩
 ·cases h
theorem Reps.two {K : PySem.W.Frag} {O H} {x y : PV} {vs : List V} (h : Reps K O H [x, y] vs) : ∃ v w, vs = [v, w] ∧ Rep K O H x v ∧ Rep K O H y w := by
 obtain ⟨v, us, rfl, r, t⟩ := h.inv
 obtain ⟨w, us, rfl, r', t⟩ := t.inv
 cases t.inv0
 exact ⟨v, w, rfl, r, r'⟩
theorem Reps.one {K : PySem.W.Frag} {O H} {x : PV} {vs : List V} (h : Reps K O H [x] vs) : ∃ v, vs = [v] ∧ Rep K O H x v := by
 obtain ⟨v, us, rfl, r, t⟩ := h.inv
 cases t.inv0
 exact ⟨v, rfl, r⟩
def rMax2 : R1p := fun ps P => match ps with
 | [.int i, .int j] => P (.int (if j > i then j else i))
 | _ => False
def rMin2 : R1p := fun ps P => match ps with
 | [.int i, .int j] => P (.int (if j < i then j else i))
 | _ => False
theorem zc_max2 (hc : X.calm = true) : CallR X (.builtin "max") (r1 X.K rMax2) := by
 refine CallR.weak (call_max2 hc) fun xs H Q h => ?_
 obtain ⟨O, ps, P, tr, hx, h, k⟩ := h
 unfold rMax2 at h
 split at h
 ·obtain ⟨v, w, rfl, r, r'⟩ := hx.two
  cases r.int_; cases r'.int_
  exact ⟨_, _, rfl, k.int h⟩
 ·cases h
theorem zc_min2 (hc : X.calm = true) : CallR X (.builtin "min") (r1 X.K rMin2) := by
 refine CallR.weak (call_min2 hc) fun xs H Q h => ?_
 obtain ⟨O, ps, P, tr, hx, h, k⟩ := h
 unfold rMin2 at h
 split at h
 ·obtain ⟨v, w, rfl, r, r'⟩ := hx.two
  cases r.int_; cases r'.int_
  exact ⟨_, _, rfl, k.int h⟩
 ·cases h
def blsOf : List PV → Option (List Bool)
 | [] => some []
 | .bl b :: r => (blsOf r).map (b :: ·)
 | _ => none
theorem blsOf_rep {K : PySem.W.Frag} {O H} : ∀ {xs : List PV} {bs : List Bool} {vs : List V}, blsOf xs = some bs → Reps K O H xs vs → vs = bs.map V.bl
 | [], _, _, e, h => by unfold blsOf at e; cases e; exact h.inv0
 | x :: xs, _, _, e, h => by
  obtain ⟨v, us, rfl, r, t⟩ := h.inv
  cases x <;> unfold blsOf at e <;> try (cases e)
  cases q : blsOf xs with
  | none => rw [q] at e; cases e
  | some r' =>
   rw [q] at e; cases e
   rw [r.bl_, blsOf_rep q t]; rfl
def rAllP : R1p := fun ps P => match ps with
 | [.lst xs] => ∃ bs, blsOf xs = some bs ∧ P (.bl (bs.all id))
 | _ => False
theorem zc_all (hc : X.calm = true) : CallR X (.builtin "all") (r1 X.K rAllP) := by
 refine CallR.weak (cr_all hc) fun xs H Q h => ?_
 obtain ⟨O, ps, P, tr, hx, h, k⟩ := h
 unfold rAllP at h
 split at h
 ·obtain ⟨bs, e, h⟩ := h
  obtain ⟨v, rfl, r⟩ := hx.one
  obtain ⟨a, vs, rfl, n, q, rr⟩ := r.lst_
  have := blsOf_rep e rr
  subst this
  exact ⟨a, bs, rfl, SqL.of q, k.bl h⟩
 ·cases h
def rTuple : R1p := fun ps P => match ps with
 | [.lst xs] => P (.tup xs)
 | [.tup xs] => P (.tup xs)
 | _ => False
theorem zc_tuple : CallR X (.type "tuple") (r1 X.K rTuple) := by
 refine CallR.weak (call_tuple_of (X := X)) fun xs H Q h => ?_
 obtain ⟨O, ps, P, tr, hx, h, k⟩ := h
 unfold rTuple at h
 split at h
 ·rename_i xs
  obtain ⟨v, rfl, r⟩ := hx.one
  obtain ⟨a, vs, rfl, n, q, rr⟩ := r.lst_
  exact ⟨a, vs, rfl, .inl ⟨SqL.of q, fun l hl => k.newT h tr rr hl⟩⟩
 ·obtain ⟨v, rfl, r⟩ := hx.one
  obtain ⟨a, vs, rfl, q, rr⟩ := r.tup_
  exact ⟨a, vs, rfl, .inr ⟨q.sq, k _ _ _ h (Same.refl _) r⟩⟩
 ·cases h
def rList : R1p := fun ps P => match ps with
 | [.lst xs] => P (.lst xs)
 | [.tup xs] => P (.lst xs)
 | _ => False
theorem zc_list : CallR X (.type "list") (r1 X.K rList) := by
 refine CallR.weak (call_list_of (X := X)) fun xs H Q h => ?_
 obtain ⟨O, ps, P, tr, hx, h, k⟩ := h
 unfold rList at h
 split at h
 ·obtain ⟨v, rfl, r⟩ := hx.one
  obtain ⟨a, vs, rfl, n, q, rr⟩ := r.lst_
  exact ⟨a, vs, rfl, .inl (SqL.of q), fun l hl => k.newL h tr rr hl⟩
 ·obtain ⟨v, rfl, r⟩ := hx.one
  obtain ⟨a, vs, rfl, q, rr⟩ := r.tup_
  exact ⟨a, vs, rfl, .inr q.sq, fun l hl => k.newL h tr rr hl⟩
 ·cases h
def tyN : PV → Option String
 | .non => some "NoneType"
 | .bl _ => some "bool"
 | .int _ => some "int"
 | .str _ => some "str"
 | .tup _ => some "tuple"
 | .lst _ => some "list"
 | .scr _ => some "list"
 | .dic _ => some "dict"
 | .ins _ _ => none
 | .raw _ => none
 | .pln _ => none
 | .exn _ _ _ => none
structure ClsT (K : PySem.W.Frag) (C : Addr) : Prop where
 cl : Cls K C
 ha : PySem.W.findIn K (.ref C) "__class__" = some (some (.builtin "object.__class__"))
 hn : PySem.W.specialIn K (.builtin "object.__class__") "__get__" = some (some (.builtin "getset_descriptor.__get__"))
 htk : PySem.W.takesIn K (.builtin "object.__class__") = some true
 hm : PySem.W.mroIn K C (.type "object") = some true
 own : PySem.W.kitOne K (.ref C) (.ref C) = some true
 ty : ∀ n : String, n ∈ ["int", "bool", "str", "tuple", "list", "dict"] → PySem.W.kitOne K (.ref C) (.type n) = some false
 no : ∀ n : String, n ∈ ["NoneType", "int", "bool", "str", "tuple", "list", "dict"] → PySem.W.kitOne K (.type n) (.ref C) = some false
def rIsI (K : PySem.W.Frag) : R1p := fun ps P => match ps with
 | [x, .raw (.ty n)] => (match tyN x with
  | some t => ∃ b, kitB t n = some b ∧ P (.bl b)
  | none => match x with
   | .ins C _ => ClsT K C ∧ n ∈ ["int", "bool", "str", "tuple", "list", "dict"] ∧ P (.bl false)
   | _ => False)
 | [x, .raw (.ref C)] => (match tyN x with
  | some t => ClsT K C ∧ t ∈ ["NoneType", "int", "bool", "str", "tuple", "list", "dict"] ∧ P (.bl false)
  | none => match x with
   | .ins C' _ => C' = C ∧ ClsT K C ∧ P (.bl true)
   | _ => False)
 | _ => False
theorem tyN_rep {K : PySem.W.Frag} {O H} {x : PV} {v : V} {t : String} (h : Rep K O H x v) (e : tyN x = some t) : TyX K H v (.type t) := by
 cases x <;> unfold tyN at e <;> cases e
 ·rw [h.non_]; exact .base .non
 ·rw [h.bl_]; exact .base (.bl _)
 ·rw [h.int_]; exact .base (.int _)
 ·rw [h.str_]; exact .base (.str _)
 ·obtain ⟨a, vs, rfl, q, rr⟩ := h.tup_
  rcases q with ⟨_, q | ⟨o, q⟩⟩ | ⟨o, its, n, q1, q2, _⟩
  ·exact .base (.tup q)
  ·exact .fTuple q
  ·exact .kTuple q1 q2
 ·obtain ⟨a, vs, rfl, n, q, rr⟩ := h.lst_; exact .base (.lst q)
 ·obtain ⟨a, o, rfl, n, q⟩ := h.scr_; exact .base (.frz q)
 ·unfold Rep at h; obtain ⟨a, ws, rfl, n, q, _⟩ := h; exact .base (.dK q)
theorem zc_isi : CallR X (.builtin "isinstance") (r1 X.K (rIsI X.K)) := by
 refine CallR.weak (call_isi (X := X)) fun xs H Q h => ?_
 obtain ⟨O, ps, P, tr, hx, h, k⟩ := h
 unfold rIsI at h
 split at h
 ·obtain ⟨v, w, rfl, r, r'⟩ := hx.two
  cases r'.raw_
  split at h
  ·rename_i t et
   obtain ⟨b, hb, h⟩ := h
   exact ⟨_, _, _, _, b, rfl, .ty _, tyN_rep r et, kit_ty hb, k.bl h⟩
  ·split at h
   ·obtain ⟨a, dx, ws, rfl, n, q, rr⟩ := r.ins_
    obtain ⟨T, hn, h⟩ := h
    exact ⟨_, _, _, _, false, rfl, .ty _, .base (.ins q T.cl T.ha T.hn T.htk T.hm), T.ty _ hn, k.bl h⟩
   ·cases h
 ·obtain ⟨v, w, rfl, r, r'⟩ := hx.two
  cases r'.raw_
  split at h
  ·rename_i t et
   obtain ⟨T, hn, h⟩ := h
   exact ⟨_, _, _, _, false, rfl, .own _, tyN_rep r et, T.no _ hn, k.bl h⟩
  ·split at h
   ·obtain ⟨rfl, T, h⟩ := h
    obtain ⟨a, dx, ws, rfl, n, q, rr⟩ := r.ins_
    exact ⟨_, _, _, _, true, rfl, .own _, .base (.ins q T.cl T.ha T.hn T.htk T.hm), T.own, k.bl h⟩
   ·cases h
 ·cases h
theorem call_reprD (hg : X.A.guards = some []) (hu : X.A.units + 64 < cLine) : CallR X (.builtin "repr") (fun xs H Q => ∃ v d, xs = [v] ∧ Dp X.K H v d ∧ d.showable = true ∧ d.hasDict = false ∧ d.depth ≤ 60 ∧ d.shown.length ≤ sizeLine ∧ Q (.str d.shown) H) := by
 intro pins s σ H xs us Q I r h
 obtain ⟨v, d, rfl, hd, hs, hn, hdep, hz, q⟩ := h
 obtain ⟨u, rfl, ru⟩ := vals1 r
 obtain ⟨as, rd⟩ := Dp.reads I d v u hd ru
 have fin : ∀ h' tk tk', (∀ b o, s.heap.get? b = some o → h'.get? b = some o) → EP X pins σ Q (.str d.shown tk) { s with heap := h', toks := tk' } := fun h' tk tk' k => ⟨.str d.shown, H, I.kept k, ⟨_, rfl⟩, q⟩
 cases rd with
 | none => exact PySem.P.repr_of_none (fin s.heap _ _ fun _ _ e => e)
 | bool b => exact PySem.P.repr_of_bool (fin s.heap _ _ fun _ _ e => e)
 | int i t => exact PySem.P.repr_of_int (of_decide_eq_true hs) (fin s.heap _ _ fun _ _ e => e)
 | str x t => exact PySem.P.repr_of_str (fin s.heap _ _ fun _ _ e => e) hz
 | list h1 h2 h3 h4 => exact repr_of_reads' (Reads.list h1 h2 h3 h4) hs (PyData.noDict_hsm hn) hg (by omega) (fun _ _ e => e) (fun h' u tk k => fin h' _ _ k) hz
 | tuple h1 h2 h3 h4 => exact repr_of_reads' (Reads.tuple h1 h2 h3 h4) hs (PyData.noDict_hsm hn) hg (by omega) (fun _ _ e => e) (fun h' u tk k => fin h' _ _ k) hz
 | dict h1 h2 h3 h4 h5 => cases hd
def rRepr : R1p := fun ps P => match ps with
 | [x] => ∃ d, toD x = some d ∧ d.showable = true ∧ d.hasDict = false ∧ d.depth ≤ 60 ∧ d.shown.length ≤ sizeLine ∧ P (.str d.shown)
 | _ => False
theorem zc_repr (hg : X.A.guards = some []) (hu : X.A.units + 64 < cLine) : CallR X (.builtin "repr") (r1 X.K rRepr) := by
 refine CallR.weak (call_reprD hg hu) fun xs H Q h => ?_
 obtain ⟨O, ps, P, tr, hx, h, k⟩ := h
 unfold rRepr at h
 split at h
 ·obtain ⟨d, h1, h2, h3, h4, h5, h⟩ := h
  obtain ⟨v, rfl, r⟩ := hx.one
  exact ⟨v, d, rfl, Rep.dp _ _ _ r h1, h2, h3, h4, h5, k.str h⟩
 ·cases h
def encD (x : PV) : PyData := (toD x).getD .none
theorem toDs_map : ∀ {xs : List PV} {ds : List PyData}, toDs xs = some ds → ds = xs.map encD
 | [], _, e => by unfold toDs at e; cases e; rfl
 | x :: xs, _, e => by
  obtain ⟨d, r, rfl, h1, h2⟩ := toDs_cons e
  rw [List.map_cons, ← toDs_map h2]
  unfold encD; rw [h1]; rfl
def ValR (K : PySem.W.Frag) (O : Addr → Prop) (H : Hp) (u : Value) (x : PV) : Prop := ∃ v, RelV v u ∧ Rep K O H x v
theorem each_val {K : PySem.W.Frag} {O H} : ∀ {xs : List PV} {vs : List V} {us : List Value}, Reps K O H xs vs → Vals vs us → PySem.W.EachIs (ValR K O H) us xs
 | [], _, _, h, r => by cases h.inv0; cases r; exact .nil
 | x :: xs, _, _, h, r => by
  obtain ⟨v, us, rfl, r1, t⟩ := h.inv
  cases r with
  | cons r2 t2 => exact .cons ⟨v, r2, r1⟩ (each_val t t2)
theorem val_each {K : PySem.W.Frag} {O H} : ∀ {xs : List PV} {us : List Value}, PySem.W.EachIs (ValR K O H) us xs → ∃ vs, Reps K O H xs vs ∧ Vals vs us
 | _, _, .nil => ⟨[], .nil, .nil⟩
 | _, _, .cons ⟨v, h1, h2⟩ t => by
  obtain ⟨vs, q1, q2⟩ := val_each t
  exact ⟨v :: vs, .cons h2 q1, .cons h1 q2⟩
theorem each_reads {K : PySem.W.Frag} {O H} {pins s σ} (I : Inv X pins σ H s) (hK : K = X.K) : ∀ {xs : List PV} {vs : List V} {us : List Value} {ds : List PyData}, Reps K O H xs vs → Vals vs us → toDs xs = some ds → PySem.W.EachIs (fun u x => ∃ as, Reads s.heap u (encD x) as) us xs
 | [], _, _, _, h, r, e => by cases h.inv0; cases r; exact .nil
 | x :: xs, _, _, _, h, r, e => by
  subst hK
  obtain ⟨v, us, rfl, r1, t⟩ := h.inv
  obtain ⟨d, ds, rfl, h1, h2⟩ := toDs_cons e
  cases r with
  | cons r2 t2 =>
   refine .cons ?_ (each_reads I rfl t t2 h2)
   have e' : encD x = d := by unfold encD; rw [h1]; rfl
   rw [e']
   exact Dp.reads I d v _ (Rep.dp _ _ _ r1 h1) r2
def rSortD : R1p := fun ps P => match ps with
 | [.lst xs] => ∃ ds, toDs xs = some ds ∧ PySem.W.AllAlike ds ∧ PySem.W.Sortable ds ∧ (∀ x ∈ xs, (encD x).depth ≤ 50) ∧ xs.length ≤ sizeLine ∧ P (.lst (xs.mergeSort (PySem.W.dataLe false encD)))
 | [.tup xs] => False
 | _ => False
theorem zc_sorted (hu : X.A.units + 64 < cLine) : CallR X (.builtin "sorted") (r1 X.K rSortD) := by
 intro pins s σ H vs us Q I r h
 obtain ⟨O, ps, P, tr, hx, h, k⟩ := h
 unfold rSortD at h
 split at h
 ·rename_i xs
  obtain ⟨ds, e, hal, hso, hdp, hz, h⟩ := h
  obtain ⟨v, rfl, rv⟩ := hx.one
  obtain ⟨a, ws, rfl, na, q, rr⟩ := rv.lst_
  obtain ⟨u, rfl, ru⟩ := vals1 r
  cases ru
  obtain ⟨its, rits, hl, hzz⟩ := I.list (SqL.of q)
  have em := toDs_map e
  rw [em] at hal hso
  refine PySem.W.sorted_data (R := ValR X.K O H) (enc := encD) hl.isList (each_val rr rits) (each_reads I rfl rr rits e) hal hso hz (fun b hb => by have := hdp b hb; omega) fun out ho eo => ?_
  obtain ⟨ys, r3, r4⟩ := val_each eo
  obtain ⟨c, hc⟩ := sortedAll_at s.heap its out.toArray
  have fr : H (s.heap.objs.size + 1) = none := I.hok.fresh (Nat.le_succ _)
  refine ⟨.ref (s.heap.objs.size + 1), upd H (s.heap.objs.size + 1) (.lst ys), I.laid (t' := s.toks) (fun b o e => sortedAll_old e) (Nat.le_succ _) ⟨?_, out, c, r4, hc⟩, rfl, k.newL h tr r3 fr⟩
  rw [r3.len, List.length_mergeSort]; exact hz
 ·cases h
 ·cases h
end
structure Gr (H H' : Hp) : Prop where
 keep : ∀ b o, H b = some o → (∀ ps, o ≠ .tbl ps) → H' b = some o
 live : ∀ b, ¬ Nw H b → ¬ Nw H' b
section
variable {K : PySem.W.Frag} {T : List (Addr × Str)} {F O : Addr → Prop} {σ σ' : St} {η η' : EP'} {H H' : Hp} {i : Nat} {x : PV} {v : V} {a : Addr} {o : Ow}
theorem Gr.car (g : Gr H H') : Car O O H H' := fun a o n e t => ⟨g.keep a o e t, n⟩
theorem Gr.ext (g : Gr H H') : Ext σ η σ η H H' := ⟨fun b o e _ t => g.keep b o e t, g.live, fun _ z => .inl z, fun o e => ⟨o, e, rfl⟩⟩
theorem Gr.same (s : Same H H') : Gr H H' := ⟨fun b o e _ => s b o e, (Ext.same (σ := []) (η := []) s).live⟩
theorem Rs.gr (R : Rs K T F σ η H) (g : Gr H H') (tb : LamX.Tabs T H') : Rs K T F σ η H' := by
 have c : Car (Oof F σ η) (Oof F σ η) H H' := g.car
 refine ⟨R.len, fun i x e => ?_, fun i o e => ?_, R.nd, fun a h => g.live a (R.tr a h), tb⟩
 ·obtain ⟨v, h1, h2⟩ := R.va i x e
  exact ⟨v, h1, h2.car c⟩
 ·obtain ⟨a, h1, h2, h3⟩ := R.ow i o e
  refine ⟨a, h1, h2.car c ?_, h3⟩
  cases o with
  | l xs => obtain ⟨vs, q, _⟩ := h2; rw [q]; exact g.keep _ _ q nofun
  | o C fs => obtain ⟨dx, ws, q, _⟩ := h2; rw [q]; exact g.keep _ _ q nofun
  | d kvs => obtain ⟨ws, q, _⟩ := h2; rw [q]; exact g.keep _ _ q nofun
theorem own_put {b : Addr} {o' : Ow} (e : η[i]? = some (Sl.ow o)) : IsOwn σ (η.set i (.ow o')) b ↔ IsOwn σ η b := by
 have hi : i < η.length := (List.getElem?_eq_some_iff.mp e).1
 constructor
 ·rintro ⟨j, p, h1, h2⟩
  by_cases q : j = i
  ·subst q; exact ⟨j, o, h1, e⟩
  ·rw [ne_set q] at h2; exact ⟨j, p, h1, h2⟩
 ·rintro ⟨j, p, h1, h2⟩
  by_cases q : j = i
  ·subst q; exact ⟨j, o', h1, by rw [List.getElem?_set_self hi]⟩
  ·exact ⟨j, p, h1, by rw [ne_set q]; exact h2⟩
theorem Rs.put {o' : Ow} (R : Rs K T F σ η H) (e : η[i]? = some (Sl.ow o)) (s : σ[i]? = some (some (V.ref a))) (c : Car (Oof F σ η) (Oof F σ η) H H') (oth : ∀ b, b ≠ a → IsOwn σ η b → H' b = H b) (tr : Trk F H') (tb : LamX.Tabs T H')
  (h : OwAt K (Oof F σ η) H' a o') : Rs K T F σ (η.set i (.ow o')) H' := by
 have hi : i < η.length := (List.getElem?_eq_some_iff.mp e).1
 have m : ∀ b, Oof F σ (η.set i (.ow o')) b → Oof F σ η b := Oof_mono fun b z => (own_put e).mp z
 refine ⟨by simpa using R.len, fun j y q => ?_, fun j p q => ?_, fun j k p p' b e1 e2 e3 e4 => ?_, tr, tb⟩
 ·have hj : j ≠ i := fun z => by subst z; cases at_set q
  rw [ne_set hj] at q
  obtain ⟨w, h1, h2⟩ := R.va j y q
  exact ⟨w, h1, (h2.car c).mono m⟩
 ·by_cases hj : j = i
  ·subst hj
   cases at_set q
   obtain ⟨b, h1, h2, h3⟩ := R.ow j o e
   rw [s] at h1; cases h1
   exact ⟨a, s, h.mono m, h3⟩
  ·rw [ne_set hj] at q
   obtain ⟨b, h1, h2, h3⟩ := R.ow j p q
   refine ⟨b, h1, (h2.car c (oth b ?_ ⟨j, p, h1, q⟩)).mono m, h3⟩
   rintro rfl
   exact hj (R.nd j i p o b q e h1 s)
 ·have f : ∀ {j p}, (η.set i (.ow o'))[j]? = some (Sl.ow p) → ∃ p', η[j]? = some (Sl.ow p') := fun {j p} q => by
   by_cases hj : j = i
   ·rw [hj]; exact ⟨o, e⟩
   ·rw [ne_set hj] at q; exact ⟨p, q⟩
  obtain ⟨q1, f1⟩ := f e1
  obtain ⟨q2, f2⟩ := f e2
  exact R.nd j k q1 q2 b f1 f2 e3 e4
theorem Tabs.upd {a : Addr} {u w : HO} (t : LamX.Tabs T H) (h : H a = some w) (n1 : ∀ ps, w ≠ .tbl ps) (n2 : ∀ φ, w ≠ .ext φ) : LamX.Tabs T (upd H a u) := fun p hp => by
 obtain ⟨ps, h1, h2, h3⟩ := t p hp
 refine ⟨ps, by rw [upd_ne (fun z => n1 ps (by rw [z] at h1; exact Option.some.inj (h.symm.trans h1)))]; exact h1, h2, fun pos cv hc => ?_⟩
 obtain ⟨c, e1, e2⟩ := h3 pos cv hc
 refine ⟨c, e1, ?_⟩
 rw [upd_ne (fun z => by rw [z] at e2; exact n2 _ (Option.some.inj (h.symm.trans e2)))]
 exact e2
theorem Rs.write {o' : Ow} {u w : HO} (R : Rs K T F σ η H) (e : η[i]? = some (Sl.ow o)) (s : σ[i]? = some (some (V.ref a))) (hw : H a = some w) (n1 : ∀ ps, w ≠ .tbl ps) (n2 : ∀ φ, w ≠ .ext φ) (n3 : ∀ ps, u ≠ .tbl ps)
  (h : Car (Oof F σ η) (Oof F σ η) H (upd H a u) → OwAt K (Oof F σ η) (upd H a u) a o') : Rs K T F σ (η.set i (.ow o')) (upd H a u) ∧ Ext σ η σ (η.set i (.ow o')) H (upd H a u) := by
 have own : IsOwn σ η a := ⟨i, o, s, e⟩
 have c : Car (Oof F σ η) (Oof F σ η) H (upd H a u) := fun b q n hb _ => ⟨by rw [upd_ne (fun z => n (by rw [z]; exact .inr own))]; exact hb, n⟩
 refine ⟨R.put e s c (fun b n _ => upd_ne n) (fun b hb => ?_) (Tabs.upd R.tb hw n1 n2) (h c), fun b q hb n _ => ?_, fun b hb => ?_, fun b z => .inl ((own_put e).mp z), fun p q => ?_⟩
 ·exact live_upd n3 (R.tr b hb)
 ·rw [upd_ne (fun z => n (by rw [z]; exact own))]; exact hb
 ·exact live_upd n3 hb
 ·by_cases z : (0 : Nat) = i
  ·rw [z]; exact ⟨o, e, rfl⟩
  ·rw [ne_set z] at q; exact ⟨p, q, rfl⟩
end
section
variable {X : Cx} {T : List (Addr × Str)} {e o : Expr} {es : List Expr} {te ta tb : TEp} {t : TAp} {pos : Pos} {st : Stmt} {rest : List Stmt} {t1 t2 : TSp}
def tSeqP (t u : TSp) : TSp := fun D η => t { D with nx := fun η' => u D η' } η
theorem zs_cons (h1 : PS X st (upS X.K T t1)) (h2 : PSs X rest (upS X.K T t2)) : PSs X (st :: rest) (upS X.K T (tSeqP t1 t2)) := by
 refine PSs.weak (pss_cons h1 h2) fun D σ H q => ?_
 obtain ⟨F, η, D', R, h, k1, k2, k3, k4⟩ := q
 refine ⟨F, η, _, R, h, fun η' σ' H' q e1 R1 => ?_, k2, k3, k4⟩
 exact ⟨F, η', D', R1, q, fun η'' σ'' H'' q' e2 R2 => k1 _ _ _ q' (e1.trans e2) R2, fun η'' σ'' H'' q' e2 R2 => k2 _ _ _ q' (e1.trans e2) R2, fun η'' σ'' H'' q' e2 R2 => k3 _ _ _ q' (e1.trans e2) R2, fun x η'' σ'' v H'' q' e2 R2 r => k4 _ _ _ _ _ q' (e1.trans e2) R2 r⟩
theorem zs_one (h1 : PS X st (upS X.K T t1)) : PSs X [st] (upS X.K T t1) := pss_one h1
def tNextP : TSp := fun D η => D.nx η
theorem zs_nil : PSs X [] (upS X.K T tNextP) := by
 refine PSs.weak pss_nil fun D σ H q => ?_
 obtain ⟨F, η, D', R, h, k1, k2, k3, k4⟩ := q
 exact k1 _ _ _ h .refl R
def tNevP : TSp := fun _ _ => False
theorem z_never : PS X st (upS X.K T tNevP) := PS.weak ps_never fun D σ H q => by
 obtain ⟨F, η, D', R, h, _⟩ := q
 exact h
def tDropP (te : TEp) : TSp := fun D η => te η fun _ η1 => D.nx η1
theorem z_expr (he : PE X e (up X.K T te)) (hs : swapsWith e none pos.line X.env = pure false := by rfl) : PS X (.Expr e pos) (upS X.K T (tDropP te)) := by
 refine PS.weak (ps_expr he hs) fun D σ H q => ?_
 obtain ⟨F, η, D', R, h, k1, k2, k3, k4⟩ := q
 exact ⟨F, η, _, R, h, fun x η1 v H1 h1 e1 R1 _ => k1 _ _ _ h1 e1 R1⟩
def tRetP (te : TEp) : TSp := fun D η => te η D.rt
theorem z_ret (he : PE X e (up X.K T te)) : PS X (.Return (some e) pos) (upS X.K T (tRetP te)) := by
 refine PS.weak (ps_ret he) fun D σ H q => ?_
 obtain ⟨F, η, D', R, h, k1, k2, k3, k4⟩ := q
 exact ⟨F, η, _, R, h, fun x η1 v H1 h1 e1 R1 r => k4 _ _ _ _ _ h1 e1 R1 r⟩
def tRetNP : TSp := fun D η => D.rt .non η
def tIfSP (c : TTp) (t u : TSp) : TSp := fun D η => c η fun b η1 => if b = true then t D η1 else u D η1
theorem z_if {c : Expr} {a b : List Stmt} {tc : TTp} (hc : PT X c (upB X.K T tc)) (ha : PSs X a (upS X.K T t1)) (hb : PSs X b (upS X.K T t2)) : PS X (.If c a b pos) (upS X.K T (tIfSP tc t1 t2)) := by
 refine PS.weak (ps_if hc ha hb) fun D σ H q => ?_
 obtain ⟨F, η, D', R, h, k1, k2, k3, k4⟩ := q
 refine ⟨F, η, _, R, h, fun x η1 H1 h1 e1 R1 => ?_⟩
 cases x with
 | true =>
  simp only [if_true] at h1 ⊢
  exact ⟨F, η1, D', R1, h1, fun η'' σ'' H'' q' e2 R2 => k1 _ _ _ q' (e1.trans e2) R2, fun η'' σ'' H'' q' e2 R2 => k2 _ _ _ q' (e1.trans e2) R2, fun η'' σ'' H'' q' e2 R2 => k3 _ _ _ q' (e1.trans e2) R2, fun x η'' σ'' v H'' q' e2 R2 r => k4 _ _ _ _ _ q' (e1.trans e2) R2 r⟩
 | false =>
  simp only [Bool.false_eq_true, if_false] at h1 ⊢
  exact ⟨F, η1, D', R1, h1, fun η'' σ'' H'' q' e2 R2 => k1 _ _ _ q' (e1.trans e2) R2, fun η'' σ'' H'' q' e2 R2 => k2 _ _ _ q' (e1.trans e2) R2, fun η'' σ'' H'' q' e2 R2 => k3 _ _ _ q' (e1.trans e2) R2, fun x η'' σ'' v H'' q' e2 R2 r => k4 _ _ _ _ _ q' (e1.trans e2) R2 r⟩
def tSetP (i : Nat) (te : TEp) : TSp := fun D η => te η fun x η1 => D.nx (η1.set i (.va x))
theorem z_set {i : Nat} {x : Str} {pos' : Pos} (hN : X.N.Nodup) (hi : X.N[i]? = some x) (hx : Loc X.env.scope x) (he : PE X e (up X.K T te)) (hs : swapsWith e (some (.Name x pos')) pos.line X.env = pure false := by rfl) (hf : X.fn x = true ∨ X.env.scope.names.lookup x = some .local := by first | exact .inl rfl | exact .inr rfl | assumption) :
  PS X (.Assign [.Name x pos'] e pos) (upS X.K T (tSetP i te)) := by
 refine PS.weak (ps_set hN hi hx he hs hf) fun D σ H q => ?_
 obtain ⟨F, η, D', R, h, k1, k2, k3, k4⟩ := q
 exact ⟨F, η, _, R, h, fun x η1 v H1 h1 e1 R1 r => k1 _ _ _ h1 (e1.trans .setv) (R1.setv r)⟩
abbrev TGp := PV → EP' → (EP' → Prop) → Prop
abbrev TGsp := List PV → EP' → (EP' → Prop) → Prop
def upG (K : PySem.W.Frag) (T : List (Addr × Str)) (g : TGp) : TG := fun v σ H Q => ∃ F η x P, Rs K T F σ η H ∧ Rep K (Oof F σ η) H x v ∧ g x η P ∧ ∀ η' σ' H', P η' → Ext σ η σ' η' H H' → Rs K T F σ' η' H' → Q σ' H'
def upGs (K : PySem.W.Frag) (T : List (Addr × Str)) (g : TGsp) : TGs := fun vs σ H Q => ∃ F η xs P, Rs K T F σ η H ∧ Reps K (Oof F σ η) H xs vs ∧ g xs η P ∧ ∀ η' σ' H', P η' → Ext σ η σ' η' H H' → Rs K T F σ' η' H' → Q σ' H'
theorem PG.weak {tg : Expr} {t t' : TG} (h : PG X tg t) (w : ∀ v σ H Q, t' v σ H Q → t v σ H Q) : PG X tg t' := by
 obtain ⟨r⟩ := h
 exact ⟨fun pins s σ H v u Q I rv q => r pins s σ H v u Q I rv (w _ _ _ _ q)⟩
theorem PGs.weak {tg : List Expr} {t t' : TGs} (h : PGs X tg t) (w : ∀ v σ H Q, t' v σ H Q → t v σ H Q) : PGs X tg t' := by
 obtain ⟨r⟩ := h
 exact ⟨fun pins s σ H v u Q I rv q => r pins s σ H v u Q I rv (w _ _ _ _ q)⟩
def gNameP (i : Nat) : TGp := fun x η P => P (η.set i (.va x))
theorem zg_name {i : Nat} {x : Str} (hN : X.N.Nodup) (hi : X.N[i]? = some x) (hx : Loc X.env.scope x) (hf : X.fn x = true ∨ X.env.scope.names.lookup x = some .local := by first | exact .inl rfl | exact .inr rfl | assumption) : PG X (.Name x pos) (upG X.K T (gNameP i)) := by
 refine PG.weak (pg_name hN hi hx hf) fun v σ H Q q => ?_
 obtain ⟨F, η, x, P, R, r, h, k⟩ := q
 exact k _ _ _ h .setv (R.setv r)
def gNilP : TGsp := fun xs η P => xs = [] ∧ P η
def gConsP (t : TGp) (u : TGsp) : TGsp := fun xs η P => match xs with
 | x :: r => t x η fun η1 => u r η1 P
 | [] => False
theorem zgs_nil : PGs X [] (upGs X.K T gNilP) := by
 refine PGs.weak pgs_nil fun v σ H Q q => ?_
 obtain ⟨F, η, x, P, R, r, h, k⟩ := q
 rw [h.1] at r
 exact ⟨r.inv0, k _ _ _ h.2 .refl R⟩
theorem zgs_cons {t : TGp} {u : TGsp} (h1 : PG X e (upG X.K T t)) (h2 : PGs X es (upGs X.K T u)) (pf : PGs X (e :: es) (gCons (upG X.K T t) (upGs X.K T u))) : PGs X (e :: es) (upGs X.K T (gConsP t u)) := by
 refine PGs.weak pf fun v σ H Q q => ?_
 obtain ⟨F, η, x, P, R, r, h, k⟩ := q
 unfold gConsP at h
 split at h
 ·obtain ⟨v, us, rfl, r1, r2⟩ := r.inv
  refine ⟨v, us, rfl, F, η, _, _, R, r1, h, fun η' σ' H' h' e1 R1 => ⟨F, η', _, P, R1, r2.car e1.car, h', fun η'' σ'' H'' h'' e2 R2 => k _ _ _ h'' (e1.trans e2) R2⟩⟩
 ·cases h
def gTupP (n : Nat) (t : TGsp) : TGp := fun x η P => match x with
 | .tup xs => xs.length = n ∧ t xs η P
 | _ => False
theorem zg_tup {k n : Nat} {t : TGsp} (pf : PG X (.Tuple es k pos) (gTup X.K n (upGs X.K T t))) : PG X (.Tuple es k pos) (upG X.K T (gTupP n t)) := by
 refine PG.weak pf fun v σ H Q q => ?_
 obtain ⟨F, η, x, P, R, r, h, k⟩ := q
 unfold gTupP at h
 split at h
 ·obtain ⟨a, vs, rfl, t, r⟩ := r.tup_
  exact ⟨a, vs, rfl, t.sq, by rw [r.len]; exact h.1, F, η, _, P, R, r, h.2, k⟩
 ·cases h
def tAsgP (te : TEp) (g : TGp) : TSp := fun D η => te η fun x η1 => g x η1 D.nx
theorem z_asg {tg : Expr} {g : TGp} (he : PE X e (up X.K T te)) (hg : PG X tg (upG X.K T g)) (hs : swapsWithSole [tg] e pos.line X.env = pure false := by rfl) (hw : swappedStores [tg] e X.env = pure none := by rfl) (h1 : (assignEach [tg] X.env).map (·.2) = [assign tg X.env] := by rfl) : PS X (.Assign [tg] e pos) (upS X.K T (tAsgP te g)) := by
 refine PS.weak (ps_asg he hg hs hw h1) fun D σ H q => ?_
 obtain ⟨F, η, D', R, h, k1, k2, k3, k4⟩ := q
 exact ⟨F, η, _, R, h, fun x η1 v H1 h1 e1 R1 r => ⟨F, η1, x, _, R1, r, h1, fun η' σ' H' h' e2 R2 => k1 _ _ _ h' (e1.trans e2) R2⟩⟩
def gSubP (i : Nat) (ti : TEp) : TGp := fun x η P => (∃ o, η[i]? = some (Sl.ow o)) ∧ ti η fun k η1 => match η1[i]? with
 | some (.ow (.l xs)) => ∃ kk j, k = .int kk ∧ ixN xs.length kk = some j ∧ P (η1.set i (.ow (.l (xs.set j x))))
 | _ => False
theorem zg_sub {i : Nat} {ix : Expr} {ti : TEp} (ho : PE X o (tVar i)) (hi : PE X ix (up X.K T ti)) (pf : PG X (.Subscript o ix pos) (gSub (tVar i) (up X.K T ti) rSetL)) : PG X (.Subscript o ix pos) (upG X.K T (gSubP i ti)) := by
 refine PG.weak pf fun v σ H Q q => ?_
 obtain ⟨F, η, x, P, R, r, ⟨⟨oo, ho⟩, h⟩, k⟩ := q
 obtain ⟨b, hw, _, _⟩ := R.ow i _ ho
 refine ⟨_, hw, F, η, _, R, h, fun y η1 u H1 h1 e1 R1 r1 => ?_⟩
 split at h1
 ·rename_i xs e
  obtain ⟨kk, j, rfl, hj, h1⟩ := h1
  obtain ⟨a, s, ⟨vs, q1, q2⟩, nf⟩ := R1.ow i _ e
  rw [hw] at s; cases s
  refine ⟨b, vs, kk, j, rfl, r1.int_, q1, by rw [q2.len]; exact hj, ?_⟩
  have rr := r.car e1.car
  obtain ⟨W, E⟩ := R1.write (o' := .l (xs.set j x)) (u := .lst (vs.set j v)) e hw q1 nofun nofun nofun fun c => ⟨_, upd_same, (q2.set j rr).car c⟩
  exact k _ _ _ h1 (e1.trans E) W
 ·cases h1
end
section
variable {K : PySem.W.Frag} {T : List (Addr × Str)} {F : Addr → Prop} {σ : St} {η : EP'} {H H' : Hp} {i : Nat} {x : PV} {v : V} {a : Addr} {o : Ow}
def With (F : Addr → Prop) (a : Addr) : Addr → Prop := fun b => F b ∨ b = a
abbrev TFp := EP' → (List PV → EP' → Prop) → Prop
def upF (K : PySem.W.Frag) (T : List (Addr × Str)) (tp : TFp) : TE := fun σ H Q => ∃ F η P, Rs K T F σ η H ∧ tp η P ∧ ∀ xs η' a vs H', P xs η' → Ext σ η σ η' H H' → Rs K T (With F a) σ η' H' → Nw H a → ¬ F a → H' a = some (.lst vs) → Reps K (Oof (With F a) σ η') H' xs vs → Q (.ref a) H'
theorem Rs.shrink {F' : Addr → Prop} (R : Rs K T F σ η H) (h : ∀ b, F' b → F b) : Rs K T F' σ η H := by
 have m : ∀ b, Oof F' σ η b → Oof F σ η b := fun b z => z.elim (fun z => .inl (h b z)) .inr
 refine ⟨R.len, fun i x e => ?_, fun i o e => ?_, R.nd, fun a z => R.tr a (h a z), R.tb⟩
 ·obtain ⟨v, h1, h2⟩ := R.va i x e
  exact ⟨v, h1, h2.mono m⟩
 ·obtain ⟨a, h1, h2, h3⟩ := R.ow i o e
  exact ⟨a, h1, h2.mono m, fun z => h3 (h a z)⟩
theorem Rs.add {p : Addr} {o : HO} (R : Rs K T F σ η H) (hp : H p = none) (nt : ∀ ps, o ≠ .tbl ps) : Rs K T (With F p) σ η (upd H p o) := by
 have c : Car (Oof F σ η) (Oof (With F p) σ η) H (upd H p o) := fun b q n hb _ => ⟨(Same.new hp) b q hb, fun z => by
  rcases z with (z | z) | z
  ·exact n (.inl z)
  ·rw [z, hp] at hb; cases hb
  ·exact n (.inr z)⟩
 refine ⟨R.len, fun i x e => ?_, fun i o e => ?_, R.nd, fun a z => ?_, R.tb.ext (Same.new hp)⟩
 ·obtain ⟨v, h1, h2⟩ := R.va i x e
  exact ⟨v, h1, h2.car c⟩
 ·obtain ⟨a, h1, h2, h3⟩ := R.ow i o e
  have na : a ≠ p := fun z => R.trO a (.inr ⟨i, o, h1, e⟩) (Nw.of (by rw [z]; exact hp))
  refine ⟨a, h1, h2.car c (upd_ne na), fun z => z.elim h3 na⟩
 ·rcases z with z | z
  ·exact R.tr.same (Same.new hp) a z
  ·rw [z]; exact nw_same nt
theorem car_add {p : Addr} {o : HO} (hp : H p = none) : Car (Oof F σ η) (Oof (With F p) σ η) H (upd H p o) := fun b q n hb _ => ⟨(Same.new hp) b q hb, fun z => by
  rcases z with (z | z) | z
  ·exact n (.inl z)
  ·rw [z, hp] at hb; cases hb
  ·exact n (.inr z)⟩
theorem Rs.seto (R : Rs K T (With F a) σ η H) (nf : ¬ F a) (h : OwAt K (Oof (With F a) σ η) H a o) (hi : i < η.length) : Rs K T F (σ.set i (some (.ref a))) (η.set i (.ow o)) H := by
 have m : ∀ b, Oof F (σ.set i (some (.ref a))) (η.set i (.ow o)) b → Oof (With F a) σ η b := by
  rintro b (z | ⟨j, p, h1, h2⟩)
  ·exact .inl (.inl z)
  ·by_cases hj : j = i
   ·subst hj
    cases at_set h1
    exact .inl (.inr rfl)
   ·rw [ne_set hj] at h1 h2
    exact .inr ⟨j, p, h1, h2⟩
 have hs : i < σ.length := by rw [R.len]; exact hi
 refine ⟨by simpa using R.len, fun j y e => ?_, fun j p e => ?_, fun j k p p' b e1 e2 e3 e4 => ?_, fun b z => R.tr b (.inl z), R.tb⟩
 ·have hj : j ≠ i := fun z => by subst z; cases at_set e
  rw [ne_set hj] at e ⊢
  obtain ⟨w, h1, h2⟩ := R.va j y e
  exact ⟨w, h1, h2.mono m⟩
 ·by_cases hj : j = i
  ·subst hj
   cases at_set e
   exact ⟨a, by rw [List.getElem?_set_self hs], h.mono m, nf⟩
  ·rw [ne_set hj] at e ⊢
   obtain ⟨b, h1, h2, h3⟩ := R.ow j p e
   exact ⟨b, h1, h2.mono m, fun z => h3 (.inl z)⟩
 ·by_cases hj : j = i
  ·by_cases hk : k = i
   ·exact hj.trans hk.symm
   ·exfalso
    subst hj
    cases at_set e3
    rw [ne_set hk] at e2 e4
    obtain ⟨b, h1, h2, h3⟩ := R.ow k _ e2
    rw [e4] at h1; cases h1
    exact h3 (.inr rfl)
  ·by_cases hk : k = i
   ·exfalso
    subst hk
    cases at_set e4
    rw [ne_set hj] at e1 e3
    obtain ⟨b, h1, h2, h3⟩ := R.ow j _ e1
    rw [e3] at h1; cases h1
    exact h3 (.inr rfl)
   ·rw [ne_set hj] at e1 e3
    rw [ne_set hk] at e2 e4
    exact R.nd j k _ _ b e1 e2 e3 e4
theorem Ext.seto {σ0 : St} {η0 : EP'} {H0 : Hp} (e : Ext σ0 η0 σ η H0 H) (hn : Nw H0 a) (h0 : (0 : Nat) ≠ i) : Ext σ0 η0 (σ.set i (some (.ref a))) (η.set i (.ow o)) H0 H := by
 refine ⟨e.keep, e.live, fun b z => ?_, fun p q => ?_⟩
 rotate_left
 ·rw [ne_set h0] at q ⊢
  exact e.fst p q
 obtain ⟨j, p, h1, h2⟩ := z
 by_cases hj : j = i
 ·subst hj
  cases at_set h1
  exact .inr hn
 ·rw [ne_set hj] at h1 h2
  exact e.new b ⟨j, p, h1, h2⟩
end
section
variable {X : Cx} {T : List (Addr × Str)} {e o : Expr} {es : List Expr} {te ta tb : TEp} {t : TAp} {tf : TFp} {pos : Pos}
def tValP (tf : TFp) : TEp := fun η P => tf η fun xs η1 => P (.lst xs) η1
theorem z_val (h : PE X e (upF X.K T tf)) : PE X e (up X.K T (tValP tf)) := by
 refine PE.weak h fun σ H Q q => ?_
 obtain ⟨F, η, P, R, h, k⟩ := q
 refine ⟨F, η, _, R, h, fun xs η' a vs H' h1 e1 R1 hn nf hv r => ?_⟩
 refine k _ _ _ _ h1 e1 (R1.shrink fun b z => .inl z) ?_
 unfold Rep
 refine ⟨a, vs, rfl, fun z => ?_, hv, r.mono fun b z => z.elim (fun z => .inl (.inl z)) .inr⟩
 rcases z with z | ⟨j, p, h1, h2⟩
 ·exact nf z
 ·obtain ⟨b, q1, q2, q3⟩ := R1.ow j p h2
  rw [h1] at q1; cases q1
  exact q3 (.inr rfl)
def tLstFP (t : TAp) : TFp := fun η P => t η fun xs η1 => xs.length ≤ sizeLine ∧ P xs η1
theorem zf_lst (h : PA X es (upA X.K T t)) : PE X (.List es pos) (upF X.K T (tLstFP t)) := by
 refine PE.weak (pe_lst h) fun σ H Q q => ?_
 obtain ⟨F, η, P, R, h, k⟩ := q
 refine ⟨F, η, _, R, h, fun xs η1 vs H1 h1 e1 R1 r1' => ⟨by rw [r1'.len]; exact h1.1, fun p hp => ?_⟩⟩
 have hn : Nw H p := e1.nw (Nw.of hp)
 exact k xs η1 p vs _ h1.2 (e1.trans (.same (Same.new hp))) (R1.add hp nofun) hn (fun z => R.tr p z hn) upd_same (r1'.car (car_add hp))
def tSetFP (i : Nat) (tf : TFp) : TSp := fun D η => (0 : Nat) ≠ i ∧ tf η fun xs η1 => i < η1.length ∧ D.nx (η1.set i (.ow (.l xs)))
theorem z_setF {i : Nat} {x : Str} {pos' : Pos} (hN : X.N.Nodup) (hi : X.N[i]? = some x) (hx : Loc X.env.scope x) (he : PE X e (upF X.K T tf)) (hs : swapsWith e (some (.Name x pos')) pos.line X.env = pure false := by rfl) (hf : X.fn x = true ∨ X.env.scope.names.lookup x = some .local := by first | exact .inl rfl | exact .inr rfl | assumption) :
  PS X (.Assign [.Name x pos'] e pos) (upS X.K T (tSetFP i tf)) := by
 refine PS.weak (ps_set hN hi hx he hs hf) fun D σ H q => ?_
 obtain ⟨F, η, D', R, ⟨hi, h⟩, k1, k2, k3, k4⟩ := q
 refine ⟨F, η, _, R, h, fun xs η1 a vs H1 h1 e1 R1 hn nf hv r => ?_⟩
 exact k1 _ _ _ h1.2 (e1.seto hn hi) (R1.seto nf ⟨vs, hv, r⟩ h1.1)
def tAppP (i : Nat) (te : TEp) : TSp := fun D η => (∃ xs, η[i]? = some (Sl.ow (.l xs))) ∧ te η fun x η1 => match η1[i]? with
 | some (.ow (.l xs)) => xs.length < sizeLine ∧ D.nx (η1.set i (.ow (.l (xs ++ [x]))))
 | _ => False
theorem z_app {i : Nat} {K0 : PySem.W.Frag} (hK : X.K = K0) (pf : PS X (.Expr o pos) (tDrop (tBM K0 "list" rAppend (tVar i) (tCons (up K0 T te) tNil)))) : PS X (.Expr o pos) (upS K0 T (tAppP i te)) := by
 subst hK
 refine PS.weak pf fun D σ H q => ?_
 obtain ⟨F, η, D', R, ⟨⟨oo, ho⟩, h⟩, k1, k2, k3, k4⟩ := q
 obtain ⟨b, hw, q0, _⟩ := R.ow i _ ho
 refine ⟨_, hw, ?_, F, η, _, R, h, fun y η1 u H1 h1 e1 R1 r1 => ?_⟩
 ·obtain ⟨vs, q1, q2⟩ := q0; exact .inl ⟨rfl, vs, SqL.of q1⟩
 ·split at h1
  ·rename_i xs e
   obtain ⟨a, s, ⟨vs, q1, q2⟩, nf⟩ := R1.ow i _ e
   rw [hw] at s; cases s
   refine ⟨b, vs, u, rfl, rfl, q1, by rw [q2.len]; exact h1.1, ?_⟩
   obtain ⟨W, E⟩ := R1.write (o' := .l (xs ++ [y])) (u := .lst (vs ++ [u])) e hw q1 nofun nofun nofun fun c => ⟨_, upd_same, (q2.app (.cons r1 .nil)).car c⟩
   exact k1 _ _ _ h1.2 (e1.trans E) W
  ·cases h1
end
section
variable {X : Cx} {T : List (Addr × Str)} {a b e o : Expr} {es : List Expr} {te ta tb : TEp} {t : TAp} {tf : TFp} {pos : Pos}
def strRep (x : Str) (n : Nat) : Str := ⟨((List.replicate n x.cps.toList).flatten).toArray⟩
theorem fold_app (c : Array Nat) : ∀ (n : Nat) (acc : Array Nat), (List.replicate n c).foldl (· ++ ·) acc = acc ++ ((List.replicate n c.toList).flatten).toArray
 | 0, acc => by simp
 | n + 1, acc => by
  rw [List.replicate_succ, List.foldl_cons, fold_app c n, List.replicate_succ, List.flatten_cons]
  apply Array.toList_inj.mp
  simp
theorem strRep_len (x : Str) (n : Nat) : (strRep x n).length = n * x.length := by
 show ((List.replicate n x.cps.toList).flatten).toArray.size = _
 rw [List.size_toArray, PyProof.Rows.lm_len_rep_flat]
 simp [Str.length]
def rMulS : R2p := fun x y P => match x, y with
 | .str z, .int n => 1 ≤ n ∧ n ≤ 1000 ∧ z.length ≤ 1000 ∧ P (.str (strRep z n.toNat))
 | _, _ => False
theorem zo_mulS : OpR X (binaryOp .Mult) (r2 X.K rMulS) := by
 intro pins s σ H x y v u Q I rx ry h
 obtain ⟨O, px, py, P, tr, hx, hy, h, k⟩ := h
 unfold rMulS at h
 split at h
 ·rename_i z n
  obtain ⟨h1, h2, h3, h⟩ := h
  cases hx.str_
  cases hy.int_
  obtain ⟨t, rfl⟩ := rx
  obtain ⟨t', rfl⟩ := ry
  have hn : ¬ n < 1 := by omega
  have hz : z.length * n.toNat ≤ 1000000 := by
   have := Nat.mul_le_mul h3 (show n.toNat ≤ 1000 by omega)
   omega
  refine PySem.P.mul_str (by rw [decide_eq_false (by omega), decide_eq_false (by omega)]; rfl) (fun _ _ => ?_) (fun _ _ => ?_) ?_
  ·have q : (1000 : Int) ≤ (2 ^ 63 - 1) / n := by
    apply Int.le_ediv_of_mul_le (by omega)
    omega
   omega
  ·exact decide_eq_false (by rw [sizeLine_eq]; omega)
  ·rw [if_neg hn]
   split
   ·rename_i hc
    have e : strRep z n.toNat = z := by
     rw [Bool.or_eq_true] at hc
     rcases hc with hc | hc
     ·have : n = 1 := by simpa using hc
      subst this
      show (⟨((List.replicate 1 z.cps.toList).flatten).toArray⟩ : Str) = z
      simp
     ·have h0 : z.length = 0 := by simpa using hc
      have : z.cps = #[] := by simpa [Str.length] using h0
      show (⟨((List.replicate _ z.cps.toList).flatten).toArray⟩ : Str) = z
      obtain ⟨c⟩ := z
      simp at this
      subst this
      simp
    exact ⟨.str z, H, I, ⟨_, rfl⟩, k.str (by rw [e] at h; exact h)⟩
   ·have e : (⟨(List.replicate n.toNat z.cps).foldl (· ++ ·) #[]⟩ : Str) = strRep z n.toNat := by
     unfold strRep
     rw [fold_app]
     simp
    rw [e]
    refine ⟨?_, .str _, H, I.tok _, ⟨_, rfl⟩, k.str h⟩
    rw [strRep_len, sizeLine_eq, Nat.mul_comm]; omega
 ·cases h
def rIxP : R2p := fun x y P => match x, y with
 | .lst xs, .int i => ∃ v, atI xs i = some v ∧ P v
 | .tup xs, .int i => ∃ v, atI xs i = some v ∧ P v
 | .scr ns, .int i => ∃ v, atI ns i = some v ∧ P (.int v)
 | .str z, .int i => z.length ≤ sizeLine ∧ ∃ c, atI z.cps.toList i = some c ∧ P (.str ⟨#[c]⟩)
 | _, _ => False
theorem atI_reps {K : PySem.W.Frag} {O H} {xs : List PV} {vs : List V} {i : Int} {x : PV} (h : Reps K O H xs vs) (e : atI xs i = some x) : ∃ v, atI vs i = some v ∧ Rep K O H x v := by
 unfold atI at e ⊢
 rw [h.len]
 cases q : ixN xs.length i with
 | none => rw [q] at e; cases e
 | some j =>
  rw [q] at e
  obtain ⟨v, h1, h2⟩ := h.get (i := j) (x := x) e
  exact ⟨v, h1, h2⟩
theorem IxR.weak {r r' : R2} (h : IxR X r) (w : ∀ x y H Q, r' x y H Q → r x y H Q) : IxR X r' := fun value slice pins s σ H x y v u Q I rx ry q hs => h value slice pins s σ H x y v u Q I rx ry (w _ _ _ _ q) hs
theorem zx_ix : IxR X (r2 X.K rIxP) := by
 refine IxR.weak (ix_seq (X := X)) fun x y H Q h => ?_
 obtain ⟨O, px, py, P, tr, hx, hy, h, k⟩ := h
 unfold rIxP at h
 split at h
 ·obtain ⟨w, e, h⟩ := h
  obtain ⟨a, vs, rfl, n, q, rr⟩ := hx.lst_
  obtain ⟨v, e1, r1⟩ := atI_reps rr e
  exact .inl ⟨a, vs, _, v, rfl, hy.int_, SqL.of q, e1, k _ _ _ h (Same.refl _) r1⟩
 ·obtain ⟨w, e, h⟩ := h
  obtain ⟨a, vs, rfl, q, rr⟩ := hx.tup_
  obtain ⟨v, e1, r1⟩ := atI_reps rr e
  exact .inr (.inl ⟨a, vs, _, v, rfl, hy.int_, q.sq, e1, k _ _ _ h (Same.refl _) r1⟩)
 ·obtain ⟨w, e, h⟩ := h
  obtain ⟨a, o, rfl, n, q⟩ := hx.scr_
  refine .inl ⟨a, _, _, .int w, rfl, hy.int_, .inl (.inr ⟨o, q⟩), ?_, k.int h⟩
  unfold atI at e ⊢
  rw [List.length_map]
  cases q : ixN _ _ with
  | none => rw [q] at e; cases e
  | some j =>
   rw [q] at e
   show (List.map V.int _)[j]? = _
   rw [List.getElem?_map, show _[j]? = some w from e]; rfl
 ·obtain ⟨hz, c, e, h⟩ := h
  cases hx.str_
  exact .inr (.inr ⟨_, _, c, rfl, hy.int_, hz, e, k.str h⟩)
 ·cases h
theorem z_ix (ha : PE X a (up X.K T ta)) (hb : PE X b (up X.K T tb)) (hs : PlainIx b := by exact fun _ _ => rfl) : PE X (.Subscript a b pos) (up X.K T (tOpP rIxP ta tb)) := by
 refine PE.weak (pe_ix zx_ix ha hb hs) fun σ H Q q => ?_
 obtain ⟨F, η, P, R, h, k⟩ := q
 refine ⟨F, η, _, R, h, fun x η1 v H1 h1 e1 R1 r1' => ⟨F, η1, _, R1, h1, fun y η2 w H2 h2 e2 R2' rw' => ?_⟩⟩
 exact ⟨Oof F σ η2, x, y, _, R2'.trO, r1'.car e2.car, rw', h2, fun z u H3 pz s rz => k z η2 u H3 pz ((e1.trans e2).trans (.same s)) (R2'.same s) rz⟩
def tIxOP (i : Nat) (ti : TEp) : TEp := fun η P => (∃ o, η[i]? = some (Sl.ow o)) ∧ ti η fun k η1 => match η1[i]? with
 | some (.ow (.l xs)) => ∃ kk v, k = .int kk ∧ atI xs kk = some v ∧ P v η1
 | _ => False
theorem z_ixO {i : Nat} (ho : PE X o (tVar i)) (hb : PE X b (up X.K T tb)) (hs : PlainIx b := by exact fun _ _ => rfl) : PE X (.Subscript o b pos) (up X.K T (tIxOP i tb)) := by
 refine PE.weak (pe_ix ix_list ho hb hs) fun σ H Q q => ?_
 obtain ⟨F, η, P, R, ⟨⟨oo, ho⟩, h⟩, k⟩ := q
 obtain ⟨b, hw, q0, _⟩ := R.ow i _ ho
 refine ⟨_, hw, F, η, _, R, h, fun y η1 u H1 h1 e1 R1 r1 => ?_⟩
 split at h1
 ·rename_i xs e
  obtain ⟨kk, v, rfl, hv, h1⟩ := h1
  obtain ⟨a, s, ⟨vs, q1, q2⟩, nf⟩ := R1.ow i _ e
  rw [hw] at s; cases s
  obtain ⟨w, e1', r1'⟩ := atI_reps q2 hv
  exact ⟨b, vs, kk, w, rfl, r1.int_, SqL.of q1, e1', k _ _ _ _ h1 e1 R1 r1'⟩
 ·cases h1
abbrev TOp := EP' → (Option Int → EP' → Prop) → Prop
def upO (K : PySem.W.Frag) (T : List (Addr × Str)) (tp : TOp) : TO := fun σ H Q => ∃ F η P, Rs K T F σ η H ∧ tp η P ∧ ∀ x η' H', P x η' → Ext σ η σ η' H H' → Rs K T F σ η' H' → Q x H'
def tNoPartP : TOp := fun η P => P none η
def tPartP (t : TEp) : TOp := fun η P => t η fun x η1 => match x with
 | .int i => P (some i) η1
 | _ => False
theorem PO.weak {e : Option Expr} {t t' : TO} (h : PO X e t) (w : ∀ σ H Q, t' σ H Q → t σ H Q) : PO X e t' := ⟨fun pins s σ H Q I q => h.run pins s σ H Q I (w _ _ _ q)⟩
theorem zp_none : PO X none (upO X.K T tNoPartP) := PO.weak po_none fun σ H Q q => by
 obtain ⟨F, η, P, R, h, k⟩ := q
 exact k _ _ _ h .refl R
theorem zp_some (h : PE X e (up X.K T te)) : PO X (some e) (upO X.K T (tPartP te)) := PO.weak (po_some h) fun σ H Q q => by
 obtain ⟨F, η, P, R, h, k⟩ := q
 refine ⟨F, η, _, R, h, fun x η1 v H1 h1 e1 R1 r => ?_⟩
 split at h1
 ·exact ⟨_, r.int_, k _ _ _ h1 e1 R1⟩
 ·cases h1
def cutP {α : Type} (xs : List α) (lo hi : Option Int) : List α := (xs.drop (HT.sIx xs.length 0 lo)).take (HT.sIx xs.length xs.length hi - HT.sIx xs.length 0 lo)
theorem cut_reps {K : PySem.W.Frag} {O H} {xs : List PV} {vs : List V} {lo hi} (h : Reps K O H xs vs) : Reps K O H (cutP xs lo hi) (cutV vs lo hi) := by
 unfold cutP cutV
 rw [h.len]
 exact (h.drop _).take _
def rSlP : PV → Option Int → Option Int → (PV → Prop) → Prop := fun x lo hi P => match x with
 | .lst xs => P (.lst (cutP xs lo hi))
 | .scr ns => P (.lst ((cutP ns lo hi).map .int))
 | .str z => z.length ≤ sizeLine ∧ P (.str (cutS z lo hi))
 | .tup xs => ¬ (HT.sIx xs.length 0 lo = 0 ∧ HT.sIx xs.length xs.length hi = xs.length) ∧ P (.tup (cutP xs lo hi))
 | _ => False
theorem SlR.weak {r r' : V → Option Int → Option Int → Hp → VK → Prop} (h : SlR X r) (w : ∀ x lo hi H Q, r' x lo hi H Q → r x lo hi H Q) : SlR X r' := fun pins s σ H x v vl vu lo hi sl Q I rx hs pl pu q => h pins s σ H x v vl vu lo hi sl Q I rx hs pl pu (w _ _ _ _ _ q)
theorem ints_reps {K : PySem.W.Frag} {O H} : ∀ ns : List Int, Reps K O H (ns.map .int) (ns.map V.int)
 | [] => .nil
 | _ :: r => .cons rep_int (ints_reps r)
theorem cut_ints (ns : List Int) (lo hi) : cutV (ns.map V.int) lo hi = (cutP ns lo hi).map V.int := by
 unfold cutP cutV
 rw [List.length_map, ← List.map_drop, ← List.map_take]
theorem zl_sl : SlR X (fun x lo hi H Q => ∃ O px P, Trk O H ∧ Rep X.K O H px x ∧ rSlP px lo hi P ∧ Out X.K O H P Q) := by
 refine SlR.weak ((sl_list (X := X)).or (sl_str.or sl_tup)) fun x lo hi H Q h => ?_
 obtain ⟨O, px, P, tr, hx, h, k⟩ := h
 unfold rSlP at h
 split at h
 ·obtain ⟨a, vs, rfl, n, q, rr⟩ := hx.lst_
  exact .inl ⟨a, vs, rfl, SqL.of q, fun p hp => k.newL h tr (cut_reps rr) hp⟩
 ·obtain ⟨a, o, rfl, n, q⟩ := hx.scr_
  refine .inl ⟨a, _, rfl, .inl (.inr ⟨o, q⟩), fun p hp => ?_⟩
  rw [cut_ints]
  exact k.newL h tr (ints_reps _) hp
 ·cases hx.str_
  exact .inr (.inl ⟨_, rfl, h.1, k.str h.2⟩)
 ·obtain ⟨a, vs, rfl, q, rr⟩ := hx.tup_
  exact .inr (.inr ⟨a, vs, rfl, q.sq, by rw [rr.len]; exact h.1, fun p hp => k.newT h.2 tr (cut_reps rr) hp⟩)
 ·cases h
def tSliceP (te : TEp) (tl th : TOp) : TEp := fun η P => te η fun x η1 => tl η1 fun l η2 => th η2 fun u η3 => rSlP x l u fun z => P z η3
theorem z_slice {lo hi : Option Expr} {tl th : TOp} {p2 : Pos} (he : PE X e (up X.K T te)) (hl : PO X lo (upO X.K T tl)) (hu : PO X hi (upO X.K T th)) : PE X (.Subscript e (.Slice lo hi none p2) pos) (up X.K T (tSliceP te tl th)) := by
 refine PE.weak (pe_slice zl_sl he hl hu) fun σ H Q q => ?_
 obtain ⟨F, η, P, R, h, k⟩ := q
 refine ⟨F, η, _, R, h, fun x η1 v H1 h1 e1 R1 r1' => ⟨F, η1, _, R1, h1, fun l η2 H2 h2 e2 R2' => ⟨F, η2, _, R2', h2, fun u η3 H3 h3 e3 R3 => ?_⟩⟩⟩
 exact ⟨Oof F σ η3, x, _, R3.trO, (r1'.car e2.car).car e3.car, h3, fun z u H4 pz s rz => k z η3 u H4 pz (((e1.trans e2).trans e3).trans (.same s)) (R3.same s) rz⟩
def strsOf : List PV → Option (List Str)
 | [] => some []
 | .str b :: r => (strsOf r).map (b :: ·)
 | _ => none
theorem strsOf_rep {K : PySem.W.Frag} {O H} : ∀ {xs : List PV} {bs : List Str} {vs : List V}, strsOf xs = some bs → Reps K O H xs vs → vs = bs.map V.str
 | [], _, _, e, h => by unfold strsOf at e; cases e; exact h.inv0
 | x :: xs, _, _, e, h => by
  obtain ⟨v, us, rfl, r, t⟩ := h.inv
  cases x <;> unfold strsOf at e <;> try (cases e)
  cases q : strsOf xs with
  | none => rw [q] at e; cases e
  | some r' =>
   rw [q] at e; cases e
   rw [r.str_, strsOf_rep q t]; rfl
def tJoinP (ta tb : TEp) : TEp := fun η P => ta η fun x η1 => (∃ z, x = .str z) ∧ tb η1 fun y η2 => match x, y with
 | .str z, .lst xs => ∃ ys, strsOf xs = some ys ∧ (ys.map (·.length)).sum + ys.length * z.length ≤ 16777216 ∧ P (.str (Txt.join z ys)) η2
 | _, _ => False
theorem z_join {K0 : PySem.W.Frag} (hK : X.K = K0)
  (pf : PE X e (tM1 (fun x xs H Q => ∃ a p, ∃ ys : List Str, x = .str a ∧ xs = [.ref p] ∧ (SqL K0 H p (ys.map V.str) ∨ SqT K0 H p (ys.map V.str)) ∧ (ys.map (·.length)).sum + ys.length * a.length ≤ 16777216 ∧ Q (.str (Txt.join a ys)) H) (up K0 T ta) (up K0 T tb))) : PE X e (up K0 T (tJoinP ta tb)) := by
 subst hK
 refine PE.weak pf fun σ H Q q => ?_
 obtain ⟨F, η, P, R, h, k⟩ := q
 refine ⟨F, η, _, R, h, fun x η1 v H1 h1 e1 R1 r1' => ?_⟩
 obtain ⟨⟨z, rfl⟩, h1⟩ := h1
 cases r1'.str_
 refine ⟨⟨z, rfl⟩, F, η1, _, R1, h1, fun y η2 w H2 h2 e2 R2' rw' => ?_⟩
 split at h2
 ·rename_i z' xs q
  cases q
  obtain ⟨ys, e, hz, h2⟩ := h2
  obtain ⟨p, vs, rfl, n, q, rr⟩ := rw'.lst_
  have := strsOf_rep e rr
  subst this
  exact ⟨_, p, ys, rfl, rfl, .inl (SqL.of q), hz, k _ _ _ _ h2 (e1.trans e2) R2' rep_str⟩
 ·cases h2
end
def Itr8 (K : PySem.W.Frag) (O : Addr → Prop) (J : It) (xs : List PV) (H : Hp) : Prop :=
 ∀ O' H', Trk O' H' → Car O O' H H' → (∀ b, ¬ Nw H b → ¬ Nw H' b) → ∀ i : Nat, (∀ x, xs[i]? = some x → J.go i H' ∧ ∀ v H'', J.yld i H' v H'' → Same H' H'' ∧ Rep K O' H'' x v) ∧ (xs.length = i → J.stop i H')
abbrev TIp := EP' → (List PV → EP' → Prop) → Prop
def upI (K : PySem.W.Frag) (T : List (Addr × Str)) (tp : TIp) : TI := fun σ H R => ∃ F η P, Rs K T F σ η H ∧ tp η P ∧ ∀ xs η' J H', P xs η' → Ext σ η σ η' H H' → Rs K T F σ η' H' → Itr8 K (Oof F σ η') J xs H' → R J H'
section
variable {X : Cx} {T : List (Addr × Str)} {a b e o tg : Expr} {es : List Expr} {te ta tb : TEp} {t : TAp} {tf : TFp} {pos : Pos}
theorem PI.weak {t t' : TI} (h : PI X tg e t) (w : ∀ σ H Q, t' σ H Q → t σ H Q) : PI X tg e t' := ⟨fun pins s σ H Q I q => h.run pins s σ H Q I (w _ _ _ q)⟩
def iListP (te : TEp) : TIp := fun η P => te η fun x η1 => match x with
 | .lst xs => P xs η1
 | .scr ns => P (ns.map .int) η1
 | _ => False
def iTupP (te : TEp) : TIp := fun η P => te η fun x η1 => match x with
 | .tup xs => P xs η1
 | _ => False
def iStrP (te : TEp) : TIp := fun η P => te η fun x η1 => match x with
 | .str z => P (z.cps.toList.map fun c => .str ⟨#[c]⟩) η1
 | _ => False
def rangeP (lo : Int) (n : Nat) : List PV := (List.range n).map fun (i : Nat) => .int (lo + i)
def iRng1P (te : TEp) : TIp := fun η P => te η fun x η1 => match x with
 | .int j => -(2 ^ 62) ≤ j ∧ j < 2 ^ 62 ∧ P (rangeP 0 j.toNat) η1
 | _ => False
theorem it_list {K : PySem.W.Frag} {O H} {a : Addr} {xs : List PV} {vs : List V} (n : ¬ O a) (h : H a = some (.lst vs)) (r : Reps K O H xs vs) : Itr8 K O (Itl K a) xs H := fun O' H' tr c _ i => by
 have h' := (c a _ n h nofun).1
 have r' := r.car c
 have uniq : ∀ ys, SqL K H' a ys → ys = vs ∨ True := fun _ _ => .inr trivial
 refine ⟨fun x e => ?_, fun e => ⟨vs, SqL.of h', by rw [r'.len]; exact Nat.le_of_eq e⟩⟩
 obtain ⟨v, e1, r1⟩ := r'.get e
 refine ⟨⟨vs, v, SqL.of h', e1⟩, fun w H'' y => ?_⟩
 obtain ⟨e2, y⟩ := y
 subst e2
 have := y vs (SqL.of h')
 rw [e1] at this; cases this
 exact ⟨Same.refl _, r1⟩
theorem zi_list (h : PE X e (up X.K T te)) : PI X tg e (upI X.K T (iListP te)) := by
 refine PI.weak (pi_list h) fun σ H Q q => ?_
 obtain ⟨F, η, P, R, h, k⟩ := q
 refine ⟨F, η, _, R, h, fun x η1 v H1 h1 e1 R1 r1 => ?_⟩
 split at h1
 ·obtain ⟨a, vs, rfl, n, q, rr⟩ := r1.lst_
  exact ⟨a, rfl, ⟨vs, SqL.of q⟩, k _ _ _ _ h1 e1 R1 (it_list n q rr)⟩
 ·rename_i ns
  obtain ⟨a, o, rfl, n, q⟩ := r1.scr_
  refine ⟨a, rfl, ⟨_, .inl (.inr ⟨o, q⟩)⟩, k _ _ _ _ h1 e1 R1 fun O' H' tr c _ i => ?_⟩
  have h' : SqL X.K H' a (ns.map V.int) := .inl (.inr ⟨o, (c a _ n q nofun).1⟩)
  refine ⟨fun x e => ?_, fun e => ⟨_, h', by simp at e ⊢; omega⟩⟩
  have e' : (ns.map V.int)[i]? = (ns[i]?).map V.int := List.getElem?_map
  rw [List.getElem?_map] at e
  cases q : ns[i]? with
  | none => rw [q] at e; cases e
  | some j =>
   rw [q] at e e'; cases e
   refine ⟨⟨_, _, h', e'⟩, fun w H'' y => ?_⟩
   obtain ⟨e2, y⟩ := y
   subst e2
   have := y _ h'
   rw [e'] at this; cases this
   exact ⟨Same.refl _, rep_int⟩
 ·cases h1
theorem TupAt.inj_car {K : PySem.W.Frag} {O O' H H'} {a : Addr} {vs : List V} (t : TupAt K O H a vs) (c : Car O O' H H') : SqT K H' a vs := (t.car c).sq
theorem zi_tup (h : PE X e (up X.K T te)) : PI X tg e (upI X.K T (iTupP te)) := by
 refine PI.weak (pi_tup h) fun σ H Q q => ?_
 obtain ⟨F, η, P, R, h, k⟩ := q
 refine ⟨F, η, _, R, h, fun x η1 v H1 h1 e1 R1 r1 => ?_⟩
 split at h1
 ·obtain ⟨a, vs, rfl, q, rr⟩ := r1.tup_
  refine ⟨a, rfl, ⟨vs, q.sq⟩, k _ _ _ _ h1 e1 R1 fun O' H' tr c _ i => ?_⟩
  have h' := q.inj_car c
  have r' := rr.car c
  refine ⟨fun x e => ?_, fun e => ⟨vs, h', by rw [r'.len]; exact Nat.le_of_eq e⟩⟩
  obtain ⟨v, e1, r1⟩ := r'.get e
  refine ⟨⟨vs, v, h', e1⟩, fun w H'' y => ?_⟩
  obtain ⟨e2, y⟩ := y
  subst e2
  have := y vs h'
  rw [e1] at this; cases this
  exact ⟨Same.refl _, r1⟩
 ·cases h1
theorem zi_str (h : PE X e (up X.K T te)) : PI X tg e (upI X.K T (iStrP te)) := by
 refine PI.weak (pi_str h) fun σ H Q q => ?_
 obtain ⟨F, η, P, R, h, k⟩ := q
 refine ⟨F, η, _, R, h, fun x η1 v H1 h1 e1 R1 r1 => ?_⟩
 split at h1
 ·rename_i z
  cases r1.str_
  refine ⟨z, rfl, k _ _ _ _ h1 e1 R1 fun O' H' tr c _ i => ⟨fun x e => ?_, fun e => ?_⟩⟩
  ·rw [List.getElem?_map] at e
   cases q : z.cps.toList[i]? with
   | none => rw [q] at e; cases e
   | some c0 =>
    rw [q] at e; cases e
    have q' : z.cps[i]? = some c0 := by rw [← Array.getElem?_toList]; exact q
    refine ⟨(Array.getElem?_eq_some_iff.mp q').1, fun w H'' y => ?_⟩
    obtain ⟨e2, c1, e3, rfl⟩ := y
    subst e2
    rw [q'] at e3; cases e3
    exact ⟨Same.refl _, rep_str⟩
  ·show z.cps.size ≤ i
   simp at e; omega
 ·cases h1
theorem it_range {K : PySem.W.Frag} {O H} {lo : Int} {n : Nat} : Itr8 K O (Itr lo n) (rangeP lo n) H := fun O' H' tr c _ i => by
 refine ⟨fun x e => ?_, fun e => ?_⟩
 ·unfold rangeP at e
  rw [List.getElem?_map] at e
  by_cases hi : i < n
  ·rw [List.getElem?_range hi] at e
   cases e
   refine ⟨hi, fun w H'' y => ?_⟩
   obtain ⟨e2, rfl⟩ := y
   subst e2
   exact ⟨Same.refl _, rep_int⟩
  ·rw [List.getElem?_eq_none (by simpa using hi)] at e; cases e
 ·show n ≤ i
  simp [rangeP] at e; omega
theorem zi_range1 {p : Pos} (hg : Gl X "range") (hm : X.mg "range" = none) (ha : PE X a (up X.K T te)) (hs : starEach [a] X.env = [(false, eval a X.env)] := by rfl) : PI X tg (.Call (.Name "range" p) [a] [] pos) (upI X.K T (iRng1P te)) := by
 refine PI.weak (pi_range1 hg hm (pa_cons ha pa_nil hs) hs) fun σ H Q q => ?_
 obtain ⟨F, η, P, R, h, k⟩ := q
 refine ⟨F, η, _, R, h, fun x η1 v H1 h1 e1 R1 r1 => ?_⟩
 split at h1
 ·exact ⟨_, by rw [r1.int_], h1.1, h1.2.1, k _ _ _ _ h1.2.2 e1 R1 it_range⟩
 ·cases h1
def iRng2P (te tb : TEp) : TIp := fun η P => te η fun x η1 => tb η1 fun y η2 => match x, y with
 | .int i, .int j => -(2 ^ 62) ≤ i ∧ i < 2 ^ 62 ∧ -(2 ^ 62) ≤ j ∧ j < 2 ^ 62 ∧ P (rangeP i (j - i).toNat) η2
 | _, _ => False
theorem zi_range2 {p : Pos} (hg : Gl X "range") (hm : X.mg "range" = none) (ha : PE X a (up X.K T ta)) (hb : PE X b (up X.K T tb)) (hs : starEach [a, b] X.env = [(false, eval a X.env), (false, eval b X.env)] := by rfl) (hs2 : starEach [b] X.env = [(false, eval b X.env)] := by rfl)
  (pf : PI X tg (.Call (.Name "range" p) [a, b] [] pos) (iRng2 (tCons (up X.K T ta) (tCons (up X.K T tb) tNil)))) : PI X tg (.Call (.Name "range" p) [a, b] [] pos) (upI X.K T (iRng2P ta tb)) := by
 refine PI.weak pf fun σ H Q q => ?_
 obtain ⟨F, η, P, R, h, k⟩ := q
 refine ⟨F, η, _, R, h, fun x η1 v H1 h1 e1 R1 r1 => ⟨F, η1, _, R1, h1, fun y η2 w H2 h2 e2 R2' r2 => ?_⟩⟩
 split at h2
 ·exact ⟨_, _, by rw [(r1.car e2.car).int_, r2.int_], ⟨h2.1, h2.2.1, h2.2.2.1, h2.2.2.2.1⟩, k _ _ _ _ h2.2.2.2.2 (e1.trans e2) R2' it_range⟩
 ·cases h2
def tForP (ti : TIp) (g : TGp) (tb : TSp) : TSp := fun D η => ti η fun xs η1 => ∃ Inv : Nat → EP' → Prop, Inv 0 η1 ∧
 (∀ i x η2, xs[i]? = some x → Inv i η2 → g x η2 fun η3 => tb { D with nx := Inv (i + 1), ct := Inv (i + 1), bk := D.nx } η3) ∧ (∀ η2, Inv xs.length η2 → D.nx η2)
theorem z_for {iter : Expr} {body : List Stmt} {ti : TIp} {g : TGp} {tb : TSp} (hp : PassesOwn (model X.prog X.w) X.A X.env X.xe) (hc : X.calm = true) (hi : PI X tg iter (upI X.K T ti)) (hg : PG X tg (upG X.K T g)) (hb : PSs X body (upS X.K T tb))
  (hs : ∀ x, foldedSetIterable iter X.env x = pure x := by intro _; rfl) : PS X (.For tg iter body [] pos) (upS X.K T (tForP ti g tb)) := by
 refine PS.weak (ps_for hp hc hi hg hb hs) fun D σ H q => ?_
 obtain ⟨F, η, D', R, h, k1, k2, k3, k4⟩ := q
 refine ⟨F, η, _, R, h, fun xs η1 J H1 h1 e1 R1 hJ => ?_⟩
 obtain ⟨Inv, i0, step, fin⟩ := h1
 refine ⟨fun i m σ2 H2 => m = xs.length - i ∧ i ≤ xs.length ∧ ∃ η2, Inv i η2 ∧ Rs X.K T F σ2 η2 H2 ∧ Ext σ η1 σ2 η2 H1 H2, ⟨_, rfl, Nat.zero_le _, η1, i0, R1, .refl⟩, ?_⟩
 rintro i m σ2 H2 ⟨rfl, hi, η2, p, R2, e2⟩
 have it := hJ (Oof F σ2 η2) H2 R2.trO e2.car e2.live i
 by_cases hlt : i < xs.length
 ·refine .inr ⟨(it.1 xs[i] (by simp [hlt])).1, fun σ3 H3 => ∃ η3, Inv (i + 1) η3 ∧ Rs X.K T F σ3 η3 H3 ∧ Ext σ η1 σ3 η3 H1 H3, fun σ' H' ⟨η3, p', R', e'⟩ => ⟨xs.length - (i + 1), by omega, rfl, hlt, η3, p', R', e'⟩, fun v H3 y => ?_⟩
  obtain ⟨s, rep⟩ := (it.1 xs[i] (by simp [hlt])).2 v H3 y
  refine ⟨F, η2, _, _, R2.same s, rep, step i _ η2 (by simp [hlt]) p, fun η4 σ4 H4 h4 e4 R4 => ?_⟩
  have E := (e2.trans (.same s)).trans e4
  exact ⟨F, η4, _, R4, h4, fun η5 σ5 H5 h5 e5 R5 => ⟨η5, h5, R5, E.trans e5⟩, fun η5 σ5 H5 h5 e5 R5 => k1 _ _ _ h5 ((e1.trans E).trans e5) R5, fun η5 σ5 H5 h5 e5 R5 => ⟨η5, h5, R5, E.trans e5⟩, fun x η5 σ5 v H5 h5 e5 R5 r5 => k4 _ _ _ _ _ h5 ((e1.trans E).trans e5) R5 r5⟩
 ·have e : i = xs.length := by omega
  subst e
  exact .inl ⟨it.2 rfl, k1 _ _ _ (fin η2 p) (e1.trans e2) R2⟩
end
def wipeP (η : EP') : List Nat → EP'
 | [] => η
 | v :: vs => (wipeP η vs).set v .no
theorem wipeP_len (η : EP') : ∀ vs : List Nat, (wipeP η vs).length = η.length
 | [] => rfl
 | v :: vs => by unfold wipeP; rw [List.length_set, wipeP_len η vs]
theorem wipeP_out {η : EP'} {i : Nat} : ∀ {vs : List Nat}, i ∉ vs → (wipeP η vs)[i]? = η[i]?
 | [], _ => rfl
 | v :: vs, h => by
  unfold wipeP
  rw [List.getElem?_set_ne (fun e => h (by simp [e])), wipeP_out fun z => h (by simp [z])]
theorem wipeP_in {η : EP'} {i : Nat} {y : Sl} : ∀ {vs : List Nat}, i ∈ vs → (wipeP η vs)[i]? = some y → y = .no
 | v :: vs, h, e => by
  unfold wipeP at e
  by_cases q : i = v
  ·subst q; exact at_set e
  ·rw [ne_set q] at e
   exact wipeP_in (by simpa [q] using h) e
theorem wipe_in {σ : St} {i : Nat} : ∀ {vs : List Nat}, i ∈ vs → (wipe σ vs)[i]? = if i < σ.length then some none else none
 | v :: vs, h => by
  unfold wipe
  by_cases q : i = v
  ·subst q
   by_cases hi : i < σ.length
   ·rw [if_pos hi, List.getElem?_set_self (by rw [wipe_length]; exact hi)]
   ·rw [if_neg hi, List.getElem?_eq_none (by rw [List.length_set, wipe_length]; omega)]
  ·rw [ne_set q]
   exact wipe_in (by simpa [q] using h)
theorem wipe_set {σ : St} {i : Nat} {v : Option V} {vs : List Nat} (h : i ∈ vs) : wipe (σ.set i v) vs = wipe σ vs := by
 apply List.ext_getElem?
 intro j
 by_cases hj : j ∈ vs
 ·rw [wipe_in hj, wipe_in hj, List.length_set]
 ·rw [wipe_out hj, wipe_out hj, ne_set fun e => hj (by rw [e]; exact h)]
theorem wipe_set_all {σ : St} {vs : List Nat} : L2.wipe (L2.wipe σ vs) vs = L2.wipe σ vs := by
 apply List.ext_getElem?
 intro j
 by_cases hj : j ∈ vs
 ·rw [wipe_in hj, wipe_in hj, wipe_length]
 ·rw [wipe_out hj]
theorem wipe_agree {σ σ' : St} {vs : List Nat} (h : wipe σ' vs = wipe σ vs) : σ'.length = σ.length ∧ ∀ j, j ∉ vs → σ'[j]? = σ[j]? := by
 refine ⟨by rw [← wipe_length σ' vs, h, wipe_length], fun j hj => ?_⟩
 rw [← wipe_out (σ := σ') hj, h, wipe_out hj]
section
variable {K : PySem.W.Frag} {T : List (Addr × Str)} {F : Addr → Prop} {σ σ' : St} {η : EP'} {H H' : Hp} {vs : List Nat}
theorem own_wipe (ag : ∀ j, j ∉ vs → σ'[j]? = σ[j]?) {b : Addr} (z : IsOwn σ' (wipeP η vs) b) : IsOwn σ η b := by
 obtain ⟨j, p, h1, h2⟩ := z
 by_cases hj : j ∈ vs
 ·cases wipeP_in hj h2
 ·rw [wipeP_out hj] at h2
  rw [ag j hj] at h1
  exact ⟨j, p, h1, h2⟩
theorem Rs.wipe (R : Rs K T F σ η H) (hl : σ'.length = σ.length) (ag : ∀ j, j ∉ vs → σ'[j]? = σ[j]?) : Rs K T F σ' (wipeP η vs) H := by
 have m : ∀ b, Oof F σ' (wipeP η vs) b → Oof F σ η b := Oof_mono fun b z => own_wipe ag z
 refine ⟨by rw [hl, R.len, wipeP_len], fun j y e => ?_, fun j o e => ?_, fun j k o o' a e1 e2 e3 e4 => ?_, R.tr, R.tb⟩
 ·have hj : j ∉ vs := fun z => nomatch wipeP_in z e
  rw [wipeP_out hj] at e
  obtain ⟨w, h1, h2⟩ := R.va j y e
  exact ⟨w, (ag j hj).trans h1, h2.mono m⟩
 ·have hj : j ∉ vs := fun z => nomatch wipeP_in z e
  rw [wipeP_out hj] at e
  obtain ⟨a, h1, h2, h3⟩ := R.ow j o e
  exact ⟨a, (ag j hj).trans h1, h2.mono m, h3⟩
 ·have hj : j ∉ vs := fun z => nomatch wipeP_in z e1
  have hk : k ∉ vs := fun z => nomatch wipeP_in z e2
  rw [wipeP_out hj] at e1
  rw [wipeP_out hk] at e2
  rw [ag j hj] at e3
  rw [ag k hk] at e4
  exact R.nd j k o o' a e1 e2 e3 e4
theorem Ext.wipe (ag : ∀ j, j ∉ vs → σ'[j]? = σ[j]?) : Ext σ η σ' (wipeP η vs) H H := ⟨fun _ _ e _ _ => e, fun _ e => e, fun b z => .inl (own_wipe ag z), fun o e => by
 have hj : 0 ∉ vs := fun z => nomatch wipeP_in z e
 rw [wipeP_out hj] at e
 exact ⟨o, e, ag 0 hj⟩⟩
theorem Rs.updF {D : Addr} {us ws : List V} (R : Rs K T F σ η H) (hF : F D) (h : H D = some (.lst us)) : Rs K T F σ η (upd H D (.lst ws)) := by
 have c : Car (Oof F σ η) (Oof F σ η) H (upd H D (.lst ws)) := fun b q n hb _ => ⟨by rw [upd_ne (fun z => n (.inl (by rw [z]; exact hF)))]; exact hb, n⟩
 refine ⟨R.len, fun i x e => ?_, fun i o e => ?_, R.nd, fun b hb => ?_, Tabs.upd R.tb h nofun nofun⟩
 ·obtain ⟨v, h1, h2⟩ := R.va i x e
  exact ⟨v, h1, h2.car c⟩
 ·obtain ⟨a, h1, h2, h3⟩ := R.ow i o e
  exact ⟨a, h1, h2.car c (upd_ne fun z => h3 (by rw [z]; exact hF)), h3⟩
 ·exact live_upd nofun (R.tr b hb)
end
section
variable {X : Cx} {T : List (Addr × Str)} {a b e o tg elt iter : Expr} {es ifs : List Expr} {te ta tb : TEp} {t : TAp} {tf : TFp} {pos : Pos}
def upGw (K : PySem.W.Frag) (T : List (Addr × Str)) (vs : List Nat) (g : TGp) : TG := fun v σ H Q => ∃ F η x P, Rs K T F σ η H ∧ Rep K (Oof F σ η) H x v ∧ g x η P ∧ ∀ η' σ' H', P η' → L2.wipe σ' vs = L2.wipe σ vs → Ext σ η σ' η' H H' → Rs K T F σ' η' H' → Q σ' H'
def upGsw (K : PySem.W.Frag) (T : List (Addr × Str)) (vs : List Nat) (g : TGsp) : TGs := fun us σ H Q => ∃ F η xs P, Rs K T F σ η H ∧ Reps K (Oof F σ η) H xs us ∧ g xs η P ∧ ∀ η' σ' H', P η' → L2.wipe σ' vs = L2.wipe σ vs → Ext σ η σ' η' H H' → Rs K T F σ' η' H' → Q σ' H'
theorem zgw_name {vs : List Nat} {i : Nat} (hv : i ∈ vs) (pf : PG X tg (gName i)) : PG X tg (upGw X.K T vs (gNameP i)) := by
 refine PG.weak pf fun v σ H Q q => ?_
 obtain ⟨F, η, x, P, R, r, h, k⟩ := q
 exact k _ _ _ h (wipe_set hv) .setv (R.setv r)
theorem zgsw_nil {vs : List Nat} : PGs X [] (upGsw X.K T vs gNilP) := by
 refine PGs.weak pgs_nil fun v σ H Q q => ?_
 obtain ⟨F, η, x, P, R, r, h, k⟩ := q
 rw [h.1] at r
 exact ⟨r.inv0, k _ _ _ h.2 rfl .refl R⟩
theorem zgsw_cons {vs : List Nat} {t : TGp} {u : TGsp} (pf : PGs X (e :: es) (gCons (upGw X.K T vs t) (upGsw X.K T vs u))) : PGs X (e :: es) (upGsw X.K T vs (gConsP t u)) := by
 refine PGs.weak pf fun v σ H Q q => ?_
 obtain ⟨F, η, x, P, R, r, h, k⟩ := q
 unfold gConsP at h
 split at h
 ·obtain ⟨v, us, rfl, r1, r2⟩ := r.inv
  refine ⟨v, us, rfl, F, η, _, _, R, r1, h, fun η' σ' H' h' w1 e1 R1 => ⟨F, η', _, P, R1, r2.car e1.car, h', fun η'' σ'' H'' h'' w2 e2 R2 => k _ _ _ h'' (w2.trans w1) (e1.trans e2) R2⟩⟩
 ·cases h
theorem zgw_tup {vs : List Nat} {k n : Nat} {t : TGsp} (pf : PG X (.Tuple es k pos) (gTup X.K n (upGsw X.K T vs t))) : PG X (.Tuple es k pos) (upGw X.K T vs (gTupP n t)) := by
 refine PG.weak pf fun v σ H Q q => ?_
 obtain ⟨F, η, x, P, R, r, h, k⟩ := q
 unfold gTupP at h
 split at h
 ·obtain ⟨a, vs, rfl, t, r⟩ := r.tup_
  exact ⟨a, vs, rfl, t.sq, by rw [r.len]; exact h.1, F, η, _, P, R, r, h.2, k⟩
 ·cases h
def tYesP : TTp := fun η P => P true η
theorem PTs.weak {t t' : TT} (h : PTs X ifs t) (w : ∀ σ H Q, t' σ H Q → t σ H Q) : PTs X ifs t' := ⟨fun pins s σ H Q I q => h.run pins s σ H Q I (w _ _ _ q)⟩
theorem zts_nil : PTs X [] (upB X.K T tYesP) := PTs.weak pts_nil fun σ H Q q => by
 obtain ⟨F, η, P, R, h, k⟩ := q
 exact k _ _ _ h .refl R
theorem zts_one {c : Expr} {t : TTp} (h : PT X c (upB X.K T t)) : PTs X [c] (upB X.K T t) := pts_one h
def tLcP (ti : TIp) (g : TGp) (tt : TTp) (te : TEp) (vs : List Nat) : TFp := fun η P => ti η fun xs η1 => ∃ Inv : Nat → List PV → EP' → Prop, Inv 0 [] (wipeP η1 vs) ∧
 (∀ i x acc η2, xs[i]? = some x → Inv i acc η2 → g x (wipeP η2 vs) fun η3 => tt η3 fun b η4 => if b = true then te η4 fun y η5 => acc.length < sizeLine ∧ Inv (i + 1) (acc ++ [y]) (wipeP η5 vs) else Inv (i + 1) acc (wipeP η4 vs)) ∧
 (∀ acc η2, Inv xs.length acc η2 → P acc η2)
theorem lc_weak {K : PySem.W.Frag} {ti : TIp} {g : TGp} {tt : TTp} {te : TEp} {vs : List Nat} {σ : St} {H : Hp} {Q : VK} (q : upF K T (tLcP ti g tt te vs) σ H Q) : tLc (upI K T ti) (upGw K T vs g) (upB K T tt) (up K T te) vs σ H Q := by
 obtain ⟨F, η, P, R, h, k⟩ := q
 refine ⟨F, η, _, R, h, fun xs η1 J H1 h1 e1 R1 hJ D hD => ?_⟩
 obtain ⟨Inv, i0, step, fin⟩ := h1
 have hn : Nw H D := e1.nw (Nw.of hD)
 have nF : ¬ F D := fun z => R.tr D z hn
 have agw : ∀ j, j ∉ vs → (L2.wipe σ vs)[j]? = σ[j]? := fun j hj => wipe_out hj
 refine ⟨fun i m H2 => m = xs.length - i ∧ i ≤ xs.length ∧ ∃ acc us η2, Inv i acc η2 ∧ Rs K T (With F D) σ η2 H2 ∧ Ext σ η1 σ η2 H1 H2 ∧ H2 D = some (.lst us) ∧ Reps K (Oof (With F D) σ η2) H2 acc us, ⟨_, rfl, Nat.zero_le _, [], [], wipeP η1 vs, i0, (R1.add (o := .lst []) hD nofun).wipe rfl (fun _ _ => rfl), ?_, upd_same, .nil⟩, ?_⟩
 ·exact (Ext.same (Same.new hD)).trans (.wipe fun _ _ => rfl)
 rintro i m H2 ⟨rfl, hi, acc, us, η2, p, R2, e2, hd, ru⟩
 have Rb : Rs K T (With F D) (L2.wipe σ vs) (wipeP η2 vs) H2 := R2.wipe (wipe_length _ _) agw
 have eb : Ext σ η1 (L2.wipe σ vs) (wipeP η2 vs) H1 H2 := e2.trans (.wipe agw)
 have carD : Car (Oof F σ η1) (Oof (With F D) (L2.wipe σ vs) (wipeP η2 vs)) H1 H2 := fun b o n hb t => by
  refine ⟨((eb.car (F := F)) b o n hb t).1, fun z => ?_⟩
  rcases z with (z | z) | z
  ·exact n (.inl z)
  ·rw [z, hD] at hb; cases hb
  ·exact ((eb.car (F := F)) b o n hb t).2 (.inr z)
 have it := hJ _ H2 Rb.trO carD e2.live i
 by_cases hlt : i < xs.length
 ·refine .inr ⟨(it.1 xs[i] (by simp [hlt])).1, fun H3 => ∃ acc us η3, Inv (i + 1) acc η3 ∧ Rs K T (With F D) σ η3 H3 ∧ Ext σ η1 σ η3 H1 H3 ∧ H3 D = some (.lst us) ∧ Reps K (Oof (With F D) σ η3) H3 acc us,
   fun H' ⟨acc, us, η3, q1, q2, q3, q4, q5⟩ => ⟨xs.length - (i + 1), by omega, rfl, hlt, acc, us, η3, q1, q2, q3, q4, q5⟩, fun v H3 y => ?_⟩
  obtain ⟨s, rep⟩ := (it.1 xs[i] (by simp [hlt])).2 v H3 y
  refine ⟨With F D, wipeP η2 vs, _, _, Rb.same s, rep, step i _ acc η2 (by simp [hlt]) p, fun η4 σ4 H4 h4 w4 e4 R4 => ⟨by rw [w4]; exact wipe_set_all, With F D, η4, _, R4, h4, fun c η5 H5 h5 e5 R5 => ?_⟩⟩
  have E5 : Ext σ η1 σ4 η5 H1 H5 := ((eb.trans (.same s)).trans e4).trans e5
  have ag4 : ∀ j, j ∉ vs → σ[j]? = σ4[j]? := fun j hj => ((wipe_agree (w4.trans wipe_set_all)).2 j hj).symm
  have ln4 : σ.length = σ4.length := ((wipe_agree (w4.trans wipe_set_all)).1).symm
  cases c with
  | true =>
   simp only [if_true] at h5 ⊢
   refine ⟨With F D, η5, _, R5, h5, fun y η6 w H6 h6 e6 R6 r6 => ?_⟩
   have E6 := E5.trans e6
   have e36 : Ext (L2.wipe σ vs) (wipeP η2 vs) σ4 η6 H2 H6 := (((Ext.same s).trans e4).trans e5).trans e6
   have dk : H6 D = some (.lst us) := e36.keep D _ hd (fun z => by
    obtain ⟨j, p, z1, z2⟩ := z
    obtain ⟨a, q1, q2, q3⟩ := Rb.ow j p z2
    rw [z1] at q1; cases q1
    exact q3 (.inr rfl)) nofun
   have ru6 : Reps K (Oof (With F D) σ4 η6) H6 acc us := (ru.car ((Ext.wipe agw).car (F := With F D))).car (e36.car (F := With F D))
   refine ⟨us, dk, by rw [ru.len]; exact h6.1, acc ++ [y], us ++ [w], wipeP η6 vs, h6.2, (R6.updF (.inr rfl) dk).wipe ln4 ag4, ?_, upd_same, ?_⟩
   ·refine Ext.trans ⟨fun b o hb nb t => ?_, fun b hb => ?_, E6.new, E6.fst⟩ (Ext.wipe ag4)
    ·rw [upd_ne (fun z => by rw [z, hD] at hb; cases hb)]; exact E6.keep b o hb nb t
    ·exact live_upd nofun (E6.live b hb)
   ·have c7 : Car (Oof (With F D) σ4 η6) (Oof (With F D) σ4 η6) H6 (upd H6 D (.lst (us ++ [w]))) := fun b o n hb _ => ⟨by rw [upd_ne (fun z => n (.inl (.inr z)))]; exact hb, n⟩
    exact ((ru6.app (.cons r6 .nil)).car c7).car ((Ext.wipe (H := upd H6 D (.lst (us ++ [w]))) ag4).car (F := With F D))
  | false =>
   simp only [Bool.false_eq_true, if_false] at h5 ⊢
   have e35 : Ext (L2.wipe σ vs) (wipeP η2 vs) σ4 η5 H2 H5 := ((Ext.same s).trans e4).trans e5
   have dk : H5 D = some (.lst us) := e35.keep D _ hd (fun z => by
    obtain ⟨j, p, z1, z2⟩ := z
    obtain ⟨a, q1, q2, q3⟩ := Rb.ow j p z2
    rw [z1] at q1; cases q1
    exact q3 (.inr rfl)) nofun
   exact ⟨acc, us, wipeP η5 vs, h5, R5.wipe ln4 ag4, E5.trans (.wipe ag4), dk, ((ru.car ((Ext.wipe agw).car (F := With F D))).car (e35.car (F := With F D))).car ((Ext.wipe ag4).car (F := With F D))⟩
 ·have e : i = xs.length := by omega
  subst e
  exact .inl ⟨it.2 rfl, k acc η2 D us H2 (fin acc η2 p) (e1.trans e2) R2 hn nF hd ru⟩
theorem zf_lc {scope : Scope} {own : List (Str × Nat)} {ti : TIp} {g : TGp} {tt : TTp}
  (pf : PE X (.ListComp elt [⟨tg, iter, ifs, 0⟩] scope pos) (tLc (upI X.K T ti) (upGw X.K T (own.map (·.2)) g) (upB X.K T tt) (up X.K T te) (own.map (·.2)))) : PE X (.ListComp elt [⟨tg, iter, ifs, 0⟩] scope pos) (upF X.K T (tLcP ti g tt te (own.map (·.2)))) :=
 PE.weak pf fun σ H Q q => lc_weak q
end
abbrev SpP := List PV → (PV → Prop) → Prop
abbrev SpR := Ow → List PV → (PV → Ow → Prop) → Prop
def upSp (K : PySem.W.Frag) (T : List (Addr × Str)) (sp : SpP) : Sp := fun vs H Q _ => ∃ F args P, Trk F H ∧ LamX.Tabs T H ∧ Reps K F H args vs ∧ sp args P ∧ ∀ x v H', P x → Gr H H' → LamX.Tabs T H' → Rep K F H' x v → Q v H'
structure GrB (a : Addr) (H H' : Hp) : Prop where
 keep : ∀ b o, b ≠ a → H b = some o → (∀ ps, o ≠ .tbl ps) → H' b = some o
 live : ∀ b, ¬ Nw H b → ¬ Nw H' b
def upSpR (K : PySem.W.Frag) (T : List (Addr × Str)) (sp : SpR) : Sp := fun vs H Q _ => ∃ F a ws o args P, vs = .ref a :: ws ∧ ¬ F a ∧ Trk F H ∧ LamX.Tabs T H ∧ OwAt K (With F a) H a o ∧ Reps K (With F a) H args ws ∧ sp o args P ∧
 ∀ x o' v H', P x o' → GrB a H H' → LamX.Tabs T H' → OwAt K (With F a) H' a o' → Rep K (With F a) H' x v → Q v H'
def startP (n : Nat) (args : List PV) : EP' := args.map Sl.va ++ List.replicate (n - args.length) .no
section
variable {K : PySem.W.Frag} {T : List (Addr × Str)} {F : Addr → Prop} {H H' : Hp}
theorem start_of {N : List Str} {vs : List V} {i : Nat} {v : V} (h : vs[i]? = some v) : (start N vs)[i]? = some (some v) := by
 have hi : i < vs.length := (List.getElem?_eq_some_iff.mp h).1
 unfold L2.start
 rw [List.getElem?_append_left (by simpa using hi), List.getElem?_map, h]; rfl
theorem startP_va {n : Nat} {args : List PV} {i : Nat} {s : Sl} (h : (startP n args)[i]? = some s) : (∃ x, s = .va x ∧ args[i]? = some x) ∨ s = .no := by
 unfold startP at h
 by_cases hi : i < args.length
 ·rw [List.getElem?_append_left (by simpa using hi), List.getElem?_map] at h
  cases q : args[i]? with
  | none => rw [q] at h; cases h
  | some w => rw [q] at h; cases h; exact .inl ⟨w, rfl, rfl⟩
 ·rw [List.getElem?_append_right (by simpa using hi), List.getElem?_replicate] at h
  split at h
  ·cases h; exact .inr rfl
  ·cases h
theorem startP_noown {n : Nat} {args : List PV} {σ : St} {a : Addr} : ¬ IsOwn σ (startP n args) a := by
 rintro ⟨i, o, h1, h2⟩
 rcases startP_va h2 with ⟨x, e, _⟩ | e <;> cases e
theorem rs_start {N : List Str} {args : List PV} {vs : List V} (tr : Trk F H) (tb : LamX.Tabs T H) (r : Reps K F H args vs) (hl : args.length ≤ N.length) : Rs K T F (start N vs) (startP N.length args) H := by
 have m : ∀ b, Oof F (start N vs) (startP N.length args) b → F b := fun b z => z.elim id fun z => absurd z startP_noown
 refine ⟨?_, fun i x e => ?_, fun i o e => ?_, fun i j o o' a e => ?_, tr, tb⟩
 ·unfold L2.start startP
  simp [r.len]
 ·rcases startP_va e with ⟨y, q, hy⟩ | q
  ·cases q
   obtain ⟨v, h1, h2⟩ := r.get hy
   exact ⟨v, start_of h1, h2.mono m⟩
  ·cases q
 ·rcases startP_va e with ⟨y, q, _⟩ | q <;> cases q
 ·rcases startP_va e with ⟨y, q, _⟩ | q <;> cases q
def startR (n : Nat) (o : Ow) (args : List PV) : EP' := .ow o :: startP (n - 1) args
theorem rs_startR {x : Str} {N : List Str} {a : Addr} {o : Ow} {args : List PV} {ws : List V} (nf : ¬ F a) (tr : Trk F H) (tb : LamX.Tabs T H) (ho : OwAt K (With F a) H a o) (r : Reps K (With F a) H args ws) (hl : args.length ≤ N.length) :
  Rs K T F (start (x :: N) (.ref a :: ws)) (startR (N.length + 1) o args) H ∧ ∀ b, IsOwn (start (x :: N) (.ref a :: ws)) (startR (N.length + 1) o args) b → b = a := by
 have e0 : start (x :: N) (.ref a :: ws) = some (.ref a) :: start N ws := by
  unfold L2.start
  simp
 have e1 : startR (N.length + 1) o args = .ow o :: startP N.length args := by
  unfold startR
  simp
 rw [e0, e1]
 have own : ∀ b, IsOwn (some (V.ref a) :: start N ws) (Sl.ow o :: startP N.length args) b → b = a := by
  rintro b ⟨i, p, h1, h2⟩
  cases i with
  | zero => simp at h1; exact h1.symm
  | succ i =>
   simp at h2
   rcases startP_va h2 with ⟨y, q, _⟩ | q <;> cases q
 have m : ∀ b, Oof F (some (V.ref a) :: start N ws) (Sl.ow o :: startP N.length args) b → With F a b := fun b z => z.elim .inl fun z => .inr (own b z)
 refine ⟨⟨?_, fun i y e => ?_, fun i p e => ?_, fun i j p p' b e1 e2 e3 e4 => ?_, tr, tb⟩, own⟩
 ·unfold L2.start startP
  simp [r.len]
 ·cases i with
  | zero => simp at e
  | succ i =>
   simp at e
   rcases startP_va e with ⟨z, q, hy⟩ | q
   ·cases q
    obtain ⟨v, h1, h2⟩ := r.get hy
    exact ⟨v, by simpa using start_of h1, h2.mono m⟩
   ·cases q
 ·cases i with
  | zero =>
   simp at e
   subst e
   exact ⟨a, rfl, ho.mono m, nf⟩
  | succ i =>
   simp at e
   rcases startP_va e with ⟨z, q, hy⟩ | q <;> cases q
 ·have z : ∀ {i p}, (Sl.ow o :: startP N.length args)[i]? = some (Sl.ow p) → i = 0 := fun {i p} e => by
   cases i with
   | zero => rfl
   | succ i =>
    simp at e
    rcases startP_va e with ⟨z, q, hy⟩ | q <;> cases q
  rw [z e1, z e2]
theorem body_sp {N : List Str} {sp : SpP} {ts : TSp} {vs : List V} {Q : VK} {E : XK} (h : upSp K T sp vs H Q E) (hl : ∀ args P, sp args P → args.length ≤ N.length) (rd : ∀ args P, sp args P → ts { nx := fun _ => P .non, rt := fun x _ => P x } (startP N.length args)) :
  upS K T ts { nx := fun _ H' => Q .non H', rt := Q } (start N vs) H := by
 obtain ⟨F, args, P, tr, tb, r, hs, k⟩ := h
 have R := rs_start (N := N) tr tb r (hl _ _ hs)
 have gr : ∀ {σ' η' H'}, Ext (start N vs) (startP N.length args) σ' η' H H' → Gr H H' := fun e => ⟨fun b o h t => e.keep b o h startP_noown t, e.live⟩
 refine ⟨F, _, _, R, rd args P hs, fun η' σ' H' q e R' => ?_, fun _ _ _ q => q.elim, fun _ _ _ q => q.elim, fun x η' σ' v H' q e R' r' => ?_⟩
 ·exact k _ _ _ q (gr e) R'.tb rep_non
 ·exact k _ _ _ q (gr e) R'.tb (r'.mono fun b z => .inl z)
theorem body_spR {nm : Str} {N : List Str} {sp : SpR} {ts : TSp} {vs : List V} {Q : VK} {E : XK} (h : upSpR K T sp vs H Q E) (hl : ∀ o args P, sp o args P → args.length ≤ N.length)
  (rd : ∀ o args P, sp o args P → ts { nx := fun η' => ∃ o', η'[0]? = some (Sl.ow o') ∧ P .non o', rt := fun x η' => ∃ o', η'[0]? = some (Sl.ow o') ∧ P x o' } (startR (N.length + 1) o args)) :
  upS K T ts { nx := fun _ H' => Q .non H', rt := Q } (start (nm :: N) vs) H := by
 obtain ⟨F, a, ws, o, args, P, rfl, nf, tr, tb, ho, r, hs, k⟩ := h
 obtain ⟨R, own⟩ := rs_startR (x := nm) (N := N) nf tr tb ho r (hl _ _ _ hs)
 have fin : ∀ {η' σ' H' x v}, (∃ o', η'[0]? = some (Sl.ow o') ∧ P x o') → Ext (start (nm :: N) (.ref a :: ws)) (startR (N.length + 1) o args) σ' η' H H' → Rs K T F σ' η' H' → Rep K (Oof F σ' η') H' x v → Q v H' := by
  intro η' σ' H' x v q e R' r'
  obtain ⟨o', e0, p⟩ := q
  obtain ⟨p1, q1, q2⟩ := e.fst o' e0
  obtain ⟨b, s1, s2, s3⟩ := R'.ow 0 o' e0
  have hb : b = a := by
   rw [q2] at s1
   have : (start (nm :: N) (V.ref a :: ws))[0]? = some (some (V.ref a)) := by unfold L2.start; simp
   rw [this] at s1; cases s1; rfl
  subst hb
  have m : ∀ c, With F b c → Oof F σ' η' c := fun c z => z.elim .inl fun z => .inr (by rw [z]; exact ⟨0, o', s1, e0⟩)
  exact k x o' v H' p ⟨fun c u n h t => e.keep c u h (fun z => n (own c z)) t, e.live⟩ R'.tb (s2.mono m) (r'.mono m)
 exact ⟨F, _, _, R, rd o args P hs, fun η' σ' H' q e R' => fin q e R' rep_non, fun _ _ _ q => q.elim, fun _ _ _ q => q.elim, fun x η' σ' v H' q e R' r' => fin q e R' r'⟩
end
section
variable {P : Program} {w : World} {K : PySem.W.Frag} {mg : Str → Option Value} {base : Heap} {T : List (Addr × Str)}
theorem len_sp {ps : List Str} {sp : SpP} (hl : ∀ args P, sp args P → args.length = ps.length) : ∀ vs H Q E, upSp K T sp vs H Q E → vs.length = ps.length := fun vs H Q E h => by
 obtain ⟨F, args, P, _, _, r, hs, _⟩ := h
 rw [r.len, hl _ _ hs]
theorem len_spR {p : Str} {ps : List Str} {sp : SpR} (hl : ∀ o args P, sp o args P → args.length = ps.length) : ∀ vs H Q E, upSpR K T sp vs H Q E → vs.length = (p :: ps).length := fun vs H Q E h => by
 obtain ⟨F, a, ws, o, args, P, rfl, _, _, _, _, r, hs, _⟩ := h
 rw [List.length_cons, List.length_cons, r.len, hl _ _ _ hs]
theorem okP {x qual : Str} {st : Stmt} {f : Addr} {fd : FuncData} {N ps : List Str} {k : Nat} {sp : SpP} (Fn : Fun K x qual st f fd) (S : FnScope N ps (defScope st)) (hl : ∀ args P, sp args P → args.length = ps.length) (hn : ps.length ≤ N.length)
  (hbody : ∀ (cdv : Value) (A : Around) (outer : List Env) (s : Shared) (H : Hp) (E : XK), Room k (A.deeper (envOfC qual (defScope st) s.heap.objs.size f cdv)) →
   ∃ ts, PSs (cxOf CX0 P w K mg base N qual (defScope st) f cdv A outer s H E).nox (defBody st) (upS K T ts) ∧ ∀ args P, sp args P → ts { nx := fun _ => P .non, rt := fun x _ => P x } (startP N.length args)) :
  FnOk P w K mg base CX0 (k + 1) f fd ps (upSp K T sp) := by
 refine Fn.ok S (len_sp hl) fun cdv A outer s H vs Q E hr h => ?_
 obtain ⟨ts, d, rd⟩ := hbody cdv A outer s H E hr
 exact ⟨_, d, body_sp h (fun args P hs => by rw [hl _ _ hs]; exact hn) rd⟩
theorem okR {x qual : Str} {st : Stmt} {f : Addr} {fd : FuncData} {nm : Str} {N ps : List Str} {k : Nat} {sp : SpR} (Fn : Fun K x qual st f fd) (S : FnScope (nm :: N) (nm :: ps) (defScope st)) (hl : ∀ o args P, sp o args P → args.length = ps.length) (hn : ps.length ≤ N.length)
  (hbody : ∀ (cdv : Value) (A : Around) (outer : List Env) (s : Shared) (H : Hp) (E : XK), Room k (A.deeper (envOfC qual (defScope st) s.heap.objs.size f cdv)) →
   ∃ ts, PSs (cxOf CX0 P w K mg base (nm :: N) qual (defScope st) f cdv A outer s H E).nox (defBody st) (upS K T ts) ∧
    ∀ o args P, sp o args P → ts { nx := fun η' => ∃ o', η'[0]? = some (Sl.ow o') ∧ P .non o', rt := fun x η' => ∃ o', η'[0]? = some (Sl.ow o') ∧ P x o' } (startR (N.length + 1) o args)) :
  FnOk P w K mg base CX0 (k + 1) f fd (nm :: ps) (upSpR K T sp) := by
 refine Fn.ok S (len_spR hl) fun cdv A outer s H vs Q E hr h => ?_
 obtain ⟨ts, d, rd⟩ := hbody cdv A outer s H E hr
 exact ⟨_, d, body_spR h (fun o args P hs => by rw [hl _ _ _ hs]; exact hn) rd⟩
structure FnG (P : Program) (w : World) (K : PySem.W.Frag) (mg : Str → Option Value) (base : Heap) (k : Nat) (f : Addr) (fd : FuncData) (ps : List Str) (sp : Sp) : Prop where
 len : ∀ vs H Q E, sp vs H Q E → vs.length = ps.length
 run : ∀ (A : Around) (outer : List Env) (s : Shared) (H : Hp) (args : Args) (us : List Value) (vs : List V) (Q : VK) (E : XK), A.guards = some [] → Room k A → Env0 P w K mg base A outer s H → BindsTo s fd args (ps.zip us) → Vals vs us → sp vs H Q E →
  codeAny (model P w) A (.call (.ref f) args) (CR CX0 outer P w H s Q E) s
theorem okG0 {x qual : Str} {st : Stmt} {f : Addr} {fd : FuncData} {N ps : List Str} {k : Nat} {sp : Sp} (Fn : Fun K x qual st f fd) (S : FnScope N ps (defScope st)) (len : ∀ vs H Q E, sp vs H Q E → vs.length = ps.length)
  (hbody : ∀ (cdv : Value) (A : Around) (outer : List Env) (s : Shared) (H : Hp) (vs : List V) (Q : VK) (E : XK), A.guards = some [] → Room k (A.deeper (envOfC qual (defScope st) s.heap.objs.size f cdv)) → sp vs H Q E →
   ∃ t, PSs (cxOf CX0 P w K mg base N qual (defScope st) f cdv A outer s H E).nox (defBody st) t ∧ t { nx := fun _ H' => Q .non H', rt := Q } (L2.start N vs) H) : FnG P w K mg base (k + 1) f fd ps sp := by
 obtain ⟨oc, od, kV, doc, pm, an, cdv, ct, osl, rfl, lk, hcd⟩ := Fn.ex
 refine ⟨len, fun A outer s H args us vs Q E hg hr e0 hb rv hs => ?_⟩
 refine LamX.run_ofS lk hcd S hr e0 hb rv (len _ _ _ _ hs) fun hr' => ?_
 obtain ⟨t, d, q⟩ := hbody cdv A outer s H vs Q E hg hr' hs
 exact ⟨t, d.nox, q⟩
theorem okGP {x qual : Str} {st : Stmt} {f : Addr} {fd : FuncData} {N ps : List Str} {k : Nat} {sp : SpP} (Fn : Fun K x qual st f fd) (S : FnScope N ps (defScope st)) (hl : ∀ args P, sp args P → args.length = ps.length) (hn : ps.length ≤ N.length)
  (hbody : ∀ (cdv : Value) (A : Around) (outer : List Env) (s : Shared) (H : Hp) (E : XK), A.guards = some [] → Room k (A.deeper (envOfC qual (defScope st) s.heap.objs.size f cdv)) →
   ∃ ts, PSs (cxOf CX0 P w K mg base N qual (defScope st) f cdv A outer s H E).nox (defBody st) (upS K T ts) ∧ ∀ args P, sp args P → ts { nx := fun _ => P .non, rt := fun x _ => P x } (startP N.length args)) :
  FnG P w K mg base (k + 1) f fd ps (upSp K T sp) := by
 refine okG0 Fn S (len_sp hl) fun cdv A outer s H vs Q E hg hr h => ?_
 obtain ⟨ts, d, rd⟩ := hbody cdv A outer s H E hg hr
 exact ⟨_, d, body_sp h (fun args P hs => by rw [hl _ _ hs]; exact hn) rd⟩
theorem okGR {x qual : Str} {st : Stmt} {f : Addr} {fd : FuncData} {nm : Str} {N ps : List Str} {k : Nat} {sp : SpR} (Fn : Fun K x qual st f fd) (S : FnScope (nm :: N) (nm :: ps) (defScope st)) (hl : ∀ o args P, sp o args P → args.length = ps.length) (hn : ps.length ≤ N.length)
  (hbody : ∀ (cdv : Value) (A : Around) (outer : List Env) (s : Shared) (H : Hp) (E : XK), A.guards = some [] → Room k (A.deeper (envOfC qual (defScope st) s.heap.objs.size f cdv)) →
   ∃ ts, PSs (cxOf CX0 P w K mg base (nm :: N) qual (defScope st) f cdv A outer s H E).nox (defBody st) (upS K T ts) ∧
    ∀ o args P, sp o args P → ts { nx := fun η' => ∃ o', η'[0]? = some (Sl.ow o') ∧ P .non o', rt := fun x η' => ∃ o', η'[0]? = some (Sl.ow o') ∧ P x o' } (startR (N.length + 1) o args)) :
  FnG P w K mg base (k + 1) f fd (nm :: ps) (upSpR K T sp) := by
 refine okG0 Fn S (len_spR hl) fun cdv A outer s H vs Q E hg hr h => ?_
 obtain ⟨ts, d, rd⟩ := hbody cdv A outer s H E hg hr
 exact ⟨_, d, body_spR h (fun o args P hs => by rw [hl _ _ _ hs]; exact hn) rd⟩
theorem FnOk.g {k : Nat} {f : Addr} {fd : FuncData} {ps : List Str} {sp : Sp} (F : FnOk P w K mg base CX0 k f fd ps sp) : FnG P w K mg base k f fd ps sp := ⟨F.len, fun A outer s H args us vs Q E _ => F.run A outer s H args us vs Q E⟩
theorem FnG.mono {j k : Nat} {f : Addr} {fd : FuncData} {ps : List Str} {sp : Sp} (F : FnG P w K mg base j f fd ps sp) (h : j ≤ k) : FnG P w K mg base k f fd ps sp := ⟨F.len, fun A outer s H args us vs Q E hg hr => F.run A outer s H args us vs Q E hg (hr.mono h)⟩
end
section
variable {X : Cx} {T : List (Addr × Str)} {a b e o : Expr} {es : List Expr} {te ta tb : TEp} {t : TAp} {tf : TFp} {pos p apos : Pos} {k : Nat} {f C : Addr} {fd : FuncData} {ps : List Str} {sp : SpP} {sr : SpR} {x m : Str}
def tCallP (sp : SpP) (dps : List PV) (t : TAp) : TEp := fun η P => t η fun args η1 => sp (args ++ dps) fun z => P z η1
theorem call_up {K : PySem.W.Frag} {σ : St} {H : Hp} {Q : VK} {E : XK} {dps : List PV} {dvs : List V} (hd : ∀ O H, Reps K O H dps dvs) (q : up K T (tCallP sp dps t) σ H Q) : tCall (upSp K T sp) dvs E (upA K T t) σ H Q := by
 obtain ⟨F, η, P, R, h, k⟩ := q
 refine ⟨F, η, _, R, h, fun args η1 vs H1 h1 e1 R1 r1 => ?_⟩
 exact ⟨Oof F σ η1, _, _, R1.trO, R1.tb, r1.app (hd _ _), h1, fun z v H2 pz g tb rz => k z η1 v H2 pz (e1.trans g.ext) (R1.gr g tb) rz⟩
theorem z_call (Fn : FnOk X.prog X.w X.K X.mg X.base CX0 k f fd ps (upSp X.K T sp)) (hr : Room k X.A) (hg : Gl X x) (hm : X.mg x = some (.ref f)) (hk : PySem.W.keepIn X.K (.ref f) = true) {dvs : List V} {ds : List Value} {dps : List PV} (hb : Binds X.K fd ps ds) (hd : Vals dvs ds) (hp : ∀ O H, Reps X.K O H dps dvs)
  (ha : PA X (e :: es) (upA X.K T t)) (hdb : (x == ("__debug__" : Str)) = false := by decide) (he : starEach (e :: es) X.env = (false, eval e X.env) :: starEach es X.env := by rfl) (hpl : (backTo pos (starEach es X.env)).any (·.1) = false := by rfl) :
  PE X (.Call (.Name x p) (e :: es) [] pos) (up X.K T (tCallP sp dps t)) :=
 PE.weak (pe_call Fn hr hg hm hk hb hd pass0 ha hdb he hpl) fun σ H Q q => call_up hp q
theorem run_g {pins : List (Addr × Obj)} {σ : St} {H : Hp} {s : Shared} {Q : VK} {us : List Value} {vs dvs : List V} {ds : List Value} {S : Sp} (Fn : FnG X.prog X.w X.K X.mg X.base k f fd ps S) (hG : X.A.guards = some []) (hr : Room k X.A) (hb : Binds X.K fd ps ds) (hd : Vals dvs ds)
  (I : L2.Inv X pins σ H s) (r : Vals vs us) (h : S (vs ++ dvs) H Q E0) : wpAny (model X.prog X.w) X.A (call (.ref f) us) (EP X pins σ Q) X.xe s := by
 have rr := r.append hd
 refine wpAny_call (codeAny_mono (Fn.run X.A X.stack s H ⟨us, []⟩ (us ++ ds) (vs ++ dvs) Q E0 hG hr I.env0 (hb s us I.kIn (by rw [← rr.length]; exact Fn.len _ _ _ _ h)) rr h) fun res s' hq => ?_)
 cases res with
 | error er => exact False.elim hq
 | ok fl => cases fl with
  | ret u => exact I.after hq
  | _ => exact False.elim hq
theorem pe_callG {S : Sp} {tv : TA} {dvs : List V} {ds : List Value} (Fn : FnG X.prog X.w X.K X.mg X.base k f fd ps S) (hG : X.A.guards = some []) (hr : Room k X.A) (hg : Gl X x) (hm : X.mg x = some (.ref f)) (hk : PySem.W.keepIn X.K (.ref f) = true) (hb : Binds X.K fd ps ds) (hd : Vals dvs ds)
  (ha : PA X (e :: es) tv) (hdb : (x == ("__debug__" : Str)) = false := by decide) (he : starEach (e :: es) X.env = (false, eval e X.env) :: starEach es X.env := by rfl) (hpl : (backTo pos (starEach es X.env)).any (·.1) = false := by rfl) :
  PE X (.Call (.Name x p) (e :: es) [] pos) (tCall S dvs E0 tv) := by
 constructor
 intro pins s σ H Q I q
 apply wpAny_Call_Name_kw
 apply ld_glob I hg hm _ hdb
 apply PySem.W.callWith_K (h₀ := X.base) I.ok.mod.kin hk _ he hpl
 apply thn (ha.run pos pins s σ H _ I q)
 rintro us s1 ⟨vs, H1, I1, r, q1⟩
 exact ⟨I1.kIn, run_g Fn hG hr hb hd I1 r q1⟩
theorem z_callG (Fn : FnG X.prog X.w X.K X.mg X.base k f fd ps (upSp X.K T sp)) (hG : X.A.guards = some []) (hr : Room k X.A) (hg : Gl X x) (hm : X.mg x = some (.ref f)) (hk : PySem.W.keepIn X.K (.ref f) = true) {dvs : List V} {ds : List Value} {dps : List PV} (hb : Binds X.K fd ps ds) (hd : Vals dvs ds) (hp : ∀ O H, Reps X.K O H dps dvs)
  (ha : PA X (e :: es) (upA X.K T t)) (hdb : (x == ("__debug__" : Str)) = false := by decide) (he : starEach (e :: es) X.env = (false, eval e X.env) :: starEach es X.env := by rfl) (hpl : (backTo pos (starEach es X.env)).any (·.1) = false := by rfl) :
  PE X (.Call (.Name x p) (e :: es) [] pos) (up X.K T (tCallP sp dps t)) :=
 PE.weak (pe_callG Fn hG hr hg hm hk hb hd ha hdb he hpl) fun σ H Q q => call_up hp q
def tCallRP (i : Nat) (sr : SpR) (t : TAp) : TEp := fun η P => (∃ o, η[i]? = some (Sl.ow o)) ∧ t η fun args η1 => match η1[i]? with
 | some (.ow o) => sr o args fun z o' => P z (η1.set i (.ow o'))
 | _ => False
theorem callR_up {K : PySem.W.Frag} {σ : St} {H : Hp} {Q : VK} {E : XK} {i : Nat} (q : up K T (tCallRP i sr t) σ H Q) : tCall (upSpR K T sr) [] E (tCons (tVar i) (upA K T t)) σ H Q := by
 obtain ⟨F, η, P, R, ⟨⟨oo, ho⟩, h⟩, k⟩ := q
 obtain ⟨b, hw, _, _⟩ := R.ow i _ ho
 refine ⟨_, hw, F, η, _, R, h, fun args η1 vs H1 h1 e1 R1 r1 => ?_⟩
 split at h1
 ·rename_i o e
  obtain ⟨a, s, q0, nf⟩ := R1.ow i o e
  rw [hw] at s; cases s
  -- the other own ones and the foreign ones
  let F' : Addr → Prop := fun c => Oof F σ η1 c ∧ c ≠ b
  have m1 : ∀ c, With F' b c → Oof F σ η1 c := fun c z => z.elim (fun z => z.1) fun z => by rw [z]; exact .inr ⟨i, o, hw, e⟩
  have m2 : ∀ c, Oof F σ η1 c → With F' b c := fun c z => by
   by_cases q : c = b
   ·exact .inr q
   ·exact .inl ⟨z, q⟩
  refine ⟨F', b, vs, o, args, _, by simp, fun z => z.2 rfl, fun c z => R1.trO c z.1, R1.tb, q0.mono m1, r1.mono m1, h1, fun z o' v H2 pz g tb ho' rz => ?_⟩
  have c1 : Car (Oof F σ η1) (Oof F σ η1) H1 H2 := fun c u n hc t => ⟨g.keep c u (fun z => n (by rw [z]; exact .inr ⟨i, o, hw, e⟩)) hc t, n⟩
  have oth : ∀ c, c ≠ b → IsOwn σ η1 c → H2 c = H1 c := fun c n z => by
   obtain ⟨j, p, z1, z2⟩ := z
   obtain ⟨c', q1, q2, q3⟩ := R1.ow j p z2
   rw [z1] at q1; cases q1
   cases p with
   | l xs => obtain ⟨us, y, _⟩ := q2; rw [y]; exact g.keep _ _ n y nofun
   | o C fs => obtain ⟨dx, us, y, _⟩ := q2; rw [y]; exact g.keep _ _ n y nofun
   | d kvs => obtain ⟨us, y, _⟩ := q2; rw [y]; exact g.keep _ _ n y nofun
  have R2 := R1.put (o' := o') e hw c1 oth (fun c z => g.live c (R1.tr c z)) tb (ho'.mono m2)
  have E2 : Ext σ η1 σ (η1.set i (.ow o')) H1 H2 := by
   refine ⟨fun c u hc n t => g.keep c u (fun z => n (by rw [z]; exact ⟨i, o, hw, e⟩)) hc t, g.live, fun c z => .inl ((own_put e).mp z), fun p q => ?_⟩
   by_cases z : (0 : Nat) = i
   ·subst z; exact ⟨o, e, rfl⟩
   ·rw [ne_set z] at q; exact ⟨p, q, rfl⟩
  exact k _ _ _ _ pz (e1.trans E2) R2 (rz.mono fun c z => m2 c (Oof_mono (fun b' z => (own_put e).mp z) c z))
 ·cases h1
theorem z_callR {i : Nat} {e0 : Expr} (Fn : FnOk X.prog X.w X.K X.mg X.base CX0 k f fd ps (upSpR X.K T sr)) (hr : Room k X.A) (hg : Gl X x) (hm : X.mg x = some (.ref f)) (hk : PySem.W.keepIn X.K (.ref f) = true) (hb : Binds X.K fd ps [])
  (ha : PA X (e0 :: es) (tCons (tVar i) (upA X.K T t))) (hdb : (x == ("__debug__" : Str)) = false := by decide) (he : starEach (e0 :: es) X.env = (false, eval e0 X.env) :: starEach es X.env := by rfl) (hpl : (backTo pos (starEach es X.env)).any (·.1) = false := by rfl) :
  PE X (.Call (.Name x p) (e0 :: es) [] pos) (up X.K T (tCallRP i sr t)) :=
 PE.weak (pe_call Fn hr hg hm hk hb .nil pass0 ha hdb he hpl) fun σ H Q q => callR_up q
end
section
variable {X : Cx} {T : List (Addr × Str)} {a b e o : Expr} {es : List Expr} {te ta tb : TEp} {t : TAp} {tf : TFp} {pos p apos : Pos} {k : Nat} {f C : Addr} {fd : FuncData} {ps : List Str} {sp : SpP} {sr : SpR} {x m : Str} {st : Stmt} {rest : List Stmt} {t1 : TSp}
abbrev SpF := List PV → (List PV → Prop) → Prop
def upSpF (K : PySem.W.Frag) (T : List (Addr × Str)) (sp : SpF) : Sp := fun vs H Q _ => ∃ F args P, Trk F H ∧ LamX.Tabs T H ∧ Reps K F H args vs ∧ sp args P ∧ ∀ xs a us H', P xs → Gr H H' → LamX.Tabs T H' → Nw H a → H' a = some (.lst us) → Reps K (With F a) H' xs us → Q (.ref a) H'
def upSF (K : PySem.W.Frag) (T : List (Addr × Str)) (tf : TFp) : TS := fun D σ H => ∃ F η P, Rs K T F σ η H ∧ tf η P ∧ ∀ xs η' a us σ' H', P xs η' → Ext σ η σ' η' H H' → Rs K T (With F a) σ' η' H' → Nw H a → H' a = some (.lst us) → Reps K (Oof (With F a) σ' η') H' xs us → D.rt (.ref a) H'
def tSeqFP (t : TSp) (u : TFp) : TFp := fun η P => t { nx := fun η' => u η' P, rt := fun _ _ => False } η
theorem zsf_ret (he : PE X e (upF X.K T tf)) : PSs X [.Return (some e) pos] (upSF X.K T tf) := by
 refine pss_one (PS.weak (ps_ret he) fun D σ H q => ?_)
 obtain ⟨F, η, P, R, h, k⟩ := q
 exact ⟨F, η, P, R, h, fun xs η' a us H' q e R' hn nf hv r => k xs η' a us σ H' q e R' hn hv r⟩
theorem zsf_cons (h1 : PS X st (upS X.K T t1)) (h2 : PSs X rest (upSF X.K T tf)) : PSs X (st :: rest) (upSF X.K T (tSeqFP t1 tf)) := by
 refine PSs.weak (pss_cons h1 h2) fun D σ H q => ?_
 obtain ⟨F, η, P, R, h, k⟩ := q
 refine ⟨F, η, _, R, h, fun η1 σ1 H1 q e1 R1 => ?_, fun _ _ _ q => q.elim, fun _ _ _ q => q.elim, fun _ _ _ _ _ q => q.elim⟩
 refine ⟨F, η1, P, R1, q, fun xs η' a us σ' H' q e R' hn hv r => k xs η' a us σ' H' q (e1.trans e) R' (e1.nw hn) hv r⟩
theorem okF {P : Program} {w : World} {K : PySem.W.Frag} {mg : Str → Option Value} {base : Heap} {x qual : Str} {st : Stmt} {f : Addr} {fd : FuncData} {N ps : List Str} {k : Nat} {sp : SpF} (Fn : Fun K x qual st f fd) (S : FnScope N ps (defScope st)) (hl : ∀ args P, sp args P → args.length = ps.length) (hn : ps.length ≤ N.length)
  (hbody : ∀ (cdv : Value) (A : Around) (outer : List Env) (s : Shared) (H : Hp) (E : XK), Room k (A.deeper (envOfC qual (defScope st) s.heap.objs.size f cdv)) →
   ∃ tf, PSs (cxOf CX0 P w K mg base N qual (defScope st) f cdv A outer s H E).nox (defBody st) (upSF K T tf) ∧ ∀ args P, sp args P → tf (startP N.length args) fun xs _ => P xs) :
  FnOk P w K mg base CX0 (k + 1) f fd ps (upSpF K T sp) := by
 refine Fn.ok S (fun vs H Q E h => ?_) fun cdv A outer s H vs Q E hr h => ?_
 ·obtain ⟨F, args, P, _, _, r, hs, _⟩ := h
  rw [r.len, hl _ _ hs]
 ·obtain ⟨tf, d, rd⟩ := hbody cdv A outer s H E hr
  obtain ⟨F, args, P, tr, tb, r, hs, k⟩ := h
  have R := rs_start (N := N) tr tb r (by rw [hl _ _ hs]; exact hn)
  refine ⟨_, d, F, _, _, R, rd args P hs, fun xs η' a us σ' H' q e R' hn hv r => ?_⟩
  exact k xs a us H' q ⟨fun b o h t => e.keep b o h startP_noown t, e.live⟩ R'.tb hn hv (r.mono fun b z => .inl z)
def tCallFP (sp : SpF) (t : TAp) : TFp := fun η P => t η fun args η1 => sp args fun xs => P xs η1
theorem z_callF {sp : SpF} (Fn : FnOk X.prog X.w X.K X.mg X.base CX0 k f fd ps (upSpF X.K T sp)) (hr : Room k X.A) (hg : Gl X x) (hm : X.mg x = some (.ref f)) (hk : PySem.W.keepIn X.K (.ref f) = true) (hb : Binds X.K fd ps [])
  (ha : PA X (e :: es) (upA X.K T t)) (hdb : (x == ("__debug__" : Str)) = false := by decide) (he : starEach (e :: es) X.env = (false, eval e X.env) :: starEach es X.env := by rfl) (hpl : (backTo pos (starEach es X.env)).any (·.1) = false := by rfl) :
  PE X (.Call (.Name x p) (e :: es) [] pos) (upF X.K T (tCallFP sp t)) := by
 refine PE.weak (pe_call Fn hr hg hm hk hb .nil pass0 ha hdb he hpl) fun σ H Q q => ?_
 obtain ⟨F, η, P, R, h, k⟩ := q
 refine ⟨F, η, _, R, h, fun args η1 vs H1 h1 e1 R1 r1 => ?_⟩
 refine ⟨Oof F σ η1, _, _, R1.trO, R1.tb, by rw [List.append_nil]; exact r1, h1, fun xs a us H2 pz g tb hn hv rz => ?_⟩
 have hn0 : Nw H a := e1.nw hn
 have nF : ¬ F a := fun z => R.tr a z hn0
 have nO : ¬ Oof F σ η1 a := fun z => R1.trO a z hn
 have m : ∀ b, Oof (With F a) σ η1 b → With (Oof F σ η1) a b := fun b z => by
  rcases z with (z | z) | z
  ·exact .inl (.inl z)
  ·exact .inr z
  ·exact .inl (.inr z)
 -- the frame over the grown heap, a among the foreign ones
 have R2 : Rs X.K T F σ η1 H2 := R1.gr g tb
 have c : Car (Oof F σ η1) (Oof (With F a) σ η1) H1 H2 := fun b u n hb t => ⟨g.keep b u hb t, fun z => by
  rcases z with (z | z) | z
  ·exact n (.inl z)
  ·exact hn.no (by rw [← z]; exact hb) t
  ·exact n (.inr z)⟩
 have R3 : Rs X.K T (With F a) σ η1 H2 := by
  refine ⟨R2.len, fun i y e => ?_, fun i o e => ?_, R2.nd, fun b z => ?_, tb⟩
  ·obtain ⟨v, q1, q2⟩ := R1.va i y e
   exact ⟨v, q1, q2.car c⟩
  ·obtain ⟨b, q1, q2, q3⟩ := R1.ow i o e
   refine ⟨b, q1, q2.car c ?_, fun z => z.elim q3 fun z => nO (by rw [← z]; exact .inr ⟨i, o, q1, e⟩)⟩
   cases o with
   | l xs => obtain ⟨vs, q, _⟩ := q2; rw [q]; exact g.keep _ _ q nofun
   | o C fs => obtain ⟨dx, ws, q, _⟩ := q2; rw [q]; exact g.keep _ _ q nofun
   | d kvs => obtain ⟨ws, q, _⟩ := q2; rw [q]; exact g.keep _ _ q nofun
  ·rcases z with z | z
   ·exact R2.tr b z
   ·rw [z]; exact fun q => q.no hv nofun
 exact k xs η1 a us H2 pz (e1.trans g.ext) R3 hn0 nF hv (rz.mono m)
def tCallRFP (tf : TFp) (sr : SpR) (t : TAp) : TEp := fun η P => tf η fun xs η1 => t η1 fun args η2 => sr (.l xs) args fun z _ => P z η2
theorem callRF_up {K : PySem.W.Frag} {σ : St} {H : Hp} {Q : VK} {E : XK} (q : up K T (tCallRFP tf sr t) σ H Q) : tCall (upSpR K T sr) [] E (tCons (upF K T tf) (upA K T t)) σ H Q := by
 obtain ⟨F, η, P, R, h, k⟩ := q
 refine ⟨F, η, _, R, h, fun xs η1 a us H1 h1 e1 R1 hn nf hv r => ⟨With F a, η1, _, R1, h1, fun args η2 vs H2 h2 e2 R2 r2 => ?_⟩⟩
 have na : ¬ IsOwn σ η1 a := fun z => by
  obtain ⟨j, p, z1, z2⟩ := z
  obtain ⟨b, q1, q2, q3⟩ := R1.ow j p z2
  rw [z1] at q1; cases q1
  exact q3 (.inr rfl)
 have na2 : ¬ IsOwn σ η2 a := fun z => by
  obtain ⟨j, p, z1, z2⟩ := z
  obtain ⟨b, q1, q2, q3⟩ := R2.ow j p z2
  rw [z1] at q1; cases q1
  exact q3 (.inr rfl)
 have hv2 : H2 a = some (.lst us) := e2.keep a _ hv na nofun
 have c12 := e2.car (F := With F a)
 let F' : Addr → Prop := Oof F σ η2
 have m1 : ∀ c, With F' a c → Oof (With F a) σ η2 c := fun c z => by
  rcases z with (z | z) | z
  ·exact .inl (.inl z)
  ·exact .inr z
  ·exact .inl (.inr z)
 have m2 : ∀ c, Oof (With F a) σ η2 c → With F' a c := fun c z => by
  rcases z with (z | z) | z
  ·exact .inl (.inl z)
  ·exact .inr z
  ·exact .inl (.inr z)
 refine ⟨F', a, vs, .l xs, args, _, by simp, fun z => z.elim nf na2, fun c z => R2.trO c (m1 c (.inl z)), R2.tb, ⟨us, hv2, (r.car c12).mono m1⟩, r2.mono m1, h2, fun z o' v H3 pz g tb ho' rz => ?_⟩
 have c3 : Car (Oof (With F a) σ η2) (Oof F σ η2) H2 H3 := fun c u n hc t => ⟨g.keep c u (fun q => n (by rw [q]; exact .inl (.inr rfl))) hc t, fun z => n (z.elim (fun z => .inl (.inl z)) .inr)⟩
 have R3 : Rs K T F σ η2 H3 := by
  refine ⟨R2.len, fun i y e => ?_, fun i o e => ?_, R2.nd, fun b z => g.live b (R2.tr b (.inl z)), tb⟩
  ·obtain ⟨v, q1, q2⟩ := R2.va i y e
   exact ⟨v, q1, q2.car c3⟩
  ·obtain ⟨b, q1, q2, q3⟩ := R2.ow i o e
   have nb : b ≠ a := fun z => q3 (.inr z)
   refine ⟨b, q1, q2.car c3 ?_, fun z => q3 (.inl z)⟩
   cases o with
   | l xs => obtain ⟨vs, q, _⟩ := q2; rw [q]; exact g.keep _ _ nb q nofun
   | o C fs => obtain ⟨dx, ws, q, _⟩ := q2; rw [q]; exact g.keep _ _ nb q nofun
   | d kvs => obtain ⟨ws, q, _⟩ := q2; rw [q]; exact g.keep _ _ nb q nofun
 have E2 := e1.trans e2
 refine k _ _ _ _ pz ⟨fun b u hb n t => g.keep b u (fun z => hn.no (by rw [← z]; exact hb) t) (E2.keep b u hb n t) t, fun b hb => g.live b (E2.live b hb), E2.new, E2.fst⟩ R3 (rz.mono fun c z => .inl z)
theorem z_callRFG {e0 : Expr} (Fn : FnG X.prog X.w X.K X.mg X.base k f fd ps (upSpR X.K T sr)) (hG : X.A.guards = some []) (hr : Room k X.A) (hg : Gl X x) (hm : X.mg x = some (.ref f)) (hk : PySem.W.keepIn X.K (.ref f) = true) (hb : Binds X.K fd ps [])
  (ha : PA X (e0 :: es) (tCons (upF X.K T tf) (upA X.K T t))) (hdb : (x == ("__debug__" : Str)) = false := by decide) (he : starEach (e0 :: es) X.env = (false, eval e0 X.env) :: starEach es X.env := by rfl) (hpl : (backTo pos (starEach es X.env)).any (·.1) = false := by rfl) :
  PE X (.Call (.Name x p) (e0 :: es) [] pos) (up X.K T (tCallRFP tf sr t)) :=
 PE.weak (pe_callG Fn hG hr hg hm hk hb .nil ha hdb he hpl) fun σ H Q q => callRF_up q
def putFP (f : Str) (x : PV) : List (Str × PV) → List (Str × PV)
 | [] => [(f, x)]
 | (n, y) :: r => if n = f then (n, x) :: r else (n, y) :: putFP f x r
theorem putF_rep {K : PySem.W.Frag} {O H} {f : Str} {x : PV} {v : V} (h : Rep K O H x v) : ∀ {fs : List (Str × PV)} {ws : List (Str × V)}, RepF K O H fs ws → RepF K O H (putFP f x fs) (putF f v ws)
 | [], _, r => by
  unfold RepF at r; subst r
  unfold putFP putF RepF
  exact ⟨v, [], rfl, h, by unfold RepF; rfl⟩
 | (n, y) :: fs, _, r => by
  unfold RepF at r
  obtain ⟨w, us, rfl, r1, r2⟩ := r
  unfold putFP putF
  by_cases e : n = f
  ·subst e
   rw [if_pos rfl, if_pos rfl]
   unfold RepF
   exact ⟨v, us, rfl, h, r2⟩
  ·rw [if_neg e, if_neg (by exact fun z => e (by first | exact z.symm | exact z))]
   unfold RepF
   exact ⟨w, _, rfl, r1, putF_rep h r2⟩
def tFldSP (C : Addr) (i : Nat) (f : Str) (te : TEp) : TSp := fun D η => te η fun x η1 => match η1[i]? with
 | some (.ow (.o C' fs)) => C' = C ∧ fs.length < 1000 ∧ D.nx (η1.set i (.ow (.o C (putFP f x fs))))
 | _ => False
theorem z_fldS {i : Nat} {f : Str} {value : Expr} {pos' : Pos} (c : Cls X.K C) (n : NoAttr X.K C f) (ho : PE X o (tVar i)) (hv : PE X value (up X.K T te)) (hs : swapsWith value (some (.Attribute o f pos')) pos.line X.env = pure false := by rfl) :
  PS X (.Assign [.Attribute o f pos'] value pos) (upS X.K T (tFldSP C i f te)) := by
 refine PS.weak (ps_fld ho hv hs) fun D σ H q => ?_
 obtain ⟨F, η, D', R, h, k1, k2, k3, k4⟩ := q
 refine ⟨F, η, _, R, h, fun x η1 v H1 h1 e1 R1 r1 => ?_⟩
 split at h1
 ·rename_i C' fs e
  obtain ⟨rfl, hl, h1⟩ := h1
  obtain ⟨a, s, ⟨dx, ws, q1, q2⟩, nf⟩ := R1.ow i _ e
  refine ⟨_, s, a, C', dx, ws, rfl, q1, c, n, by rw [q2.len]; exact hl, ?_⟩
  obtain ⟨W, E⟩ := R1.write (o' := .o C' (putFP f x fs)) (u := .ins C' dx (putF f v ws)) e s q1 nofun nofun nofun fun c => ⟨dx, _, upd_same, putF_rep (r1.car c) (q2.car c)⟩
  exact k1 _ _ _ h1 (e1.trans E) W
 ·cases h1
def tFldP (C : Addr) (f : Str) (te : TEp) : TEp := fun η P => te η fun x η1 => match x with
 | .ins C' fs => C' = C ∧ ∃ y, fs.lookup f = some y ∧ P y η1
 | _ => False
theorem z_fld {f : Str} (c : Cls X.K C) (n : NoAttr X.K C f) (he : PE X e (up X.K T te)) (hb : attributeBase e f X.env (eval e X.env) = eval e X.env := by rfl) : PE X (.Attribute e f pos) (up X.K T (tFldP C f te)) := by
 refine PE.weak (pe_fld he hb) fun σ H Q q => ?_
 obtain ⟨F, η, P, R, h, k⟩ := q
 refine ⟨F, η, _, R, h, fun x η1 v H1 h1 e1 R1 r1 => ?_⟩
 split at h1
 ·obtain ⟨rfl, y, hy, h1⟩ := h1
  obtain ⟨a, dx, ws, rfl, na, q, rr⟩ := r1.ins_
  obtain ⟨w, hw, rw'⟩ := (rr.look f).1 y hy
  exact ⟨a, _, dx, ws, w, rfl, q, c, n, hw, k _ _ _ _ h1 e1 R1 rw'⟩
 ·cases h1
def tNewP (C : Addr) (sr : SpR) (dps : List PV) (t : TAp) : TEp := fun η P => t η fun args η1 => sr (.o C []) (args ++ dps) fun r o' => r = .non ∧ ∃ fs, o' = .o C fs ∧ P (.ins C fs) η1
theorem new_up {K : PySem.W.Frag} {σ : St} {H : Hp} {Q : VK} {E : XK} {dps : List PV} {dvs : List V} (hd : ∀ O H, Reps K O H dps dvs) (q : up K T (tNewP C sr dps t) σ H Q) : tMake C (upSpR K T sr) dvs E (upA K T t) σ H Q := by
 obtain ⟨F, η, P, R, h, k⟩ := q
 refine ⟨F, η, _, R, h, fun args η1 vs H1 h1 e1 R1 r1 x dx nx ndx nex => ?_⟩
 have s1 : Same H1 (upd (upd H1 dx (.own x)) x (.ins C dx [])) := fun b u hb => by
  rw [upd_ne (ne_of_none hb nx), upd_ne (ne_of_none hb ndx)]; exact hb
 have nO : ¬ Oof F σ η1 x := fun z => R1.trO x z (Nw.of nx)
 have c1 : Car (Oof F σ η1) (With (Oof F σ η1) x) H1 (upd (upd H1 dx (.own x)) x (.ins C dx [])) := fun b u n hb _ => ⟨s1 b u hb, fun z => z.elim n (ne_of_none hb nx)⟩
 refine ⟨Oof F σ η1, x, _, .o C [], _, _, rfl, nO, R1.trO.same s1, R1.tb.ext s1, ⟨dx, [], upd_same, by unfold RepF; rfl⟩, (r1.car c1).app (hd _ _), h1, fun z o' v H2 pz g tb ho' rz => ?_⟩
 obtain ⟨rfl, fs, rfl, pz⟩ := pz
 obtain ⟨dx', ws, hx, rf⟩ := ho'
 have g' : Gr H1 H2 := ⟨fun b u hb t => g.keep b u (ne_of_none hb nx) (s1 b u hb) t, fun b hb => g.live b fun q => hb fun o z => q o (s1 b o z)⟩
 refine ⟨rz.non_, k _ η1 _ H2 pz (e1.trans g'.ext) (R1.gr g' tb) ?_⟩
 unfold Rep
 exact ⟨x, dx', ws, rfl, nO, hx, rf.mono fun b z => .inl z⟩
theorem z_new (M : Mk X.K C f) (Fn : FnOk X.prog X.w X.K X.mg X.base CX0 k f fd ps (upSpR X.K T sr)) (hr : Room (k + 1) X.A) (hg : Gl X x) (hm : X.mg x = some (.ref C)) {dvs : List V} {ds : List Value} {dps : List PV} (hb : Binds X.K fd ps ds) (hd : Vals dvs ds) (hp : ∀ O H, Reps X.K O H dps dvs)
  (ha : PA X (e :: es) (upA X.K T t)) (hdb : (x == ("__debug__" : Str)) = false := by decide) (he : starEach (e :: es) X.env = (false, eval e X.env) :: starEach es X.env := by rfl) (hpl : (backTo pos (starEach es X.env)).any (·.1) = false := by rfl) :
  PE X (.Call (.Name x p) (e :: es) [] pos) (up X.K T (tNewP C sr dps t)) :=
 PE.weak (pe_make M Fn hr hg hm hb hd pass0 ha hdb he hpl) fun σ H Q q => new_up hp q
def tPropP (C : Addr) (sp : SpP) (ta : TEp) : TEp := fun η P => ta η fun x η1 => (∃ fs, x = .ins C fs) ∧ sp [x] fun z => P z η1
theorem z_prop {q : Addr} {f' : Str} (he : PE X e (up X.K T ta)) (c : Cls X.K C) (hp : PropOf X.K C f' q f) (Fn : FnOk X.prog X.w X.K X.mg X.base CX0 k f fd ps (upSp X.K T sp)) (hr : Room (k + 1) X.A) (hb : Binds X.K fd ps [])
  (hab : attributeBase e f' X.env (eval e X.env) = eval e X.env := by rfl) : PE X (.Attribute e f' pos) (up X.K T (tPropP C sp ta)) := by
 refine PE.weak (pe_prop he c hp Fn hr hb .nil pass0 hab) fun σ H Q q => ?_
 obtain ⟨F, η, P, R, h, k⟩ := q
 refine ⟨F, η, _, R, h, fun x η1 v H1 h1 e1 R1 r1 => ?_⟩
 obtain ⟨⟨fs, rfl⟩, h1⟩ := h1
 have r1' := r1
 obtain ⟨a, dx, ws, rfl, na, q, rr⟩ := r1.ins_
 exact ⟨a, dx, ws, rfl, q, Oof F σ η1, _, _, R1.trO, R1.tb, .cons r1' .nil, h1, fun z v H3 pz g tb rz => k z η1 v H3 pz (e1.trans g.ext) (R1.gr g tb) rz⟩
end
set_option maxHeartbeats 1000000 in
theorem meets_enum1 {v : Value} {o : Obj} {H : Heap → Prop} (B : Begins v o H) : Meets (Builtin.«enumerate.__new__» ⟨[.type "enumerate", v], []⟩) (fun _ R s => H s.heap ∧
  R (.ok (.ret (.ref (s.heap.push o).objs.size))) { s with heap := (s.heap.push o).push { cls := .type "enumerate", data := .fields #[.none, .bool false, .ref s.heap.objs.size, rawInt 0, .none, .none] } }) := by
 refine .of_wp fun prog w A R s q => ?_
 obtain ⟨hp, g, d, tk, os⟩ := s
 obtain ⟨h1, q⟩ := q
 have hs := sub_enumerate
 have it : ∀ {A' : Around} {E : Value → Shared → Prop} {Q : Value → Shared → Prop}, Q (.ref hp.objs.size) ⟨hp.push o, g, d, tk, os⟩ → wpAny (model prog w) A' (pyIter v) Q E ⟨hp, g, d, tk, os⟩ := fun z => B.iter prog w _ _ ⟨hp, g, d, tk, os⟩ _ h1 z
 wp_walk using it
 refine wpAny_stack_any fun st => wpAny_pure ?_
 split
 ·rename_i c _ _ _ _ _
  cases (c == Value.type "enumerate") <;> (wp_walk using it; exact ⟨_, rfl, q⟩)
 ·wp_walk using it
  exact ⟨_, rfl, q⟩
theorem call_enum1 {prog : Program} {w : World} {A : Around} {E : Value → Shared → Prop} {s : Shared} {v : Value} {o : Obj} {H : Heap → Prop} {Q : Value → Shared → Prop} (B : Begins v o H) (h1 : H s.heap)
  (q : ∀ h', IsEnum h' (s.heap.objs.size + 1) s.heap.objs.size 0 .none → h'.get? s.heap.objs.size = some o → (∀ b u, s.heap.get? b = some u → h'.get? b = some u) → Q (.ref (s.heap.objs.size + 1)) { s with heap := h' }) :
  wpAny (model prog w) A (call (.type "enumerate") [v]) Q E s := by
 refine callType_new F.called_enumerate (by decide) (F.typeCall_enumerate_1 _) (F.newCall_enumerate_1 _) (fun obj => F.args_object_init_2 obj _) F.entry_enumerate_new (meets_enum1 B) ⟨h1, ?_⟩
 have z : (s.heap.push o).objs.size = s.heap.objs.size + 1 := Heap.size_push ..
 show _ ∧ _
 rw [z]
 have he : ((s.heap.push o).push { cls := .type "enumerate", data := .fields #[.none, .bool false, .ref s.heap.objs.size, rawInt 0, .none, .none] }).get? (s.heap.objs.size + 1) = some { cls := .type "enumerate", data := .fields #[.none, .bool false, .ref s.heap.objs.size, rawInt 0, .none, .none] } := by
  rw [← z]; exact Heap.get?_push_size _ rfl
 exact ⟨⟨_, he, rfl⟩, q _ he (Heap.get?_push_of_some _ (Heap.get?_push_size _ B.free)) fun b u e => Heap.get?_push_of_some _ (Heap.get?_push_of_some _ e)⟩
def Itte (K : PySem.W.Frag) (a : Addr) : It where
 go := fun i H => ∃ (xs : List V) (x : V), SqT K H a xs ∧ xs[i]? = some x
 yld := fun i H v H' => ∃ p x, v = .ref p ∧ H p = none ∧ H' = upd H p (.tup [.int (i : Nat), x]) ∧ ∀ xs, SqT K H a xs → xs[i]? = some x
 stop := fun i H => ∃ xs : List V, SqT K H a xs ∧ xs.length = i
def TnE (a e it : Addr) (i : Nat) (h : Heap) : Prop := (∃ old, IsEnum h e it (0 + ((i : Nat) : Int)) old) ∧ h.IsTupleIter it a i ∧ e ≠ it
theorem tne_apart {a e it : Addr} {i : Nat} {h : Heap} {items : Array Value} (t : TnE a e it i h) (p : IsTup h a items) : a ≠ it ∧ e ∉ [it, a] := by
 obtain ⟨⟨old, he⟩, ⟨oi, hi, ci, _⟩, ne⟩ := t
 obtain ⟨o, ho, hc, _⟩ := p
 refine ⟨fun z => ?_, fun z => ?_⟩
 ·rw [z, hi] at ho; cases ho; rw [ci] at hc; simp at hc
 ·rcases List.mem_cons.mp z with z | z
  ·exact ne z
  ·have z : e = a := by simpa using z
   have he' : h.get? e = some _ := he
   rw [z, ho] at he'; cases he'; simp at hc
theorem turn_enumT {P : Program} {w : World} {K : PySem.W.Frag} {elts : List Expr} {kk : Nat} {tpos : Pos} (a e it : Addr) : Turn P w K (.Tuple elts kk tpos) (Itte K a) [e, it] e (TnE a e it) where
 mem := by simp
 obj := fun i h st b hb => by
  obtain ⟨⟨old, he⟩, ⟨oi, hi, ci, di⟩, _⟩ := st
  rcases List.mem_cons.mp hb with z | z
  ·rw [z]; exact ⟨_, he, fun v q => nomatch q⟩
  ·have z : b = it := by simpa using z
   rw [z]; exact ⟨oi, hi, fun v q => by rw [di] at q; cases q⟩
 keep := fun i h h' st k => by
  obtain ⟨⟨old, he⟩, hi, ne⟩ := st
  exact ⟨⟨old, k e (by simp) _ he⟩, hi.at fun o q => k it (by simp) o q, ne⟩
 item := by
  intro X hP hw hK hc i pins s σ H E I hf st hg
  subst hP hw hK
  obtain ⟨xs, x, hq, hx⟩ := hg
  obtain ⟨its, rv, p, hz⟩ := I.tuple hq
  obtain ⟨u, hu, ru⟩ := rv.get hx
  obtain ⟨n1, n2⟩ := tne_apart st p
  have W := WalksT.enumFrom 0 (Draws.tuple (prog := X.prog) (w := X.w) (A := X.A.in1) (I.ok.hd hc) it a n1 its.toArray) e st.2.2 n2 (by simp)
  have hi : i < its.toArray.size := by
   have := (List.getElem?_eq_some_iff.mp hu).1
   simpa using this
  refine W.item i s _ _ hi ⟨st.1, st.2.1, p⟩ fun q vals h' tk ⟨t, y, hy, ev⟩ hq' hT hm hk => ?_
  have ey : y = u := by
   rw [Array.getElem?_eq_getElem hi] at hy
   rw [List.getElem?_eq_getElem (by simpa using hi)] at hu
   simp at hy hu
   rw [← hy, ← hu]
  subst ey
  refine ⟨_, rfl, W.go elts kk tpos i q { s with heap := h', toks := tk } _ _ hm fun h'' st' hk' => ?_⟩
  have nq := W.apart i q h' hm
  have hT2 : IsTup h'' q vals := by
   obtain ⟨o, z1, z2⟩ := hT
   exact ⟨o, hk' q o nq z1, z2⟩
  have kp : ∀ b o, b ∉ [e, it] → s.heap.get? b = some o → h''.get? b = some o := fun b o hb z => hk' b o hb (hk b o hb z)
  have new : ObjOk X.prog X.w (upd H q (.tup [.int (i : Nat), x])) h'' q (.tup [.int (i : Nat), x]) := by
   refine ⟨by show 2 ≤ sizeLine; decide, [.int (0 + (i : Int)) t, y], .cons ⟨t, by rw [Int.zero_add]⟩ (.cons ru .nil), ?_⟩
   rw [ev] at hT2; exact hT2
  have hn : H q = none := I.hok.fresh hq'
  refine ⟨.ref q, _, I.turnedNew (t' := tk) (ch := [e, it]) kp hf hq' new, rfl, ⟨q, x, rfl, hn, rfl, fun ys hy => by rw [I.tuple_inj hy hq]; exact hx⟩, ⟨st'.1, st'.2.1, st.2.2⟩, fun b hb => ?_⟩
  have hb' : b ≠ q := fun z => nq (by rw [← z]; exact hb)
  rw [upd_ne hb']
  exact (hf b hb).1
 done := by
  intro X hP hw hK hc i pins s σ H E I hf st hg
  subst hP hw hK
  obtain ⟨xs, hq, hx⟩ := hg
  obtain ⟨its, rv, p, hz⟩ := I.tuple hq
  obtain ⟨n1, n2⟩ := tne_apart st p
  have W := WalksT.enumFrom 0 (Draws.tuple (prog := X.prog) (w := X.w) (A := X.A.in1) (I.ok.hd hc) it a n1 its.toArray) e st.2.2 n2 (by simp)
  have hl : its.toArray.size = i := by rw [← hx, rv.length]; simp
  refine W.done s _ _ (by rw [hl]; exact ⟨st.1, st.2.1, p⟩) fun h' tk kp => ⟨rfl, ?_⟩
  have nit : ∀ b u, H b = some u → b ∉ [e, it] := fun b u z hb => by
   have := (hf b hb).1
   rw [this] at z; cases z
  exact I.step (g' := s.gens) (d' := s.drawn) (t' := tk) (ch := [e, it]) (fun b hb => ⟨(hf b hb).2.2.2.1, (hf b hb).2.1, (hf b hb).2.2.2.2.1, (hf b hb).2.2.2.2.2⟩) (fun b o _ _ hb z _ => kp b o hb z) (fun b o _ _ hb z _ => ⟨o.slots, kp b o hb z⟩) (fun _ _ _ _ n => n)
   (fun b o hb z => ⟨o, kp b o hb z⟩) (fun _ _ z => z) (fun _ _ _ z => z) (fun b ps z => ⟨#[], by rw [z]; simp⟩) (fun m hm => by
    obtain ⟨o, es, ep, ho, r⟩ := hm
    exact ⟨o, es, ep, kp _ o (fun z => (hf _ z).2.1 rfl) ho, r⟩) (fun b u z => (I.hok b u z).stay (fun c v hc q => kp c v (fun y => by
     rcases hc with hc | hc
     ·exact nit b u z (by rw [← hc]; exact y)
     ·exact nit c _ hc y) q) (fun _ q => q) fun _ _ q => q) I.bare
 self := fun A i s Q E st q => by
  obtain ⟨⟨old, he⟩, _⟩ := st
  exact wpAny_pyIter_enum he q
def iEnumT (K : PySem.W.Frag) (te : TE) : TI := fun σ H R => te σ H fun v H1 => ∃ a xs, [v] = [V.ref a] ∧ SqT K H1 a xs ∧ R (Itte K a) H1
theorem pi_enumT {X : Cx} {e : Expr} {te : TE} {p pos tpos : Pos} {elts : List Expr} {kk : Nat} (hg : Gl X "enumerate") (hm : X.mg "enumerate" = none) (he : PE X e te) (hs : starEach [e] X.env = [(false, eval e X.env)] := by rfl) :
  PI X (.Tuple elts kk tpos) (.Call (.Name "enumerate" p) [e] [] pos) (iEnumT X.K te) := by
 constructor
 intro pins s σ H R I h
 refine Call_ (ld_blt I hg hm boot_enumerate (PyProof.Rows.callWith_type1 (thn ((pa_cons he pa_nil hs).run pos pins s σ H (fun vs H1 => ∃ a xs, vs = [V.ref a] ∧ SqT X.K H1 a xs ∧ R (Itte X.K a) H1) I h) fun us s1 ⟨vs, H1, I1, r1, q1⟩ => ?_) hs rfl))
 obtain ⟨a, xs, rfl, hq, q⟩ := q1
 obtain ⟨u, rfl, ru⟩ := vals1 r1
 cases ru
 obtain ⟨its, rv, p', hz⟩ := I1.tuple hq
 refine call_enum1 (begins_tuple a its.toArray) p' fun h' he hit hk => wpAny_pyIter_enum he ?_
 have I2 : L2.Inv X pins σ H1 { s1 with heap := h' } := I1.kept (t' := s1.toks) hk
 refine ⟨s1.heap.objs.size + 1, [s1.heap.objs.size + 1, s1.heap.objs.size], _, _, H1, rfl, I2, turn_enumT a (s1.heap.objs.size + 1) s1.heap.objs.size, ⟨⟨.none, he⟩, ⟨_, hit, rfl, rfl⟩, Nat.succ_ne_self _⟩, fun b hb => ?_, q⟩
 have hle : s1.heap.objs.size ≤ b := by
  rcases List.mem_cons.mp hb with z | z
  ·rw [z]; exact Nat.le_succ _
  ·have z : b = s1.heap.objs.size := by simpa using z
   rw [z]; exact Nat.le_refl _
 exact I1.fpOk hle (I1.hok.fresh hle)
def enumP (xs : List PV) : List PV := xs.zipIdx.map fun p => .tup [.int (p.2 : Nat), p.1]
section
variable {X : Cx} {T : List (Addr × Str)} {e : Expr} {te : TEp}
def iEnumP (te : TEp) : TIp := fun η P => te η fun x η1 => match x with
 | .tup xs => P (enumP xs) η1
 | _ => False
theorem enumP_get {xs : List PV} {i : Nat} {x : PV} (h : (enumP xs)[i]? = some x) : ∃ y, xs[i]? = some y ∧ x = .tup [.int (i : Nat), y] := by
 unfold enumP at h
 rw [List.getElem?_map, List.getElem?_zipIdx] at h
 cases q : xs[i]? with
 | none => rw [q] at h; cases h
 | some y => rw [q] at h; simp at h; exact ⟨y, rfl, h.symm⟩
theorem it_enumT {K : PySem.W.Frag} {O H} {a : Addr} {xs : List PV} {vs : List V} (t : TupAt K O H a vs) (r : Reps K O H xs vs) : Itr8 K O (Itte K a) (enumP xs) H := fun O' H' tr c _ i => by
 have h' := t.inj_car c
 have r' := r.car c
 refine ⟨fun x e => ?_, fun e => ⟨vs, h', by rw [r'.len]; simpa [enumP] using e⟩⟩
 obtain ⟨y, hy, rfl⟩ := enumP_get e
 obtain ⟨v, e1, r1⟩ := r'.get hy
 refine ⟨⟨vs, v, h', e1⟩, fun w H'' q => ?_⟩
 obtain ⟨p, x', rfl, hp, rfl, hx⟩ := q
 have := hx vs h'
 rw [e1] at this; cases this
 exact ⟨Same.new hp, rep_newT tr hp (.cons rep_int (.cons r1 .nil))⟩
theorem zi_enumT {p pos tpos : Pos} {elts : List Expr} {kk : Nat} (hg : Gl X "enumerate") (hm : X.mg "enumerate" = none) (he : PE X e (up X.K T te)) (hs : starEach [e] X.env = [(false, eval e X.env)] := by rfl) :
  PI X (.Tuple elts kk tpos) (.Call (.Name "enumerate" p) [e] [] pos) (upI X.K T (iEnumP te)) := by
 refine PI.weak (pi_enumT hg hm he hs) fun σ H Q q => ?_
 obtain ⟨F, η, P, R, h, k⟩ := q
 refine ⟨F, η, _, R, h, fun x η1 v H1 h1 e1 R1 r1 => ?_⟩
 split at h1
 ·obtain ⟨a, vs, rfl, t, rr⟩ := r1.tup_
  exact ⟨a, vs, rfl, t.sq, k _ _ _ _ h1 e1 R1 (it_enumT t rr)⟩
 ·cases h1
end
section
variable {prog : Program} {w : World} {A : Around} {E : Value → Shared → Prop} {s : Shared}
def copied (g : Heap) (vs : List Value) : Heap := (g.push (seqObj "list" #[] 0)).update g.objs.size (Obj.mapSeq (· ++ vs.toArray))
theorem collect_tup {l : Addr} {vs : List Value} {Q : List Value → Shared → Prop} (p : IsTup s.heap l vs.toArray) (hz : vs.length ≤ sizeLine) (q : Q vs { s with heap := copied s.heap vs }) :
  wpAny (model prog w) A (collect (.ref l)) Q E s := by
 obtain ⟨ob, hb, cb, k, db⟩ := p
 have old : (s.heap.push (seqObj "list" #[] 0)).get? l = some ob := Heap.get?_push_of_some _ hb
 have new : (s.heap.push (seqObj "list" #[] 0)).get? s.heap.objs.size = some (seqObj "list" #[] 0) := Heap.get?_push_size _ rfl
 have tt : (Value.type "tuple" == Value.type "tuple") = true := by rfl
 have sz : ((#[] : Array Value) ++ vs.toArray).size ≤ sizeLine + 1 := by
  rw [Array.size_append, List.size_toArray]
  simp
  omega
 unfold collect
 refine wpAny_bind
  (wpAny_runValue (codeAny_builtin entry_proto_collect' ?_))
 show wpAny _ _ (do
  again (.builtin "list.__iadd__" ⟨[← newList [], .ref l], []⟩)) _ _ s
 refine wpAny_bind (wpAny_newList
  (wpAny_pure ⟨Code.quiet_builtin _ (by decide +kernel), codeAny_builtin entry_list_iadd' ?_⟩))
 show wpAny _ _
  (Builtin.List.listExtendWith (.ref s.heap.objs.size) (.ref l) (.ref s.heap.objs.size)) _ _
  { s with heap := s.heap.push (seqObj "list" #[] 0) }
 unfold Builtin.List.listExtendWith
 refine wpAny_bind (wpAny_typeOf (T := "tuple") ⟨ob, old, cb⟩ ?_)
 rw [if_pos (by rw [tt, Bool.or_true])]
 refine wpAny_bind (listItems_at old db ?_)
 refine wpAny_bind (listItems_at new rfl ?_)
 rw [if_neg (by simp)]
 refine wpAny_bind (listUpdate_at new rfl ?_ (Nat.zero_le _) sz)
 refine wpAny_pure ?_
 show wpAny (model prog w) A (do
  let ob ← load s.heap.objs.size
  match ob.data with
  | .seq xs _ => pure xs.toList
  | _ => unsupported "internal:collect") Q E { s with heap := copied s.heap vs }
 refine wpAny_bind (wpAny_load (get?_update_seq new _) ?_)
 show wpAny _ _ (pure ((#[] : Array Value) ++ vs.toArray).toList) Q E _
 have e : ((#[] : Array Value) ++ vs.toArray).toList = vs := by simp
 rw [e]
 exact wpAny_pure q
theorem sort_of_tup {l : Addr} {vs : List Value} {kw : List (Str × Value)} {Q : Value → Shared → Prop} (p : IsTup s.heap l vs.toArray) (hz : vs.length ≤ sizeLine) (a1 : argsOk "sorted" ⟨[.ref l], kw⟩) (a2 : ∀ x, argsOk "list.sort" ⟨[.ref x], kw⟩)
  (body : ∀ E' : Value → Shared → Prop, wpAny (model prog w) A.in1.in1 (Builtin.«list.sort» ⟨[.ref (s.heap.objs.size + 1)], kw⟩)
   (fun f s' => f = .done (.ret .none) ∧ Q (.ref (s.heap.objs.size + 1)) s') E' { s with heap := PySem.W.copyHeap s.heap vs }) :
  wpAny (model prog w) A (call (.builtin "sorted") [.ref l] kw) Q E s := by
 have sz : (copied s.heap vs).objs.size = s.heap.objs.size + 1 := by
  unfold copied
  rw [Heap.size_update, size_push']
 refine call_function_entry_kw kind_sorted plain_sorted entry_sorted a1 ?_
 unfold Builtin.«sorted»
 refine wpAny_bind
  (m := checkCount "sorted" 1 1 _) (wpAny_pure ?_)
 refine wpAny_bind (collect_tup p hz ?_)
 refine wpAny_bind (wpAny_newList ?_ hz)
 show wpAny _ _ _ _ _
  { s with heap := PySem.W.copyHeap s.heap vs }
 rw [sz]
 refine wpAny_bind (wpAny_holding
  (wpAny_call_entry_kw slot_list_sort ⟨_, PySem.W.copyHeap_at s.heap vs, rfl⟩ entry_list_sort ?_ (a2 _)))
 show wpAny (model prog w) A.in1.in1
  (Builtin.«list.sort» ⟨[.ref (s.heap.objs.size + 1)], kw⟩) _ _ _
 refine wpAny_mono (body _) (fun f s' z => ?_) fun _ _ e => e
 obtain ⟨e, z⟩ := z
 subst e
 exact ⟨_, rfl, wpAny_pure ⟨_, rfl, z⟩⟩
theorem sorted_key_tup {β : Type} {R : Value → β → Prop} {bs : List β} {l : Addr} {vs : List Value} {f : Value} {kw : List (Str × Value)} {Q : Value → Shared → Prop} (k : β → PyData) (p : IsTup s.heap l vs.toArray) (e : PySem.W.EachIs R vs bs) (hal : PySem.W.AllAlike (bs.map k)) (hk : PySem.W.Sortable (bs.map k)) (hL : bs.length ≤ sizeLine)
  (hu : ∀ x, x ∈ bs → A.units + 2 + (k x).depth < cLine) (a1 : argsOk "sorted" ⟨[.ref l], kw⟩) (a2 : ∀ x, argsOk "list.sort" ⟨[.ref x], kw⟩) (ht : ∀ x, Builtin.«list.sort» ⟨[.ref x], kw⟩ = ksk_tree x f false)
  (turn : ∀ (v : Value) (x : β), R v x → x ∈ bs → ∀ (h : Heap) (tk : Nat), (∀ b o, s.heap.get? b = some o → h.get? b = some o) →
   wpAny (model prog w) A.in1.in1 (call f [v]) (PySem.W.KeyPure (k x) { s with heap := h, toks := tk }) (fun _ _ => False) { s with heap := h, toks := tk })
  (q : ∀ out c h' tk, (∀ b o, s.heap.get? b = some o → h'.get? b = some o) → h'.get? (s.heap.objs.size + 1) = some (seqObj "list" (List.toArray out) c) → out.length = bs.length → PySem.W.EachIs R out (bs.mergeSort (PySem.W.dataLe false k)) →
   Q (.ref (s.heap.objs.size + 1)) { s with heap := h', toks := tk }) :
  wpAny (model prog w) A (call (.builtin "sorted") [.ref l] kw) Q E s := by
 have grown : ∀ {g : Heap}, PySem.W.KeepsBut (s.heap.objs.size + 1) (PySem.W.copyHeap s.heap vs) g → ∀ b o, s.heap.get? b = some o → g.get? b = some o := fun kp b o z =>
  kp b o (Nat.ne_of_lt (Nat.lt_succ_of_lt (Heap.lt_size z))) (PySem.W.copyHeap_old z)
 have hlen : (bs.map k).length = vs.length := by rw [List.length_map]; exact e.length.symm
 refine sort_of_tup p (by rw [e.length]; exact hL) a1 a2 fun E' => ?_
 rw [ht]
 refine PySem.W.keyH_tree (kz := bs.map k) (s := { s with heap := PySem.W.copyHeap s.heap vs })
  (PySem.W.copyHeap_at s.heap vs) hlen (by rw [e.length]; exact hL) hal hk (fun d hd => ?_)
  (PySem.W.keyH_turns (s := { s with heap := PySem.W.copyHeap s.heap vs }) e fun v x hR hx h tk kp => turn v x hR hx h tk (grown kp))
  fun h' tk out c kp hD ko => ⟨rfl, ?_⟩
 ·obtain ⟨x, hx, rfl⟩ := List.mem_map.mp hd
  have := hu x hx
  show A.units + 1 + 1 + _ < _
  omega
 ·exact q out c h' tk (grown kp) hD ((ko.length hlen).trans e.length) (PySem.W.keyedOut_each k ko e)
end
structure Lam1 (nm : Str) (scope : Scope) : Prop where
 kind : scope.kind = .function
 co : scope.isCoroutine = false
 gen : scope.isGenerator = false
 loc : scope.names.lookup nm = some .local
 own : ∀ y ∈ scope.names, y.2 ≠ .cell
section
variable {prog : Program} {w : World} {A : Around} {E : Value → Shared → Prop} {s : Shared}
theorem lam_pair {f r : Addr} {c' : Addr} {name qual nm : Str} {params : Arguments} {scope : Scope} {pm ctv : Value} {items : Array Value} {i j : Int} {ki kj : Nat} {u v : Value} {k1 k2 p1 p2 p3 p4 p5 p6 kt pt} {Q : Value → Shared → Prop}
  (L : Lam1 nm scope) (hroom : A.depth < recursionLimit)
  (ho : s.heap.get? f = some (PySem.W.kla_obj name qual params (.Tuple [.Subscript (.Name nm p1) (.Constant (.int i) k1 p2) p3, .Subscript (.Name nm p4) (.Constant (.int j) k2 p5) p6] kt pt) scope [] pm c' ctv))
  (hcd : s.heap.CodeRec (.ref c') qual) (hlim : s.heap.NoLimit)
  (hb : bindArgs (PySem.W.kla_fn name qual params (.Tuple [.Subscript (.Name nm p1) (.Constant (.int i) k1 p2) p3, .Subscript (.Name nm p4) (.Constant (.int j) k2 p5) p6] kt pt) scope [] pm (.ref c') ctv) ⟨[.ref r], []⟩ = pure [(nm, .ref r)])
  (ht : IsTup s.heap r items) (bi : -(2 ^ 63) ≤ i ∧ i < 2 ^ 63 ∧ seqIndex? i items.size = some ki ∧ items[ki]? = some u) (bj : -(2 ^ 63) ≤ j ∧ j < 2 ^ 63 ∧ seqIndex? j items.size = some kj ∧ items[kj]? = some v)
  (hd : (nm == ("__debug__" : Str)) = false)
  (q : ∀ h' tk a, (∀ b o, s.heap.get? b = some o → h'.get? b = some o) → IsTup h' a #[u, v] → Q (.ref a) { s with heap := h', toks := tk }) :
  wpAny (model prog w) A (call (.ref f) [.ref r]) Q E s := by
 refine wpAny_call (PySem.W.kla_callFunE hroom ho rfl L.co L.gen rfl hcd ?_)
 rw [hb]
 refine wpAny_pure (wpAny_newFunctionEnv L.own (fun y hy => ?_) (fun h1 hns hsb => ⟨hlim.fresh _ hsb, ?_⟩) L.kind)
 ·have e : y = (nm, .ref r) := by simpa using hy
  rw [e]; exact L.loc
 refine PySem.W.kla_codeExpr ?_
 have kp : ∀ b o, s.heap.get? b = some o → h1.get? b = some o := fun b o e => hsb.extBut b o (Nat.ne_of_lt (Heap.lt_size e)) (Heap.get?_push_of_some _ e)
 have ht1 : IsTup h1 r items := ht.keeps kp
 have nml : (fun y => ([(nm, Value.ref r)] : List (Str × Value)).reverse.lookup y) nm = some (.ref r) := by
  show ([(nm, Value.ref r)] : List (Str × Value)).lookup nm = _
  simp
 refine wpAny_Tuple_spliced ?_
 show wpAny _ _ (spliced [(false, _), (false, _)]) _ _ _
 refine Calls.spliced_cons (Subscript_ (wpAny_Name (wpAny_loadName_local L.kind L.loc hns nml ?_) hd))
 refine wpAny_Constant_int (item_tuple (ht1) bi.1 bi.2.1 bi.2.2.1 bi.2.2.2 ?_)
 refine Calls.spliced_cons (Subscript_ (wpAny_Name (wpAny_loadName_local L.kind L.loc hns nml ?_) hd))
 refine wpAny_Constant_int (item_tuple (ht1) bj.1 bj.2.1 bj.2.2.1 bj.2.2.2 ?_)
 refine Calls.spliced_nil ⟨by show 2 ≤ sizeLine; decide, ?_⟩
 exact q _ _ _ (fun b o e => Heap.get?_push_of_some _ (kp b o e)) (IsTup.new _ _)
end
section
variable {X : Cx} {T : List (Addr × Str)} {e : Expr} {te : TEp}
def keyP (i j : Int) : PV → PyData
 | .tup xs => match atI xs i, atI xs j with
  | some a, some b => .tuple [encD a, encD b]
  | _, _ => .none
 | _ => .none
def flatD : PV → Bool
 | .int _ => true
 | .str _ => true
 | _ => false
def tSortLP (i j : Int) (te : TEp) : TEp := fun η P => te η fun x η1 => match x with
 | .tup xs => (∀ y ∈ xs, ∃ ys a b, y = .tup ys ∧ atI ys i = some a ∧ atI ys j = some b ∧ flatD a = true ∧ flatD b = true) ∧ PySem.W.AllAlike (xs.map (keyP i j)) ∧ xs.length ≤ sizeLine ∧ P (.lst (xs.mergeSort (PySem.W.dataLe false (keyP i j)))) η1
 | _ => False
theorem flat_reads {K : PySem.W.Frag} {O H} {h : Heap} {x : PV} {v : V} {u : Value} (f : flatD x = true) (r : Rep K O H x v) (ru : L2.RelV v u) : Reads h u (encD x) [] := by
 cases x with
 | int i =>
  cases r.int_
  obtain ⟨t, rfl⟩ := ru
  exact .int _ _
 | str i =>
  cases r.str_
  obtain ⟨t, rfl⟩ := ru
  exact .str _ _
 | _ => cases f
theorem z_sortL {i j : Int} {nm : Str} {x : Str} {p lpos pos kpos : Pos} {params : Arguments} {scope : Scope} {c P : Addr} {k1 k2 p1 p2 p3 p4 p5 p6 kt pt} {k : Nat}
  (hg : Gl X "sorted") (hm : X.mg "sorted" = none) (he : PE X e (up X.K T te)) (hr : Room k X.A) (L : Lam1 nm scope) (hdef : defaultsOf params X.env = ([], [])) (TB : LamX.TabB X.base X.mg c P) (hcode : X.env.code = .ref c) (hmT : (P, X.env.qual ++ "<lambda>") ∈ T) (huT : ∀ p ∈ T, p.1 = P → p.2 = X.env.qual ++ "<lambda>")
  (hfree : ∀ y ∈ scope.names, y.2 ≠ .free)
  (hcl : cloFrom X.env.cells scope.names [] = [])
  (hb : ∀ (r : Addr) (q : Str) (pm cv ctv : Value), bindArgs (PySem.W.kla_fn "<lambda>" q params (.Tuple [.Subscript (.Name nm p1) (.Constant (.int i) k1 p2) p3, .Subscript (.Name nm p4) (.Constant (.int j) k2 p5) p6] kt pt) scope [] pm cv ctv) ⟨[.ref r], []⟩ = pure [(nm, .ref r)])
  (bi : -(2 ^ 63) ≤ i ∧ i < 2 ^ 63) (bj : -(2 ^ 63) ≤ j ∧ j < 2 ^ 63) (hd : (nm == ("__debug__" : Str)) = false)
  (hs : starEach [e] X.env = [(false, eval e X.env)] := by rfl) (h5 : backTo pos (starEach [e] X.env) = (false, eval e X.env) :: backTo pos (starEach [] X.env) := by rfl) (h6 : (backTo pos (starEach [e] X.env)).any (·.1) = false := by rfl) :
  PE X (.Call (.Name "sorted" p) [e] [⟨some "key", .Lambda params (.Tuple [.Subscript (.Name nm p1) (.Constant (.int i) k1 p2) p3, .Subscript (.Name nm p4) (.Constant (.int j) k2 p5) p6] kt pt) scope lpos, kpos⟩] pos) (up X.K T (tSortLP i j te)) := by
 constructor
 intro pins s σ H Q I h
 obtain ⟨F, η, PP, R, h, kk⟩ := h
 apply wpAny_Call_Name_kw
 refine ld_blt (u := .builtin "sorted") I hg hm (by decide +kernel) ?_
 refine PyProof.Rows.callWith_kw (thn ((pa_cons he pa_nil hs).run pos pins s σ H (fun vs H1 => ∃ xs η1 a us, vs = [V.ref a] ∧ TupAt X.K (Oof F σ η1) H1 a us ∧ Reps X.K (Oof F σ η1) H1 xs us ∧ Rs X.K T F σ η1 H1 ∧ Ext σ η σ η1 H H1 ∧
  (∀ y ∈ xs, ∃ ys a b, y = .tup ys ∧ atI ys i = some a ∧ atI ys j = some b ∧ flatD a = true ∧ flatD b = true) ∧ PySem.W.AllAlike (xs.map (keyP i j)) ∧ xs.length ≤ sizeLine ∧ PP (.lst (xs.mergeSort (PySem.W.dataLe false (keyP i j)))) η1) I ?_) fun us s1 hA => ?_) ?_ ?_ ?_ ?_
 ·refine ⟨F, η, _, R, h, fun x η1 v H1 h1 e1 R1 r1 => ?_⟩
  split at h1
  ·obtain ⟨a, us, rfl, t, rr⟩ := r1.tup_
   exact ⟨_, η1, a, us, rfl, t, rr, R1, e1, h1⟩
  ·cases h1
 ·obtain ⟨vs, H1, I1, r1, xs, η1, a, us', rfl, tA, rr, R1, e1, hx, hal, hz, hP⟩ := hA
  obtain ⟨u0, rfl, ru⟩ := vals1 r1
  cases ru
  show wpAny _ _ (evalAll [do let v ← eval (.Lambda params (.Tuple [.Subscript (.Name nm p1) (.Constant (.int i) k1 p2) p3, .Subscript (.Name nm p4) (.Constant (.int j) k2 p5) p6] kt pt) scope lpos) X.env; standAt pos; pure v]) _ _ s1
  refine wpAny_evalAll_cons (wpAny_bind (LamX.lam_make2 I1 TB hcode hmT huT R1.tb hdef (fun y hy e => absurd e (hfree y hy)) fun f c' pm ctv H2 s2 I2 eN T2 hf hfn hfr hco => wpAny_bind (wpAny_standAt (wpAny_pure (wpAny_evalAll_nil ?_)))))
  have g : Gr H1 H2 := ⟨eN, fun b n q => n fun o ho => Classical.byContradiction fun nt => q.no (eN b o ho fun ps z => nt ⟨ps, z⟩) fun ps z => nt ⟨ps, z⟩⟩
  have R2 := R1.gr g T2
  have c12 : Car (Oof F σ η1) (Oof F σ η1) H1 H2 := g.car
  have tA2 := tA.car c12
  have rr2 := rr.car c12
  obtain ⟨its, rits, p, hz2⟩ := I2.tuple tA2.sq
  rw [hcl] at hf
  obtain ⟨⟨oc, vs, tq, hoc, hdc, hvc⟩, _, _⟩ := I2.hok c' _ hco
  have hu := hr.un
  have hdp := hr.dp
  have hmem : ∀ y ∈ xs, (keyP i j y).depth ≤ 1 ∧ ∃ ys a b, y = .tup ys ∧ atI ys i = some a ∧ atI ys j = some b ∧ flatD a = true ∧ flatD b = true := fun y hy => by
   obtain ⟨ys, a, b, rfl, ha, hb', fa, fb⟩ := hx y hy
   refine ⟨?_, ys, a, b, rfl, ha, hb', fa, fb⟩
   unfold keyP
   simp only [ha, hb']
   cases a <;> first | cases fa | skip
   all_goals (cases b <;> first | cases fb | skip)
   all_goals (simp [encD, toD, PyData.depth, PyData.depthAll])
  refine sorted_key_tup (R := ValR X.K (Oof F σ η1) H2) (bs := xs) (f := .ref f) (keyP i j) p (each_val rr2 rits) hal ?_ hz (fun y hy => by have := (hmem y hy).1; omega) (ksk_s1 _ _) (fun x => ?_) (fun x => ksk_t1 f x) ?_ ?_
  ·refine .inl fun d hd => ?_
   obtain ⟨y, hy, rfl⟩ := List.mem_map.mp hd
   obtain ⟨_, ys, a, b, rfl, ha, hb', _, _⟩ := hmem y hy
   exact ⟨encD a, [encD b], by unfold keyP; simp only [ha, hb']⟩
  ·exact ksk_l1 _ _
  ·rintro v y ⟨w, rw', rep⟩ hy h tk kp
   obtain ⟨_, ys, a, b, rfl, ha, hb', fa, fb⟩ := hmem y hy
   obtain ⟨r, ws, rfl, t, rw2⟩ := rep.tup_
   cases rw'
   obtain ⟨its2, r3, p3, _⟩ := I2.tuple t.sq
   have lens : its2.length = ys.length := by rw [← r3.length]; exact rw2.len
   have item : ∀ {k : Int} {z : PV}, atI ys k = some z → flatD z = true → ∃ kk uu, seqIndex? k its2.toArray.size = some kk ∧ its2.toArray[kk]? = some uu ∧ ∀ h', Reads h' uu (encD z) [] := fun {k z} hk fz => by
    obtain ⟨kk, q1, q2, _⟩ := atI_get hk
    obtain ⟨v', q3, q4⟩ := rw2.get q2
    obtain ⟨uu, q5, q6⟩ := r3.get q3
    refine ⟨kk, uu, by rw [List.size_toArray, lens]; exact q1, by simpa using q5, fun h' => flat_reads fz q4 q6⟩
   obtain ⟨ki, ui, i1, i2, i3⟩ := item ha fa
   obtain ⟨kj, uj, j1, j2, j3⟩ := item hb' fb
   refine lam_pair (c' := c') (items := its2.toArray) L ?_ (kp _ _ hf) ⟨c', oc, vs, tq, rfl, kp _ _ hoc, hdc, hvc⟩ (I2.nolimit.keeps kp) (hb _ _ _ _ _) (p3.keeps kp) ⟨bi.1, bi.2, i1, i2⟩ ⟨bj.1, bj.2, j1, j2⟩ hd fun h' tk' a' kp' ht' => ?_
   ·show X.A.depth < recursionLimit
    omega
   ·refine ⟨h', tk', rfl, kp', ?_⟩
    obtain ⟨o, ho, hc, n, hd'⟩ := ht'
    have e : keyP i j (.tup ys) = .tuple [encD a, encD b] := by unfold keyP; simp only [ha, hb']
    rw [e]
    exact Reads.tuple ho hc hd' (ReadsAll.cons (i3 h') (ReadsAll.cons (j3 h') ReadsAll.nil))
  ·intro out cc h' tk kp hD ho eo
   obtain ⟨ys, r3, r4⟩ := val_each eo
   have fr : H2 (s2.heap.objs.size + 1) = none := I2.hok.fresh (Nat.le_succ _)
   refine ⟨.ref (s2.heap.objs.size + 1), upd H2 (s2.heap.objs.size + 1) (.lst ys), I2.laid (t' := tk) kp (Nat.le_succ _) ⟨?_, out, cc, r4, hD⟩, rfl, ?_⟩
   ·rw [r3.len, List.length_mergeSort]; exact hz
   ·exact kk _ η1 _ _ hP ((e1.trans g.ext).trans (.same (Same.new fr))) (R2.same (Same.new fr)) (rep_newL R2.trO fr r3)
 ·exact h5
 ·exact h6
 all_goals rfl
end
inductive Ar where
 | v (x : PV) | fo (o : Ow)
abbrev Ar.f (xs : List PV) : Ar := .fo (.l xs)
abbrev TArp := EP' → (List Ar → EP' → Prop) → Prop
def ArOk (K : PySem.W.Frag) (O : Addr → Prop) (H : Hp) : List Ar → List V → Prop
 | [], vs => vs = []
 | .v x :: ars, vs => ∃ v us, vs = v :: us ∧ Rep K O H x v ∧ ArOk K O H ars us
 | .fo o :: ars, vs => ∃ a us, vs = .ref a :: us ∧ OwAt K O H a o ∧ ArOk K O H ars us
def ArNew (F : Addr → Prop) (H : Hp) : List Ar → List V → Prop
 | .v _ :: ars, _ :: us => ArNew F H ars us
 | .fo _ :: ars, .ref a :: us => Nw H a ∧ ¬ F a ∧ ArNew (With F a) H ars us
 | [], [] => True
 | _, _ => False
def FA (F : Addr → Prop) : List Ar → List V → Addr → Prop
 | .v _ :: ars, _ :: us => FA F ars us
 | .fo _ :: ars, .ref a :: us => FA (With F a) ars us
 | _, _ => F
def upAr (K : PySem.W.Frag) (T : List (Addr × Str)) (tp : TArp) : TA := fun σ H Q => ∃ F η P, Rs K T F σ η H ∧ tp η P ∧ ∀ ars η' vs H', P ars η' → Ext σ η σ η' H H' → Rs K T (FA F ars vs) σ η' H' → ArNew F H ars vs → ArOk K (Oof (FA F ars vs) σ η') H' ars vs → Q vs H'
section
variable {K : PySem.W.Frag} {T : List (Addr × Str)} {F : Addr → Prop} {σ : St} {η : EP'} {H H' : Hp}
theorem ArOk.mono {O O' : Addr → Prop} (h : ∀ a, O' a → O a) : ∀ {ars : List Ar} {vs : List V}, ArOk K O H ars vs → ArOk K O' H ars vs
 | [], _, r => r
 | .v x :: ars, _, r => by
  obtain ⟨v, us, rfl, r1, r2⟩ := r
  exact ⟨v, us, rfl, r1.mono h, r2.mono h⟩
 | .fo o :: ars, _, r => by
  obtain ⟨a, us, rfl, r1, r2⟩ := r
  exact ⟨a, us, rfl, r1.mono h, r2.mono h⟩
theorem FA_with {a b : Addr} : ∀ {ars : List Ar} {vs : List V} {F : Addr → Prop}, FA (With F a) ars vs b ↔ FA F ars vs b ∨ b = a
 | [], [], F => Iff.rfl
 | [], _ :: _, F => Iff.rfl
 | .v _ :: ars, _ :: us, F => FA_with (ars := ars) (vs := us)
 | .v _ :: _, [], F => Iff.rfl
 | .fo _ :: ars, .ref c :: us, F => by
  show FA (With (With F a) c) ars us b ↔ FA (With F c) ars us b ∨ b = a
  rw [FA_with, FA_with, FA_with]
  constructor
  ·rintro ((h | h) | h)
   ·exact .inl (.inl h)
   ·exact .inr h
   ·exact .inl (.inr h)
  ·rintro ((h | h) | h)
   ·exact .inl (.inl h)
   ·exact .inr h
   ·exact .inl (.inr h)
 | .fo _ :: _, [], F => Iff.rfl
 | .fo _ :: _, .non :: _, F => Iff.rfl
 | .fo _ :: _, .bl _ :: _, F => Iff.rfl
 | .fo _ :: _, .int _ :: _, F => Iff.rfl
 | .fo _ :: _, .str _ :: _, F => Iff.rfl
 | .fo _ :: _, .byt _ :: _, F => Iff.rfl
 | .fo _ :: _, .flt _ :: _, F => Iff.rfl
 | .fo _ :: _, .ty _ :: _, F => Iff.rfl
theorem ArNew.mono : ∀ {ars : List Ar} {vs : List V} {F F' : Addr → Prop}, (∀ a, F' a → F a) → ArNew F H ars vs → ArNew F' H ars vs
 | [], [], _, _, _, _ => trivial
 | [], _ :: _, _, _, _, h => h.elim
 | .v _ :: ars, _ :: us, _, _, m, h => ArNew.mono (ars := ars) (vs := us) m h
 | .v _ :: _, [], _, _, _, h => h.elim
 | .fo _ :: ars, .ref c :: us, _, _, m, h => ⟨h.1, fun z => h.2.1 (m c z), ArNew.mono (ars := ars) (vs := us) (fun a z => z.elim (fun z => .inl (m a z)) .inr) h.2.2⟩
 | .fo _ :: _, [], _, _, _, h => h.elim
 | .fo _ :: _, .non :: _, _, _, _, h => h.elim
 | .fo _ :: _, .bl _ :: _, _, _, _, h => h.elim
 | .fo _ :: _, .int _ :: _, _, _, _, h => h.elim
 | .fo _ :: _, .str _ :: _, _, _, _, h => h.elim
 | .fo _ :: _, .byt _ :: _, _, _, _, h => h.elim
 | .fo _ :: _, .flt _ :: _, _, _, _, h => h.elim
 | .fo _ :: _, .ty _ :: _, _, _, _, h => h.elim
theorem FA_not {a : Addr} : ∀ {ars : List Ar} {vs : List V} {F : Addr → Prop}, ArNew (With F a) H ars vs → ¬ F a → ¬ FA F ars vs a
 | [], [], _, _, n, h => n h
 | [], _ :: _, _, h, _, _ => h.elim
 | .v _ :: ars, _ :: us, _, h, n, z => FA_not (ars := ars) (vs := us) h n z
 | .v _ :: _, [], _, h, _, _ => h.elim
 | .fo _ :: ars, .ref c :: us, F, h, n, z => by
  have z' : FA (With F c) ars us a := z
  have hc : ¬ With F a c := h.2.1
  rcases FA_with.mp z' with z' | z'
  ·exact FA_not (ars := ars) (vs := us) (F := F) (h.2.2.mono fun b q => .inl q) n z'
  ·exact hc (.inr z'.symm)
 | .fo _ :: _, [], _, h, _, _ => h.elim
 | .fo _ :: _, .non :: _, _, h, _, _ => h.elim
 | .fo _ :: _, .bl _ :: _, _, h, _, _ => h.elim
 | .fo _ :: _, .int _ :: _, _, h, _, _ => h.elim
 | .fo _ :: _, .str _ :: _, _, h, _, _ => h.elim
 | .fo _ :: _, .byt _ :: _, _, h, _, _ => h.elim
 | .fo _ :: _, .flt _ :: _, _, h, _, _ => h.elim
 | .fo _ :: _, .ty _ :: _, _, h, _, _ => h.elim
def storesV : List Nat → List V → St → St
 | i :: is, v :: vs, σ => storesV is vs (σ.set i (some v))
 | _, _, σ => σ
def storesP : List Nat → List Ar → EP' → EP'
 | i :: is, .v x :: ars, η => storesP is ars (η.set i (.va x))
 | i :: is, .fo o :: ars, η => storesP is ars (η.set i (.ow o))
 | _, _, η => η
def okIx (n : Nat) : List Nat → List Ar → Prop
 | i :: is, .v _ :: ars => okIx n is ars
 | i :: is, .fo _ :: ars => 0 ≠ i ∧ i < n ∧ okIx n is ars
 | [], [] => True
 | _, _ => False
theorem stores_ok {σ0 : St} {η0 : EP'} {H0 : Hp} : ∀ {is : List Nat} {ars : List Ar} {vs : List V} {F : Addr → Prop} {σ : St} {η : EP'}, okIx η.length is ars → Rs K T (FA F ars vs) σ η H → Ext σ0 η0 σ η H0 H → ArNew F H0 ars vs → ArOk K (Oof (FA F ars vs) σ η) H ars vs →
  Rs K T F (storesV is vs σ) (storesP is ars η) H ∧ Ext σ0 η0 (storesV is vs σ) (storesP is ars η) H0 H
 | [], [], vs, F, σ, η, _, R, E, N, A => by
  have A' : vs = [] := A
  subst A'
  exact ⟨R, E⟩
 | i :: is, .v x :: ars, vs, F, σ, η, hi, R, E, N, A => by
  obtain ⟨v, us, rfl, r, A⟩ := A
  have R' : Rs K T (FA F ars us) σ η H := R
  have m : ∀ a, Oof (FA F ars us) (σ.set i (some v)) (η.set i (.va x)) a → Oof (FA F ars us) σ η a := Oof_mono fun b z => own_set z
  exact stores_ok (is := is) (ars := ars) (vs := us) (F := F) (by rw [List.length_set]; exact hi) (R'.setv r) (E.trans .setv) N (A.mono m)
 | i :: is, .fo o :: ars, vs, F, σ, η, hi, R, E, N, A => by
  obtain ⟨a, us, rfl, r, A⟩ := A
  obtain ⟨h0, hl, hi⟩ := hi
  obtain ⟨n1, n2, N⟩ := N
  have R0 : Rs K T (FA (With F a) ars us) σ η H := R
  have nf : ¬ FA F ars us a := FA_not N n2
  have R1 : Rs K T (With (FA F ars us) a) σ η H := R0.shrink fun b z => FA_with.mpr z
  have m0 : ∀ b, Oof (With (FA F ars us) a) σ η b → Oof (FA (With F a) ars us) σ η b := fun b z => z.elim (fun z => .inl (FA_with.mpr z)) .inr
  have R2 := R1.seto (i := i) (o := o) nf (r.mono m0) hl
  have m1 : ∀ b, Oof (FA F ars us) (σ.set i (some (.ref a))) (η.set i (.ow o)) b → Oof (FA (With F a) ars us) σ η b := by
   rintro b (z | ⟨j, p, z1, z2⟩)
   ·exact .inl (FA_with.mpr (.inl z))
   ·by_cases hj : j = i
    ·subst hj
     cases at_set z1
     exact .inl (FA_with.mpr (.inr rfl))
    ·rw [ne_set hj] at z1 z2
     exact .inr ⟨j, p, z1, z2⟩
  exact stores_ok (is := is) (ars := ars) (vs := us) (F := F) (by rw [List.length_set]; exact hi) R2 (E.seto n1 h0) (N.mono fun b z => .inl z) (A.mono m1)
 | [], .v _ :: _, _, _, _, _, h, _, _, _, _ => h.elim
 | [], .fo _ :: _, _, _, _, _, h, _, _, _, _ => h.elim
 | _ :: _, [], _, _, _, _, h, _, _, _, _ => h.elim
end
section
variable {X : Cx} {T : List (Addr × Str)} {e a b c : Expr} {es : List Expr} {te : TEp} {tf : TFp} {tr : TArp} {pos : Pos}
def tNilAr : TArp := fun η P => P [] η
def tConsV (te : TEp) (t : TArp) : TArp := fun η P => te η fun x η1 => t η1 fun ars η2 => P (.v x :: ars) η2
def tConsF (tf : TFp) (t : TArp) : TArp := fun η P => tf η fun xs η1 => t η1 fun ars η2 => P (.f xs :: ars) η2
theorem zr_nil : PA X [] (upAr X.K T tNilAr) := by
 refine PA.weak pa_nil fun σ H Q q => ?_
 obtain ⟨F, η, P, R, h, k⟩ := q
 exact k [] η [] H h .refl R trivial rfl
theorem new_back {F : Addr → Prop} {σ : St} {η η1 : EP'} {H H1 : Hp} (e : Ext σ η σ η1 H H1) : ∀ {ars : List Ar} {vs : List V} {F : Addr → Prop}, ArNew F H1 ars vs → ArNew F H ars vs
 | [], [], _, _ => trivial
 | [], _ :: _, _, h => h.elim
 | .v _ :: ars, _ :: us, _, h => new_back e (F := F) (ars := ars) (vs := us) h
 | .v _ :: _, [], _, h => h.elim
 | .fo _ :: ars, .ref c :: us, _, h => ⟨e.nw h.1, h.2.1, new_back e (F := F) (ars := ars) (vs := us) h.2.2⟩
 | .fo _ :: _, [], _, h => h.elim
 | .fo _ :: _, .non :: _, _, h => h.elim
 | .fo _ :: _, .bl _ :: _, _, h => h.elim
 | .fo _ :: _, .int _ :: _, _, h => h.elim
 | .fo _ :: _, .str _ :: _, _, h => h.elim
 | .fo _ :: _, .byt _ :: _, _, h => h.elim
 | .fo _ :: _, .flt _ :: _, _, h => h.elim
 | .fo _ :: _, .ty _ :: _, _, h => h.elim
theorem car_FA {F G : Addr → Prop} {σ : St} {η η1 : EP'} {H H1 : Hp} (e : Ext σ η σ η1 H H1) (hn : ∀ b, G b → F b ∨ Nw H b) : Car (Oof F σ η) (Oof G σ η1) H H1 := fun a o n h t => by
 obtain ⟨k, n'⟩ := e.car (F := F) a o n h t
 refine ⟨k, fun z => ?_⟩
 rcases z with z | z
 ·rcases hn a z with z | z
  ·exact n (.inl z)
  ·exact z.no h t
 ·exact n' (.inr z)
theorem FA_new {H : Hp} : ∀ {ars : List Ar} {vs : List V} {F : Addr → Prop} {b : Addr}, ArNew F H ars vs → FA F ars vs b → F b ∨ Nw H b
 | [], [], _, _, _, h => .inl h
 | [], _ :: _, _, _, h, _ => h.elim
 | .v _ :: ars, _ :: us, _, _, h, z => FA_new (ars := ars) (vs := us) h z
 | .v _ :: _, [], _, _, h, _ => h.elim
 | .fo _ :: ars, .ref c :: us, F, b, h, z => by
  rcases FA_new (ars := ars) (vs := us) (F := With F c) h.2.2 z with (q | q) | q
  ·exact .inl q
  ·rw [q]; exact .inr h.1
  ·exact .inr q
 | .fo _ :: _, [], _, _, h, _ => h.elim
 | .fo _ :: _, .non :: _, _, _, h, _ => h.elim
 | .fo _ :: _, .bl _ :: _, _, _, h, _ => h.elim
 | .fo _ :: _, .int _ :: _, _, _, h, _ => h.elim
 | .fo _ :: _, .str _ :: _, _, _, h, _ => h.elim
 | .fo _ :: _, .byt _ :: _, _, _, h, _ => h.elim
 | .fo _ :: _, .flt _ :: _, _, _, h, _ => h.elim
 | .fo _ :: _, .ty _ :: _, _, _, h, _ => h.elim
theorem zr_v (he : PE X e (up X.K T te)) (hr : PA X es (upAr X.K T tr)) (hs : starEach (e :: es) X.env = (false, eval e X.env) :: starEach es X.env := by rfl) : PA X (e :: es) (upAr X.K T (tConsV te tr)) := by
 refine PA.weak (pa_cons he hr hs) fun σ H Q q => ?_
 obtain ⟨F, η, P, R, h, k⟩ := q
 refine ⟨F, η, _, R, h, fun x η1 v H1 h1 e1 R1 r1 => ⟨F, η1, _, R1, h1, fun ars η2 vs H2 h2 e2 R2 N2 A2 => ?_⟩⟩
 exact k (.v x :: ars) η2 (v :: vs) H2 h2 (e1.trans e2) R2 (show ArNew F H ars vs from new_back (F := F) e1 N2) ⟨v, vs, rfl, r1.car (car_FA e2 fun b z => FA_new N2 z), A2⟩
theorem zr_f (he : PE X e (upF X.K T tf)) (hr : PA X es (upAr X.K T tr)) (hs : starEach (e :: es) X.env = (false, eval e X.env) :: starEach es X.env := by rfl) : PA X (e :: es) (upAr X.K T (tConsF tf tr)) := by
 refine PA.weak (pa_cons he hr hs) fun σ H Q q => ?_
 obtain ⟨F, η, P, R, h, k⟩ := q
 refine ⟨F, η, _, R, h, fun xs η1 a ws H1 h1 e1 R1 hn nf hv r1 => ⟨With F a, η1, _, R1, h1, fun ars η2 vs H2 h2 e2 R2 N2 A2 => ?_⟩⟩
 have na : ¬ IsOwn σ η1 a := fun z => by
  obtain ⟨j, p, z1, z2⟩ := z
  obtain ⟨b, q1, q2, q3⟩ := R1.ow j p z2
  rw [z1] at q1; cases q1
  exact q3 (.inr rfl)
 exact k (.f xs :: ars) η2 (.ref a :: vs) H2 h2 (e1.trans e2) R2 ⟨hn, nf, new_back (F := F) e1 N2⟩ ⟨a, vs, rfl, ⟨ws, e2.keep a _ hv na nofun, r1.car (car_FA e2 fun b z => FA_new N2 z)⟩, A2⟩
def tParP (is : List Nat) (tr : TArp) : TSp := fun D η => tr η fun ars η1 => ars.length = is.length ∧ okIx η1.length is ars ∧ D.nx (storesP is ars η1)
theorem ArOk.len {K : PySem.W.Frag} {O H} : ∀ {ars : List Ar} {vs : List V}, ArOk K O H ars vs → vs.length = ars.length
 | [], _, r => by
  have r' : _ = [] := r
  rw [r']; rfl
 | .v x :: ars, _, r => by
  obtain ⟨v, us, rfl, r1, r2⟩ := r
  simp [r2.len]
 | .fo o :: ars, _, r => by
  obtain ⟨a, us, rfl, r1, r2⟩ := r
  simp [r2.len]
theorem par_up {K : PySem.W.Frag} {is : List Nat} {D : Ends} {σ : St} {H : Hp} (q : upS K T (tParP is tr) D σ H) : upAr K T tr σ H (fun vs H1 => vs.length = is.length ∧ D.nx (storesV is vs σ) H1) := by
 obtain ⟨F, η, D', R, h, k1, k2, k3, k4⟩ := q
 refine ⟨F, η, _, R, h, fun ars η1 vs H1 h1 e1 R1 N A => ⟨by rw [A.len]; exact h1.1, ?_⟩⟩
 obtain ⟨R2, E2⟩ := stores_ok (is := is) h1.2.1 R1 e1 N A
 exact k1 _ _ _ h1.2.2 E2 R2
theorem z_par2 {i j : Nat} {st : Stmt} {K0 : PySem.W.Frag} (hK : X.K = K0) (pf : PS X st (tPar i j (upAr K0 T tr))) : PS X st (upS K0 T (tParP [i, j] tr)) := by
 refine PS.weak pf fun D σ H q => ?_
 obtain ⟨F, η, P, R, h, k⟩ := par_up q
 refine ⟨F, η, P, R, h, fun ars η' vs H' h1 e1 R1 N A => ?_⟩
 obtain ⟨hl, hd⟩ := k ars η' vs H' h1 e1 R1 N A
 match vs, hl, hd with
 | [v, w], _, hd => exact ⟨v, w, rfl, hd⟩
theorem z_par3 {i j l : Nat} {st : Stmt} {K0 : PySem.W.Frag} (hK : X.K = K0) (pf : PS X st (tPar3 i j l (upAr K0 T tr))) : PS X st (upS K0 T (tParP [i, j, l] tr)) := by
 refine PS.weak pf fun D σ H q => ?_
 obtain ⟨F, η, P, R, h, k⟩ := par_up q
 refine ⟨F, η, P, R, h, fun ars η' vs H' h1 e1 R1 N A => ?_⟩
 obtain ⟨hl, hd⟩ := k ars η' vs H' h1 e1 R1 N A
 match vs, hl, hd with
 | [u, v, w], _, hd => exact ⟨u, v, w, rfl, hd⟩
end
section
variable {X : Cx} {T : List (Addr × Str)} {a b e o : Expr} {es : List Expr} {te ta tb : TEp} {t : TAp} {tf : TFp} {pos p apos : Pos} {x : Str}
theorem z_gi {i : Int} (hg : Gl X x) (h : ∃ u, X.mg x = some u ∧ RelV (.int i) u) (hd : (x == ("__debug__" : Str)) = false := by decide) : PE X (.Name x pos) (up X.K T (tConP (.int i))) := by
 obtain ⟨u, hm, r⟩ := h
 exact z_con (pe_glob hg hm r hd) fun _ _ => by unfold Rep; rfl
theorem z_gs {i : Str} (hg : Gl X x) (h : ∃ u, X.mg x = some u ∧ RelV (.str i) u) (hd : (x == ("__debug__" : Str)) = false := by decide) : PE X (.Name x pos) (up X.K T (tConP (.str i))) := by
 obtain ⟨u, hm, r⟩ := h
 exact z_con (pe_glob hg hm r hd) fun _ _ => by unfold Rep; rfl
theorem z_gc {C : Addr} (hg : Gl X x) (hm : X.mg x = some (.ref C)) (hd : (x == ("__debug__" : Str)) = false := by decide) : PE X (.Name x pos) (up X.K T (tConP (.raw (.ref C)))) := z_con (pe_glob (v := .ref C) hg hm rfl hd) fun _ _ => by unfold Rep; rfl
theorem z_ty {id : String} (hg : Gl X x) (hm : X.mg x = none) (hv : bootBuiltins x = some (.type id)) (hn : x ≠ "__name__" := by decide) (hd : (x == ("__debug__" : Str)) = false := by decide) : PE X (.Name x pos) (up X.K T (tConP (.raw (.ty id)))) := z_con (pe_bltn (v := .ty id) hg hm hv rfl hn hd) fun _ _ => by unfold Rep; rfl
def tNegP (te : TEp) : TEp := fun η P => te η fun x η1 => match x with | .int i => P (.int (-i)) η1 | _ => False
theorem z_neg (h : PE X e (up X.K T te)) : PE X (.UnaryOp .USub e pos) (up X.K T (tNegP te)) := by
 refine PE.weak (pe_un un_neg h) fun σ H Q q => ?_
 obtain ⟨F, η, P, R, h, k⟩ := q
 refine ⟨F, η, _, R, h, fun x η1 v H1 h1 e1 R1 r1 => ?_⟩
 split at h1
 ·exact ⟨_, r1.int_, k _ _ _ _ h1 e1 R1 rep_int⟩
 ·cases h1
theorem zgs_cons1 {t : TGp} {u : TGsp} (h1 : PG X e (upG X.K T t)) (h2 : PGs X es (upGs X.K T u)) (hs : (assignEach (e :: es) X.env).map (·.2) = assign e X.env :: (assignEach es X.env).map (·.2) := by rfl) : PGs X (e :: es) (upGs X.K T (gConsP t u)) := zgs_cons h1 h2 (pgs_cons h1 h2 hs)
theorem z_chain1 {c : Expr} {tc : TEp} {op op' : CmpOp} {r r' : R2p} (ho : OpR X (compareOp op) (r2 X.K r)) (ho' : OpR X (compareOp op') (r2 X.K r')) (ha : PE X a (up X.K T ta)) (hb : PE X b (up X.K T tb)) (hc : PE X c (up X.K T tc))
  (hm : lastMarks [op, op'] [b, c] = false := by with_unfolding_all rfl) : PE X (.Compare a [op, op'] [b, c] pos) (up X.K T (tChainP r r' ta tb tc)) := z_chain ho ho' ha hb hc (pe_chain ho ho' ha hb hc hm)
theorem zt_chain {c : Expr} {tc : TEp} {op op' : CmpOp} {r r' : R2p} (ho : OpR X (compareOp op) (r2 X.K r)) (ho' : OpR X (compareOp op') (r2 X.K r')) (ha : PE X a (up X.K T ta)) (hb : PE X b (up X.K T tb)) (hc : PE X c (up X.K T tc))
  (hm : lastMarks [op, op'] [b, c] = false := by with_unfolding_all rfl) : PT X (.Compare a [op, op'] [b, c] pos) (upB X.K T (tBlP (tChainP r r' ta tb tc))) := by
 refine PT.weak (pt_chain ho ho' ha hb hc hm) fun σ H Q q => ?_
 obtain ⟨F, η, P, R, h, k⟩ := q
 refine ⟨F, η, _, R, h, fun x η1 v H1 h1 e1 R1 r1' => ⟨F, η1, _, R1, h1, fun y η2 w H2 h2 e2 R2' rw' => ?_⟩⟩
 refine ⟨Oof F σ η2, x, y, _, R2'.trO, r1'.car e2.car, rw', h2, fun z u H3 pz s rz => ?_⟩
 obtain ⟨kk, rfl, pz⟩ := pz
 unfold Rep at rz
 refine ⟨kk, rz, ?_⟩
 cases kk with
 | false => exact ⟨_, rfl, k _ η2 H3 pz ((e1.trans e2).trans (.same s)) (R2'.same s)⟩
 | true =>
  simp only [if_true] at pz ⊢
  refine ⟨F, η2, _, R2'.same s, pz, fun z' η3 u' H4 h4 e4 R4 r4 => ?_⟩
  refine ⟨Oof F σ η3, y, z', _, R4.trO, (rw'.car (Car.same s)).car e4.car, r4, h4, fun z2 u2 H5 p5 s5 r5 => ?_⟩
  split at p5
  ·unfold Rep at r5
   exact ⟨_, r5, k _ η3 H5 p5 ((((e1.trans e2).trans (.same s)).trans e4).trans (.same s5)) (R4.same s5)⟩
  ·cases p5
theorem zi_enum1 {p pos tpos : Pos} {elts : List Expr} {kk : Nat} (hg : Gl X "enumerate") (hm : X.mg "enumerate" = none) (he : PE X e (up X.K T te)) (hs : starEach [e] X.env = [(false, eval e X.env)] := by rfl) :
  PI X (.Tuple elts kk tpos) (.Call (.Name "enumerate" p) [e] [] pos) (upI X.K T (iEnumP te)) := zi_enumT hg hm he hs
def rMulA : R2p := fun x y P => rMul x y P ∨ rMulS x y P
theorem zo_mulA : OpR X (binaryOp .Mult) (r2 X.K rMulA) := by
 intro pins s σ H x y v u Q I rx ry q
 obtain ⟨O, px, py, P, tr, h1, h2, h, k⟩ := q
 rcases h with h | h
 ·exact zo_mul pins s σ H x y v u Q I rx ry ⟨O, px, py, P, tr, h1, h2, h, k⟩
 ·exact zo_mulS pins s σ H x y v u Q I rx ry ⟨O, px, py, P, tr, h1, h2, h, k⟩
end
structure FunX (K : PySem.W.Frag) (x qual : Str) (st : Stmt) (dvs : List V) (c f : Addr) (fd : FuncData) : Prop where
 ex : ∃ (oc : Value) (od : Option Addr) (dV kV doc pm : Value) (an : Option Addr) (ct : Value) (osl : Array (Option Value)),
  fd = PySem.W.fnOf x qual (defArgs st) (defBody st) (defScope st) dV kV doc pm an (.ref c) ct ∧ K.lookup f = some ⟨oc, od, .func fd, osl⟩ ∧ PySem.W.codeIn K (.ref c) qual = true ∧ DflV K dV dvs
 kp : PySem.W.keepIn K (.ref f) = true
section
variable {P : Program} {w : World} {K : PySem.W.Frag} {mg : Str → Option Value} {base : Heap} {T : List (Addr × Str)} {x qual : Str} {st : Stmt} {f c : Addr} {fd : FuncData} {dvs : List V} {ps : List Str}
theorem FunX.d (F : FunX K x qual st dvs c f fd) : FunD K x qual (defArgs st) (defBody st) (defScope st) dvs [] f fd := by
 obtain ⟨oc, od, dV, kV, doc, pm, an, ct, osl, h1, h2, h3, h4⟩ := F.ex
 exact ⟨⟨oc, od, dV, kV, doc, pm, an, .ref c, ct, osl, h1, h2, h3, h4, .inl rfl⟩, F.kp⟩
theorem okRX {nm : Str} {N : List Str} {k : Nat} {sp : SpR} (F : FunX K x qual st dvs c f fd) (S : FnScope (nm :: N) (nm :: ps) (defScope st)) (hl : ∀ o args P, sp o args P → args.length = ps.length) (hn : ps.length ≤ N.length)
  (hbody : ∀ (A : Around) (outer : List Env) (s : Shared) (H : Hp) (E : XK), Room k (A.deeper (envOfC qual (defScope st) s.heap.objs.size f (.ref c))) →
   ∃ ts, PSs (cxOf CX0 P w K mg base (nm :: N) qual (defScope st) f (.ref c) A outer s H E).nox (defBody st) (upS K T ts) ∧
    ∀ o args P, sp o args P → ts { nx := fun η' => ∃ o', η'[0]? = some (Sl.ow o') ∧ P .non o', rt := fun x η' => ∃ o', η'[0]? = some (Sl.ow o') ∧ P x o' } (startR (N.length + 1) o args)) :
  FnOk P w K mg base CX0 (k + 1) f fd (nm :: ps) (upSpR K T sp) := by
 obtain ⟨oc, od, dV, kV, doc, pm, an, ct, osl, rfl, lk, hcd, _⟩ := F.ex
 refine fn_of lk hcd S (len_spR hl) fun A outer s H vs Q E hr h => ?_
 obtain ⟨ts, d, rd⟩ := hbody A outer s H E hr
 exact ⟨_, d.nox, body_spR h (fun o args P hs => by rw [hl _ _ _ hs]; exact hn) rd⟩
theorem FunX.b0 (F : FunX K x qual st dvs c f fd) (hd : dvs ≠ [])
  (h : ∀ (T : Addr) (kV doc pm : Value) (an : Option Addr) (cdv ct : Value) (us its : List Value), us.length = ps.length → its.length = dvs.length →
   ∃ k, bindArgs (PySem.W.fnOf x qual (defArgs st) (defBody st) (defScope st) (.ref T) kV doc pm an cdv ct) ⟨us, []⟩ = seqItems? (.ref T) >>= k ∧ k (some its.toArray) = pure (ps.zip (us ++ its.drop dvs.length))) : Binds K fd ps [] := by
 obtain ⟨ds, h1, h2⟩ := F.d.binds1 (ps := ps) ps.length dvs.length hd (by omega) h
 rw [List.drop_length] at h1
 cases ds with
 | nil => exact h2
 | cons => exact (nomatch h1)
end
end Z
namespace Z
open PySem PySem.Spec L2 ClX
open PyProof.Rows hiding St
structure SMet (K : PySem.W.Frag) (C : Addr) (mc : Value) (m : Str) (p g : Addr) : Prop where
 at_ : PySem.W.findCls K (.ref C) mc m = some (.get (.builtin "staticmethod.__get__") (.ref p) .none (.ref C))
 rc : ∃ rest, PySem.W.recIn K p "staticmethod" = some (.ref g :: rest)
 kp : PySem.W.keepIn K (.ref g) = true
structure SInst (K : PySem.W.Frag) (C : Addr) (m : Str) (p g : Addr) : Prop where
 pg : PySem.W.plainGet K C Str.empty = true
 ic : PySem.W.isClsIn K C = true
 at_ : PySem.W.findIn K (.ref C) m = some (some (.ref p))
 ty : PySem.W.typeIn K (.ref p) = some (.type "staticmethod")
 get : PySem.W.specialIn K (.ref p) "__get__" = some (some (.builtin "staticmethod.__get__"))
 tk : PySem.W.takesIn K (.ref p) = some false
 cp : PySem.W.copiedNames.contains m = false
 rc : ∃ rest, PySem.W.recIn K p "staticmethod" = some (.ref g :: rest)
 kp : PySem.W.keepIn K (.ref g) = true
section
variable {X : Cx} {T : List (Addr × Str)} {k : Nat} {C p g : Addr} {mc : Value} {sp : SpP} {o e : Expr} {es : List Expr} {m : Str} {pos apos kpos : Pos} {te ta : TEp} {t : TAp} {fd : FuncData} {ps ks : List Str} {kws : List Keyword} {nm : Option Str}
theorem PK.weak {kws : List Keyword} {t t' : TA} (h : PK X kws t) (w : ∀ σ H Q, t' σ H Q → t σ H Q) : PK X kws t' := ⟨fun pos pins s σ H Q I q => h.run pos pins s σ H Q I (w _ _ _ q)⟩
theorem zk_nil : PK X [] (upA X.K T tNilP) := by
 refine PK.weak pk_nil fun σ H Q q => ?_
 obtain ⟨F, η, P, R, h, k⟩ := q
 exact k [] η [] H h .refl R .nil
theorem zk_cons (ha : PE X e (up X.K T te)) (hr : PK X kws (upA X.K T t)) : PK X (⟨nm, e, kpos⟩ :: kws) (upA X.K T (tConsP te t)) := by
 refine PK.weak (pk_cons ha hr) fun σ H Q q => ?_
 obtain ⟨F, η, P, R, h, k⟩ := q
 refine ⟨F, η, _, R, h, fun x η1 v H1 h1 e1 R1 r1' => ⟨F, η1, _, R1, h1, fun y η2 w H2 h2 e2 R2' rw' => ?_⟩⟩
 exact k (x :: y) η2 (v :: w) H2 h2 (e1.trans e2) R2' (.cons (r1'.car e2.car) rw')
end
end Z
namespace Z
open PySem PySem.Spec L2 ClX
open PyProof.Rows hiding St
section
variable {X : Cx} {T : List (Addr × Str)} {C : Addr} {mc : Value} {e : Expr} {f : Str} {pos : Pos} {ta : TEp} {x : PV} {v : V} {u : Value}
def tDic0P : TEp := fun η P => P .dic0 η
theorem z_dic0 : PE X (.Dict [] [] pos) (up X.K T tDic0P) := by
 refine PE.weak pe_dnewK fun σ H Q q => ?_
 obtain ⟨F, η, P, R, h, kk⟩ := q
 intro p hp
 refine kk _ _ _ _ h (.same (Same.new hp)) (R.same (Same.new hp)) ?_
 unfold Rep
 exact ⟨p, [], rfl, R.trO.fresh hp, upd_same, RepD.nil⟩
end
def trk0 (ts : List Addr) (a : Addr) (o : Obj) (u : HO) : Hp := fun b => if b = a then some (.frz o u) else if b ∈ ts then some (.tbl #[]) else none
section
variable {ts : List Addr} {a b : Addr} {o : Obj} {u : HO}
theorem trk0_a : trk0 ts a o u a = some (.frz o u) := if_pos rfl
theorem trk0_t (n : b ≠ a) (h : b ∈ ts) : trk0 ts a o u b = some (.tbl #[]) := (if_neg n).trans (if_pos h)
theorem trk0_n (n : b ≠ a) (h : b ∉ ts) : trk0 ts a o u b = none := (if_neg n).trans (if_neg h)
end
def NoList (K : PySem.W.Frag) : Bool := K.all fun p => match p.2.cls with
 | .type n => !(n == "list")
 | _ => true
theorem noList_at {K : PySem.W.Frag} (h : NoList K = true) {b : Addr} {o : Obj} (e : K.lookup b = some o) : o.cls ≠ .type "list" := by
 intro z
 have hm : ∃ p ∈ K, p.2 = o := by
  clear h
  induction K with
  | nil => cases e
  | cons p r ih =>
   rw [List.lookup_cons] at e
   cases q : (b == p.1) with
   | true =>
    rw [q] at e
    exact ⟨p, List.mem_cons_self, Option.some.inj e⟩
   | false =>
    rw [q] at e
    obtain ⟨p', h1, h2⟩ := ih e
    exact ⟨p', List.mem_cons_of_mem _ h1, h2⟩
 obtain ⟨p, h1, h2⟩ := hm
 have h3 := List.all_eq_true.mp h p h1
 rw [h2, z] at h3
 exact absurd h3 (by decide)
structure AtEnd (K : PySem.W.Frag) (mg mb : Str → Option Value) (cs : List (Addr × Addr)) (h : Heap) : Prop where
 X : K.In h
 g : h.Ns mainGlobals mg
 b : h.Ns builtinsNs mb
 bb : ∀ x : Str, x ≠ "__name__" → mb x = bootBuiltins x
 nolim : h.NoLimit
 code : ∀ p ∈ cs, PySem.W.CodeHd h p.1 p.2
 tab : ∀ p ∈ cs, h.get? p.2 = some (PySem.W.tabObj #[])
 bm : ∃ bm ob, mg "__builtins__" = some (.ref bm) ∧ bm ≠ builtinsNs ∧ h.get? bm = some ob ∧ ob.cls = .type "module" ∧ ob.dict = some builtinsNs ∧ ob.data = .plain
theorem law_endG {P : Program} {w : World} {K : PySem.W.Frag} {mg mb : Str → Option Value} {k : Nat} {fa a : Addr} {cs : List (Addr × Addr)} {T : List (Addr × Str)} {fd : FuncData} {x : Str} {sp : SpP} {s1 : Shared} {vs : List Value} {ns : List Int}
  (t : AtEnd K mg mb cs s1.heap) (nl : NoList K = true) (nK : ∀ p ∈ cs, K.lookup p.2 = none) (hTT : ∀ p ∈ T, p.1 ∈ cs.map (·.2)) (gn : s1.gens = #[])
  (ha : s1.heap.get? a = some { cls := .type "list", data := .seq vs.toArray }) (hi : IntsAre vs ns) (hl : ns.length ≤ sizeLine) (hr : Room k callerA)
  (F : ∀ base : Heap, K.In base → base.Ns mainGlobals mg → (∀ p ∈ cs, LamX.TabB base mg p.1 p.2) → FnG P w K mg base k fa fd [x] (upSp K T sp)) (hb : ∀ (s : Shared) (u : Value), BindsTo s fd ⟨[u], []⟩ [(x, u)])
  (hsp : sp [.scr ns] fun z => z = .bl true) :
  codeAny (model P w) callerA (.call (.ref fa) ⟨[.ref a], []⟩) (fun r s' => r = .ok (.ret (.bool true)) ∧ OldK s1.heap s'.heap ∧ s'.os = s1.os ∧ AllBare s'.gens) s1 := by
 let ts := cs.map (·.2)
 let ob : Obj := { cls := .type "list", data := .seq vs.toArray }
 let H : Hp := trk0 ts a ob (.lst (ns.map V.int))
 have isT : ∀ b ∈ ts, s1.heap.get? b = some (PySem.W.tabObj #[]) := fun b hb => by
  obtain ⟨p, hp, e⟩ := List.mem_map.mp hb
  rw [← e]; exact t.tab p hp
 have aT : a ∉ ts := fun z => by
  have q := (isT a z).symm.trans ha
  cases q
 have tA : ∀ b ∈ ts, b ≠ a := fun b hb z => aT (z ▸ hb)
 have kA : K.lookup a = none := by
  cases q : K.lookup a with
  | none => rfl
  | some o =>
   have e := (t.X a o q).symm.trans ha
   cases e
   exact absurd rfl (noList_at nl q)
 have kT : ∀ b ∈ ts, K.lookup b = none := fun b hb => by
  obtain ⟨p, hp, e⟩ := List.mem_map.mp hb
  rw [← e]; exact nK p hp
 -- an object that is neither the script nor a table
 have out : ∀ {b : Addr} {o : Obj}, s1.heap.get? b = some o → (∀ vs n, o.data ≠ .seq vs n) → o.data ≠ .fields #[] → H b = none := fun {b o} e h1 h2 => by
  refine trk0_n (fun z => ?_) fun z => ?_
  ·rw [z, ha] at e; cases e; exact h1 _ _ rfl
  ·rw [isT b z] at e; cases e; exact h2 rfl
 have toBase : ∀ {b : Addr} {o : Obj}, s1.heap.get? b = some o → (∀ vs n, o.data ≠ .seq vs n) → o.data ≠ .fields #[] → (hidT s1.heap H).get? b = some o := fun e h1 h2 => hidT_get e (out e h1 h2)
 have nsB : ∀ {b : Addr} {m : Str → Option Value}, s1.heap.Ns b m → (hidT s1.heap H).Ns b m := fun {b m} ⟨o, es, ep, e, d, r⟩ => ⟨o, es, ep, toBase e (fun vs n z => by rw [d] at z; cases z) (fun z => by rw [d] at z; cases z), d, r⟩
 have KB : K.In (hidT s1.heap H) := fun b o e => hidT_get (t.X b o e) (by
  refine trk0_n (fun z => ?_) fun z => ?_
  ·rw [z, kA] at e; cases e
  ·rw [kT b z] at e; cases e)
 have M : L2.Mod K mg (hidT s1.heap H) := ⟨KB, nsB t.g, ⟨mb, nsB t.b, t.bb⟩, let ⟨mc, h1, h2⟩ := t.nolim; ⟨mc, nsB h1, h2⟩⟩
 have TB : ∀ p ∈ cs, LamX.TabB (hidT s1.heap H) mg p.1 p.2 := fun p hp => by
  have e2 := t.tab p hp
  refine ⟨?_, ?_, fun z => ?_⟩
  ·obtain ⟨o, us, file, tf, flags, tg, inF, text, tt, e1, r1, r2, r3, r⟩ := t.code p hp
   exact ⟨o, us, file, tf, flags, tg, inF, text, tt, toBase e1 (fun vs n z => by rw [r2] at z; cases z) (fun z => by rw [r2] at z; cases z; simp at r3), r1, r2, r3, r⟩
  ·obtain ⟨m, om, b1, b2, b3, b4, b5, b6⟩ := t.bm
   refine ⟨m, om, b1, b2, fun q => ?_, fun q => ?_, toBase b3 (fun vs n z => by rw [b6] at z; cases z) (fun z => by rw [b6] at z; cases z), b4, b5, b6⟩
   ·obtain ⟨o, es, ep, e, hd, _⟩ := t.g
    rw [q, e] at b3; cases b3; rw [hd] at b6; cases b6
   ·rw [q, e2] at b3; cases b3; cases b6
  ·obtain ⟨o, es, ep, e, hd, _⟩ := t.g
   rw [z, e2] at e; cases e; cases hd
 have rv := vals_ints hi
 have hok : HOk P w H s1.heap := fun b u e => by
  by_cases hba : b = a
  ·rw [hba] at e ⊢
   obtain rfl : _ = u := Option.some.inj (trk0_a.symm.trans e)
   exact ⟨ha, by rw [List.length_map]; exact hl, vs, _, rv, ha⟩
  ·by_cases hbt : b ∈ ts
   ·obtain rfl : _ = u := Option.some.inj ((trk0_t hba hbt).symm.trans e)
    exact isT b hbt
   ·have z := (trk0_n (o := ob) (u := .lst (ns.map V.int)) hba hbt).symm.trans e
    cases z
 have e0 : Env0 P w K mg (hidT s1.heap H) callerA [] s1 H := ⟨rfl, M, fun b o e => of_hidT e, Nat.le_of_eq (hidT_size _ _), trivial, (fun b z => absurd (show b ∈ ([] : List Addr) from z) (by simp)), hok, .of_eq gn⟩
 have hT0 : LamX.Tabs T H := fun p hp => ⟨#[], trk0_t (tA _ (hTT p hp)) (hTT p hp), trivial, fun pos cv z => by cases z⟩
 have promise : upSp K T sp [.ref a] H (fun v _ => v = .bl true) fun _ _ _ => False := by
  refine ⟨fun _ => False, [.scr ns], fun z => z = .bl true, fun b z => z.elim, hT0, ?_, hsp, fun z v H' e _ _ r => ?_⟩
  ·unfold Reps
   refine ⟨.ref a, [], rfl, ?_, ?_⟩
   ·unfold Rep
    exact ⟨a, ob, rfl, id, trk0_a⟩
   ·unfold Reps
    rfl
  ·subst e
   exact r.bl_
 refine codeAny_mono ((F _ KB (nsB t.g) TB).run callerA [] s1 H ⟨[.ref a], []⟩ [.ref a] [.ref a] _ _ rfl hr e0 (hb s1 (.ref a)) (.cons rfl .nil) promise) fun r s' h => ?_
 match r, h with
 | .error e, h => exact h.elim
 | .ok (.ret u), ⟨v, H', os, bare, un, hok', r', q⟩ =>
  have q' : v = .bl true := q
  subst q'
  obtain rfl : u = Value.bool true := r'
  have same : ∀ b o, b ∉ ts → s1.heap.get? b = some o → s'.heap.get? b = some o := fun b o nb e => by
   by_cases hba : b = a
   ·have z2 := un.frzs b ob (.lst (ns.map V.int)) (by rw [hba]; exact trk0_a)
    rw [hba] at e z2 ⊢
    rw [ha] at e; cases e
    exact (hok' a _ z2).1
   ·exact un.keep b o e (trk0_n hba nb) (by intro z; exact absurd (show b ∈ ([] : List Addr) from z) (by simp)) (by simp)
  have more : ∀ b ∈ ts, ∃ m : Array Value, s'.heap.get? b = some (PySem.W.tabObj m) := fun b hb => by
   obtain ⟨m, z⟩ := un.tbls b #[] (trk0_t (tA b hb) hb)
   exact ⟨_, hok' b _ z⟩
  refine ⟨rfl, ⟨fun b o e => ?_, fun b o e => ?_⟩, os, bare⟩
  ·by_cases hb : b ∈ ts
   ·obtain ⟨m, hm⟩ := more b hb
    rw [isT b hb] at e; cases e
    obtain ⟨p, hp, ep⟩ := List.mem_map.mp hb
    refine .inr (.inl ⟨?_, rfl, #[], m, rfl, by rw [Array.empty_append]; exact hm⟩)
    rw [← ep]
    exact ((t.code p hp).tab (t.tab p hp)).isCodeTable
   ·exact .inl (same b o hb e)
  ·by_cases hb : b ∈ ts
   ·obtain ⟨m, hm⟩ := more b hb
    exact ⟨_, hm⟩
   ·exact ⟨o, same b o hb e⟩
def LawG (l : PySem.W.OpenLaw) (w : World) (K : PySem.W.Frag) (k n : Nat) (x : Str) (mg : Str → Option Value) (fa : Addr) (h : Heap) : Prop :=
 ∃ (fd : FuncData) (cs : List (Addr × Addr)) (T : List (Addr × Str)) (sp : SpP), (∀ p ∈ cs, PySem.W.CodeHd h p.1 p.2) ∧ (∀ p ∈ cs, h.get? p.2 = some (PySem.W.tabObj #[])) ∧ (∀ p ∈ cs, K.lookup p.2 = none) ∧ NoList K = true ∧ (∀ p ∈ T, p.1 ∈ cs.map (·.2)) ∧
  (∀ (s : Shared) (u : Value), BindsTo s fd ⟨[u], []⟩ [(x, u)]) ∧ (∀ ns : List Int, ns.length ≤ n → (∀ z ∈ ns, Builtin.Int.intBits z ≤ 1048576) → sp [.scr ns] fun z => z = .bl true) ∧
  ∀ base : Heap, K.In base → base.Ns mainGlobals mg → (∀ p ∈ cs, LamX.TabB base mg p.1 p.2) → FnG l.prog w K mg base k fa fd [x] (upSp K T sp)
theorem walkG {l : PySem.W.OpenLaw} {n k : Nat} {q : Program} {loose : List Str} {XP : (Str → Option Value) → Heap → Prop} {YP : World → Heap → Prop} {d : DefRec} {K : Params → PySem.W.Frag} {x : Str}
  (hn : l.most = some n) (hn2 : n ≤ sizeLine) (hdf : d.params.defaults = []) (hr : Room k callerA) (hY : ∀ (w : World) (h : Heap), YP w h → (K w.params).In h)
  (F : ∀ (w : World) (mg : Str → Option Value) (fa : Addr) (h : Heap), YP w h → (K w.params).In h → h.Ns mainGlobals mg → mg d.name = some (.ref fa) → LawG l w (K w.params) k n x mg fa h) :
  PySem.W.WalkO q loose XP YP l.row.toRowW d [] (fun f vs => PySem.call f vs) := by
 refine Att.attach_callB hn hdf fun w s0 s1 mg mb fa o pm cd doc a vs ns G Y ho hd hcd hmg hobj hints hlen hbits hg => ?_
 obtain ⟨fd, cs, T, sp, hC, hT, nT, nl, hTT, hb, hsp, hF⟩ := F w mg fa _ Y (hY w _ Y) G.T.g hmg
 exact law_endG ⟨hY w _ Y, G.T.g, G.T.b, G.T.builtins, G.T.nolimit, hC, hT, G.T.bmain⟩ nl nT hTT hg hobj hints (Nat.le_trans hlen hn2) hr hF hb (hsp ns hlen hbits)
end Z
namespace Z
open PySem PySem.Spec L2 PySem.Calls
open PyProof.Rows hiding St
structure OwnC (K : PySem.W.Frag) (C fE fL fS : Addr) : Prop where
 t : ClsT K C
 eq : PySem.W.findIn K (.ref C) "__eq__" = some (some (.ref fE))
 eqf : PySem.W.isFn K (.ref fE) = true
 ne : PySem.W.findIn K (.ref C) "__ne__" = some (some (.builtin "object.__ne__"))
 len : PySem.W.findIn K (.ref C) "__len__" = some (some (.ref fL))
 lenf : PySem.W.isFn K (.ref fL) = true
 bool : PySem.W.findIn K (.ref C) "__bool__" = some none
 str : PySem.W.findIn K (.ref C) "__str__" = some (some (.ref fS))
 strf : PySem.W.isFn K (.ref fS) = true
 nf : ∀ n : String, n ∈ ["NoneType", "int", "bool", "str", "tuple", "list", "dict"] → PySem.W.notFirst K C (.type n) = true
end Z
namespace Z
open PySem PySem.Spec L2 PySem.Calls
open PyProof.Rows hiding St
section
variable {X : Cx} {T : List (Addr × Str)} {k : Nat} {C fE fL fS f : Addr} {fd : FuncData} {ps ks : List Str} {sp : SpP} {sr : SpR} {a b e : Expr} {es : List Expr} {ta tb : TEp} {t tk : TAp} {pos p : Pos} {x : Str} {kws : List Keyword}
end
def LowS (x : Str) : Prop := ∀ c ∈ x.cps.toList, 97 ≤ c ∧ c ≤ 122
abbrev Row3 := Str × Int × Int
structure GoodR (r : Row3) : Prop where
 low : LowS r.1
 s0 : 0 ≤ r.2.1
 e0 : 0 ≤ r.2.2
def joinL : List (List Nat) → List Nat
 | [] => []
 | [x] => x
 | x :: y :: r => x ++ 44 :: 32 :: joinL (y :: r)
end Z
namespace Z
open PySem PySem.Spec L2 StX
open PyProof.Rows hiding St
section
variable {X : Cx} {T : List (Addr × Str)} {e : Expr} {es : List Expr} {te : TEp} {t : TAp} {pos p : Pos}
def rSlA : PV → Option Int → Option Int → (PV → Prop) → Prop := fun x lo hi P => match x with
 | .tup xs => P (.tup (cutP xs lo hi))
 | _ => False
theorem cut_whole {α : Type} {xs : List α} {lo hi : Option Int} (h : HT.sIx xs.length 0 lo = 0 ∧ HT.sIx xs.length xs.length hi = xs.length) : cutP xs lo hi = xs := by
 unfold cutP
 rw [h.1, h.2, List.drop_zero, Nat.sub_zero, List.take_length]
theorem zl_slA : SlR X (fun x lo hi H Q => ∃ O px P, Trk O H ∧ Rep X.K O H px x ∧ rSlA px lo hi P ∧ Out X.K O H P Q) := by
 refine SlR.weak (sl_tupA (X := X)) fun x lo hi H Q h => ?_
 obtain ⟨O, px, P, tr, hx, h, k⟩ := h
 unfold rSlA at h
 split at h
 ·rename_i xs
  have hx' := hx
  obtain ⟨a, vs, rfl, q, rr⟩ := hx.tup_
  refine ⟨a, vs, rfl, q.sq, fun w => ?_, fun _ p hp => k.newT h tr (cut_reps rr) hp⟩
  rw [rr.len] at w
  rw [cut_whole w] at h
  exact k _ _ H h (fun _ _ z => z) hx'
 ·cases h
def tSliceAP (te : TEp) (tl th : TOp) : TEp := fun η P => te η fun x η1 => tl η1 fun l η2 => th η2 fun u η3 => rSlA x l u fun z => P z η3
theorem z_sliceA {lo hi : Option Expr} {tl th : TOp} {p2 : Pos} (he : PE X e (up X.K T te)) (hl : PO X lo (upO X.K T tl)) (hu : PO X hi (upO X.K T th)) : PE X (.Subscript e (.Slice lo hi none p2) pos) (up X.K T (tSliceAP te tl th)) := by
 refine PE.weak (pe_slice zl_slA he hl hu) fun σ H Q q => ?_
 obtain ⟨F, η, P, R, h, k⟩ := q
 refine ⟨F, η, _, R, h, fun x η1 v H1 h1 e1 R1 r1' => ⟨F, η1, _, R1, h1, fun l η2 H2 h2 e2 R2' => ⟨F, η2, _, R2', h2, fun u η3 H3 h3 e3 R3 => ?_⟩⟩⟩
 exact ⟨Oof F σ η3, x, _, R3.trO, (r1'.car e2.car).car e3.car, h3, fun z u H4 pz s rz => k z η3 u H4 pz (((e1.trans e2).trans e3).trans (.same s)) (R3.same s) rz⟩
end
theorem reps_rev {K : PySem.W.Frag} {O : Addr → Prop} {H : Hp} : ∀ {zs : List PV} {vs : List V}, Reps K O H zs vs → Reps K O H zs.reverse vs.reverse
 | [], _, h => by cases h.inv0; exact .nil
 | x :: xs, _, h => by
  obtain ⟨v, us, rfl, r, t⟩ := h.inv
  rw [List.reverse_cons, List.reverse_cons]
  exact (reps_rev t).app (.cons r .nil)
theorem val_weak {K : PySem.W.Frag} {T : List (Addr × Str)} {tf : TFp} {σ : St} {H : Hp} {Q : VK} (q : up K T (tValP tf) σ H Q) : upF K T tf σ H Q := by
 obtain ⟨F, η, P, R, h, k⟩ := q
 refine ⟨F, η, _, R, h, fun xs η' a vs H' h1 e1 R1 hn nf hv r => ?_⟩
 refine k _ _ _ _ h1 e1 (R1.shrink fun b z => .inl z) ?_
 unfold Rep
 refine ⟨a, vs, rfl, fun z => ?_, hv, r.mono fun b z => z.elim (fun z => .inl (.inl z)) .inr⟩
 rcases z with z | ⟨j, p, h1, h2⟩
 ·exact nf z
 ·obtain ⟨b, q1, q2, q3⟩ := R1.ow j p h2
  rw [h1] at q1; cases q1
  exact q3 (.inr rfl)
theorem z_setLc {X : Cx} {T : List (Addr × Str)} {y : Str} {py : Pos} {elt tg iter : Expr} {ifs : List Expr} {scope : Scope} {own : List (Str × Nat)} {pos spos : Pos} {i : Nat} {ti : TIp} {g : TGp} {tt : TTp} {te : TEp}
  (pf : PS X (.Assign [.Name y py] (.ListComp elt [⟨tg, iter, ifs, 0⟩] scope pos) spos) (tAsg (tLc (upI X.K T ti) (upGw X.K T (own.map (·.2)) g) (upB X.K T tt) (up X.K T te) (own.map (·.2))) (gName i))) :
  PS X (.Assign [.Name y py] (.ListComp elt [⟨tg, iter, ifs, 0⟩] scope pos) spos) (upS X.K T (tSetP i (tValP (tLcP ti g tt te (own.map (·.2)))))) := by
 refine PS.weak pf fun D σ H q => lc_weak (val_weak ?_)
 obtain ⟨F, η, D', R, h, k1, k2, k3, k4⟩ := q
 exact ⟨F, η, _, R, h, fun x η1 v H1 h1 e1 R1 r => k1 _ _ _ h1 (e1.trans .setv) (R1.setv r)⟩
end Z
namespace Z
open PySem PySem.Spec L2 GenW
open PyProof.Rows hiding St
end Z
namespace Z
open PySem PySem.Spec L2 GenW
open PyProof.Rows hiding St
def intsOf : List PV → Option (List Int)
 | [] => some []
 | .int i :: r => (intsOf r).map (i :: ·)
 | _ => none
theorem intsOf_map : ∀ ns : List Int, intsOf (ns.map .int) = some ns
 | [] => rfl
 | n :: ns => by rw [List.map_cons, intsOf, intsOf_map ns]; rfl
def maxI (d : Int) : List Int → Int
 | [] => d
 | n :: ns => PySem.W.maxOf n ns
end Z
namespace Z
open PySem PySem.Spec L2 StX
open PyProof.Rows hiding St
def flV : PV → Option V
 | .non => some .non
 | .bl b => some (.bl b)
 | .int i => some (.int i)
 | .str z => some (.str z)
 | _ => none
def flVs : List PV → Option (List V)
 | [] => some []
 | x :: r => (flV x).bind fun v => (flVs r).map (v :: ·)
theorem flV_rep {K : PySem.W.Frag} {O : Addr → Prop} {H : Hp} {x : PV} {v w : V} (h : Rep K O H x v) (e : flV x = some w) : v = w ∧ flatV w = true := by
 cases x <;> unfold flV at e <;> cases e
 ·exact ⟨h.non_, rfl⟩
 ·exact ⟨h.bl_, rfl⟩
 ·exact ⟨h.int_, rfl⟩
 ·exact ⟨h.str_, rfl⟩
theorem flVs_rep {K : PySem.W.Frag} {O : Addr → Prop} {H : Hp} : ∀ {xs : List PV} {vs ws : List V}, Reps K O H xs vs → flVs xs = some ws → vs = ws ∧ ws.all flatV = true
 | [], _, _, r, e => by cases r.inv0; cases e; exact ⟨rfl, rfl⟩
 | x :: xs, _, ws, r, e => by
  obtain ⟨v, vs, rfl, r1, r2⟩ := r.inv
  rw [flVs] at e
  obtain ⟨u, e1, e2⟩ := Option.bind_eq_some_iff.mp e
  obtain ⟨us, e3, rfl⟩ := Option.map_eq_some_iff.mp e2
  obtain ⟨a1, a2⟩ := flV_rep r1 e1
  obtain ⟨b1, b2⟩ := flVs_rep r2 e3
  exact ⟨by rw [a1, b1], by rw [List.all_cons, a2, b2]; rfl⟩
def itemsOf : PV → Option (List PV)
 | .lst xs => some xs
 | .tup xs => some xs
 | _ => none
def rInL (neg : Bool) : R2p := fun x y P => ∃ v ys vs, flV x = some v ∧ itemsOf y = some ys ∧ flVs ys = some vs ∧ P (.bl (if neg then !inV v vs else inV v vs))
section
variable {X : Cx}
theorem inL_raw {neg : Bool} : ∀ x y H Q, r2 X.K (rInL neg) x y H Q → rIn X.K neg x y H Q := fun x y H Q h => by
 obtain ⟨O, px, py, P, tr, hx, hy, ⟨v, ys, vs, e1, e2, e3, h⟩, k⟩ := h
 obtain ⟨rfl, f1⟩ := flV_rep hx e1
 cases py <;> unfold itemsOf at e2 <;> cases e2
 ·obtain ⟨a, us, rfl, q, rr⟩ := hy.tup_
  obtain ⟨rfl, f2⟩ := flVs_rep rr e3
  exact ⟨a, us, rfl, .inr q.sq, f1, f2, k.bl h⟩
 ·obtain ⟨a, us, rfl, n, q, rr⟩ := hy.lst_
  obtain ⟨rfl, f2⟩ := flVs_rep rr e3
  exact ⟨a, us, rfl, .inl (SqL.of q), f1, f2, k.bl h⟩
theorem zo_notInL : OpR X (compareOp .NotIn) (r2 X.K (rInL true)) := OpR.weak (op_notIn_seq (X := X)) inL_raw
end
end Z
namespace Z
open PySem PySem.Spec L2 StX
open PyProof.Rows hiding St
section
variable {X : Cx} {T : List (Addr × Str)} {es : List Expr} {pos : Pos} {k : Nat}
def gLstP (n : Nat) (t : TGsp) : TGp := fun x η P => match x with
 | .lst xs => xs.length = n ∧ t xs η P
 | _ => False
theorem zg_lst {n : Nat} {t : TGsp} (pf : PG X (.Tuple es k pos) (gLst X.K n (upGs X.K T t))) : PG X (.Tuple es k pos) (upG X.K T (gLstP n t)) := by
 refine PG.weak pf fun v σ H Q q => ?_
 obtain ⟨F, η, x, P, R, r, h, k⟩ := q
 unfold gLstP at h
 split at h
 ·obtain ⟨a, us, rfl, na, q', rr⟩ := r.lst_
  exact ⟨a, us, rfl, SqL.of q', by rw [rr.len]; exact h.1, F, η, _, P, R, rr, h.2, k⟩
 ·cases h
end
end Z
namespace Z
open PySem PySem.Spec L2 StX
open PyProof.Rows hiding St
def pick {α : Type} (is : List Nat) (xs : List α) : List α := is.filterMap fun i => xs[i]?
theorem vals_get : ∀ {zs : List V} {ws : List Value} {i : Nat}, Vals zs ws → (zs[i]? = none ∧ ws[i]? = none) ∨ ∃ z w, zs[i]? = some z ∧ ws[i]? = some w ∧ RelV z w
 | _, _, i, .nil => .inl ⟨by simp, by simp⟩
 | _, _, 0, .cons r t => .inr ⟨_, _, rfl, rfl, r⟩
 | _, _, i + 1, .cons r t => by
  simpa using vals_get (i := i) t
theorem vals_pick : ∀ (is : List Nat) {zs : List V} {ws : List Value}, Vals zs ws → Vals (pick is zs) (pick is ws)
 | [], _, _, _ => .nil
 | i :: is, zs, ws, h => by
  unfold pick
  rcases vals_get (i := i) h with ⟨h1, h2⟩ | ⟨z, w, h1, h2, r⟩
  ·rw [List.filterMap_cons_none h1, List.filterMap_cons_none h2]; exact vals_pick is h
  ·rw [List.filterMap_cons_some h1, List.filterMap_cons_some h2]; exact .cons r (vals_pick is h)
theorem reps_pick {K : PySem.W.Frag} {O : Addr → Prop} {H : Hp} : ∀ (is : List Nat) {zs : List PV} {vs : List V}, Reps K O H zs vs → Reps K O H (pick is zs) (pick is vs)
 | [], _, _, _ => .nil
 | i :: is, zs, vs, h => by
  unfold pick
  cases e : zs[i]? with
  | some x =>
   obtain ⟨v, h1, h2⟩ := h.get e
   rw [List.filterMap_cons_some e, List.filterMap_cons_some h1]
   exact .cons h2 (reps_pick is h)
  | none =>
   have e2 : vs[i]? = none := by
    rw [List.getElem?_eq_none_iff] at e ⊢
    rw [h.len]; exact e
   rw [List.filterMap_cons_none e, List.filterMap_cons_none e2]
   exact reps_pick is h
structure KwB (K : PySem.W.Frag) (fd : FuncData) (ps : List Str) (n : Nat) (ks : List Str) (is : List Nat) : Prop where
 to : ∀ (s : Shared) (us ws : List Value), K.In s.heap → us.length = n → ws.length = ks.length → BindsTo s fd ⟨us, ks.zip ws⟩ (ps.zip (us ++ pick is ws))
 ln : n + is.length = ps.length ∧ ∀ i ∈ is, i < ks.length
def tCallKV (sp : Sp) (n nk : Nat) (is : List Nat) (E : XK) (t tk : TA) : TE := fun σ H Q => t σ H fun vs H1 => tk σ H1 fun zs H2 => vs.length = n ∧ zs.length = nk ∧ sp (vs ++ pick is zs) H2 Q E
section
variable {X : Cx} {CX : CXT} {k n : Nat} {f : Addr} {fd : FuncData} {ps ks : List Str} {sp : Sp} {E : XK} {is : List Nat}
theorem run_kw {pins : List (Addr × Obj)} {σ : St} {H : Hp} {s : Shared} {Q : VK} {us ws : List Value} {vs zs : List V} (F : FnOk X.prog X.w X.K X.mg X.base CX k f fd ps sp) (hr : Room k X.A) (hb : KwB X.K fd ps n ks is) (hx : Passes CX X E)
  (I : Inv X pins σ H s) (r : Vals vs us) (rz : Vals zs ws) (l1 : vs.length = n) (l2 : zs.length = ks.length) (h : sp (vs ++ pick is zs) H Q E) : wpAny (model X.prog X.w) X.A (call (.ref f) us (ks.zip ws)) (EP X pins σ Q) X.xe s := by
 have b := hb.to s us ws I.kIn (by rw [← r.length]; exact l1) (by rw [← rz.length]; exact l2)
 refine wpAny_call (codeAny_mono (F.run X.A X.stack s H ⟨us, ks.zip ws⟩ (us ++ pick is ws) (vs ++ pick is zs) Q E hr I.env0 b (r.append (vals_pick is rz)) h) fun q s' hq => ?_)
 cases q with
 | error e => exact hx pins σ H s e s' I hq
 | ok z =>
  cases z with
  | ret u => exact I.after hq
  | next => exact hq.elim
  | brk => exact hq.elim
  | cont => exact hq.elim
end
section
variable {X : Cx} {CX : CXT} {k n : Nat} {C f : Addr} {sp : Sp} {E : XK} {o e : Expr} {es : List Expr} {m x : Str} {pos apos p : Pos} {ta : TE} {t tk : TA} {pl : Sem Bool} {fd : FuncData} {ps ks : List Str} {kws : List Keyword} {is : List Nat}
theorem pe_callKw0 (F : FnOk X.prog X.w X.K X.mg X.base CX k f fd ps sp) (hr : Room k X.A) (hg : Gl X x) (hm : X.mg x = some (.ref f)) (hk : PySem.W.keepIn X.K (.ref f) = true) (hb : KwB X.K fd ps 0 ks is) (hx : Passes CX X E) (hkw : PK X kws tk)
  (hall : (backToKw pos (keywordEach kws X.env)).all (·.1.isSome) = true := by rfl) (hks : (backToKw pos (keywordEach kws X.env)).filterMap (·.1) = ks := by rfl) (hdb : (x == ("__debug__" : Str)) = false := by decide)
  (hpl : ((backTo pos (starEach [] X.env)).any (·.1) || (backToKw pos (keywordEach kws X.env)).any (·.1.isNone)) = false := by rfl) :
  PE X (.Call (.Name x p) [] kws pos) (tCallKV sp 0 ks.length is E tNil tk) := by
 refine ⟨fun pins s σ H Q I h => wpAny_Call_Name_kw (ld_glob I hg hm ?_ hdb)⟩
 refine PySem.W.callWith_KW0 (h₀ := X.base) (first := []) I.ok.mod.kin hk hall (thn (hkw.run pos pins s σ H _ I h) fun ws s2 ⟨zs, H2, I2, rz, _, l2, q2⟩ => ⟨I2.kIn, ?_⟩) hpl
 rw [hks]
 exact run_kw (us := []) (vs := []) F hr hb hx I2 .nil rz rfl l2 q2
end
section
variable {X : Cx} {T : List (Addr × Str)} {k n nk : Nat} {C f : Addr} {sp : SpP} {o e : Expr} {m : Str} {ta : TEp} {t tk : TAp} {is : List Nat}
def tCallKP (sp : SpP) (n nk : Nat) (is : List Nat) (t tk : TAp) : TEp := fun η P => t η fun args η1 => tk η1 fun zs η2 => args.length = n ∧ zs.length = nk ∧ sp (args ++ pick is zs) fun z => P z η2
theorem z_callK0 (pf : PE X e (tCallKV (upSp X.K T sp) n nk is E0 tNil (upA X.K T tk))) : PE X e (up X.K T (tCallKP sp n nk is tNilP tk)) := PE.weak pf fun σ H Q q => by
 obtain ⟨F, η, P, R, h, k⟩ := q
 refine ⟨F, η, _, R, h, fun zs η3 us H3 h3 e3 R3 r3 => ?_⟩
 exact ⟨h3.1, by rw [r3.len]; exact h3.2.1, Oof F σ η3, _, _, R3.trO, R3.tb, reps_pick is r3, h3.2.2, fun z v H4 pz g tb rz => k z η3 v H4 pz (e3.trans g.ext) (R3.gr g tb) rz⟩
end
end Z
namespace Z
open PySem
open Sem (wp)
def stung : GenState → GenState
 | .suspended _ l c p fs _ => .suspended (fun _ => .unsupported "") l c p fs false
 | x => x
def sleeps : GenState → Bool
 | .suspended .. => true
 | _ => false
def isGenF : Frame → Bool
 | .gen .. => true
 | _ => false
def NoG (fs : List Frame) : Prop := ∀ F ∈ fs, isGenF F = false
def NoGS : GenState → Prop
 | .suspended _ _ _ _ fs _ => NoG fs
 | _ => True
def pickG (y : Option GenState) (x : GenState) : GenState := match y with
 | some y => if sleeps y = true then y else x
 | none => x
def un (G : Array GenState) (s : Shared) : Shared := { s with gens := s.gens.mapIdx fun i x => pickG G[i]? x }
structure Good (G : Array GenState) (s : Shared) : Prop where
 sz : G.size ≤ s.gens.size
 sl : ∀ (i : Nat) (y : GenState), G[i]? = some y → sleeps y = true → s.gens[i]? = some (stung y)
 no : ∀ (i : Nat) (x : GenState), (∀ y, G[i]? = some y → sleeps y = false) → s.gens[i]? = some x → NoGS x
section
variable {G : Array GenState} {s : Shared}
theorem Good.of {s' : Shared} (g : Good G s) (e : s'.gens = s.gens) : Good G s' := ⟨by rw [e]; exact g.sz, by rw [e]; exact g.sl, by rw [e]; exact g.no⟩
end
end Z
namespace Z
open PySem L2
open Sem (wp)
open PyProof.Rows hiding St
section
variable {M : Model} {G : Array GenState}
def Still (G : Array GenState) (s : Shared) : Prop := ∀ (i : Nat) (y : GenState), G[i]? = some y → sleeps y = true → s.gens[i]? = some y
end
end Z
namespace Z
open PySem PySem.Spec L2 GenW
open PyProof.Rows hiding St
structure WRel (it L : Addr) (s0 s : Shared) : Prop where
 os : s.os = s0.os
 gens : s.gens = s0.gens
 keep : ∀ b o, b ≠ it → b ≠ L → s0.heap.get? b = some o → s.heap.get? b = some o
def TupQ (qs : List V) (q : Addr) (h : Heap) : Prop := ∃ its : List Value, Vals qs its ∧ h.IsTuple q its.toArray
structure WAt (it L q : Addr) (i : Nat) (h : Heap) : Prop where
 ns : ∃ m, h.Ns L m
 it : h.IsTupleIter it q i
def YW (it L q : Addr) (qs : List V) (N : Nat) : Protocol := fun n s0 v s1 kap =>
 ∃ i x, n + (i + 1) = N ∧ qs[i]? = some x ∧ RelV x v ∧ WRel it L s0 s1 ∧ WAt it L q (i + 1) s1.heap ∧ ∀ s'', WAt it L q (i + 1) s''.heap → TupQ qs q s''.heap → kap (.send .none) s'' ∧ kap (.send (.bool true)) s''
def FW (it L : Addr) (qs : List V) (N n : Nat) (s0 s1 : Shared) : Prop := N = n + qs.length ∧ WRel it L s0 s1
def RW (it L : Addr) (qs : List V) (N : Nat) : GenEnd := fun n s0 r s1 => ((r = .ok (.ret .none) ∨ r = .ok .next) ∧ FW it L qs N n s0 s1) ∨ ∃ e, r = .error e ∧ False
theorem WRel.refl {it L : Addr} {s : Shared} : WRel it L s s := ⟨rfl, rfl, fun _ _ _ _ e => e⟩
theorem WRel.trans {it L : Addr} {s0 s1 s2 : Shared} (a : WRel it L s0 s1) (b : WRel it L s1 s2) : WRel it L s0 s2 := ⟨b.os.trans a.os, b.gens.trans a.gens, fun c o h1 h2 e => b.keep c o h1 h2 (a.keep c o h1 h2 e)⟩
theorem WRel.toks {it L : Addr} {s0 s : Shared} {t : Nat} (a : WRel it L s0 s) : WRel it L s0 { s with toks := t } := ⟨a.os, a.gens, a.keep⟩
section
variable {prog : Program} {w : World} {A : Around} {env : Env} {it L q : Addr} {qs : List V} {p1 p2 p3 p4 p5 p6 p7 : Pos}
abbrev wBody (p4 p5 p6 : Pos) : List Stmt := [.Expr (.Yield (some (.Name "row" p4)) p5) p6]
abbrev wFor (p1 p2 p3 p4 p5 p6 p7 : Pos) (f : Str) : Stmt := .For (.Name "row" p1) (.Attribute (.Name "self" p2) f p3) (wBody p4 p5 p6) [] p7
end
end Z
namespace Z
open PySem PySem.Spec L2 GenW
open PyProof.Rows hiding St
section
variable {P : Program} {w : World} {A : Around} {a it L q : Addr} {g : Nat} {qs : List V}
structure GAt (P : Program) (w : World) (A : Around) (a it L q : Addr) (g : Nat) (qs : List V) (i : Nat) (s : Shared) : Prop where
 gs : ∃ gs : GenState, s.gens[g]? = some gs ∧ sleeps gs = true ∧ gs.bare = true ∧ ∀ s'', WAt it L q i s''.heap → TupQ qs q s''.heap → gs.Goes (model P w) A.in1 (RW it L qs qs.length) (YW it L q qs qs.length) (qs.length - i) (.send .none) s''
 at_ : WAt it L q i s.heap
 gen : s.heap.IsGen a g
structure GStep (it L : Addr) (g : Nat) (s s1 : Shared) : Prop where
 os : s1.os = s.os
 bare : AllBare s.gens → AllBare s1.gens
 keep : ∀ b o, b ≠ it → b ≠ L → s.heap.get? b = some o → s1.heap.get? b = some o
end
end Z
set_option maxHeartbeats 1000000
namespace Z
open PySem PySem.Spec L2 GenW
open PyProof.Rows hiding St
structure WNew (P : Program) (w : World) (fl : Str) (o a L : Addr) (g : Nat) (s : Shared) : Prop where
 gen : s.heap.IsGen a g
 gs : ∃ env p1 p2 p3 p4 p5 p6 p7, s.gens[g]? = some (.fresh (.func [wFor p1 p2 p3 p4 p5 p6 p7 fl] env)) ∧ env.scope.kind = .function ∧ env.kindOf "self" = some .local ∧ env.kindOf "row" = some .local ∧ env.scope.isCoroutine = false ∧
  interactive env = false ∧ env.locals = L ∧ attributeBase (.Name "self" p2) fl env (eval (.Name "self" p2) env) = eval (.Name "self" p2) env
 ns : ∃ m, s.heap.Ns L m ∧ m "self" = some (.ref o)
structure WMade (P : Program) (w : World) (fl : Str) (o : Addr) (s : Shared) (u : Value) (s' : Shared) : Prop where
 ex : ∃ a L g, u = .ref a ∧ s.heap.objs.size ≤ a ∧ s.heap.objs.size ≤ L ∧ WNew P w fl o a L g s'
 os : s'.os = s.os
 bare : AllBare s'.gens
 keep : ∀ b ob, s.heap.get? b = some ob → s'.heap.get? b = some ob
structure WFn (P : Program) (w : World) (K : PySem.W.Frag) (mg : Str → Option Value) (base : Heap) (k : Nat) (f : Addr) (fd : FuncData) (fl : Str) : Prop where
 run : ∀ (A : Around) (outer : List Env) (s : Shared) (H : Hp) (args : Args) (o : Addr), Room k A → Env0 P w K mg base A outer s H → BindsTo s fd args (([("self" : Str)]).zip [Value.ref o]) →
  codeAny (model P w) A (.call (.ref f) args) (fun r s' => match r with | .ok (.ret u) => WMade P w fl o s u s' | _ => False) s
section
variable {X : Cx} {k : Nat} {C f : Addr} {fd : FuncData} {fl m : Str} {o : Expr} {ta : TE} {pos' apos : Pos}
structure PWk (X : Cx) (C : Addr) (fl : Str) (e : Expr) (tw : St → Hp → (Addr → Addr → List V → Hp → Prop) → Prop) : Prop where
 run : ∀ (pins : List (Addr × Obj)) (s : Shared) (σ : L2.St) (H : Hp) (R : Addr → Addr → List V → Hp → Prop), Inv X pins σ H s → tw σ H R → wpAny (model X.prog X.w) X.A (eval e X.env)
  (fun u s' => ∃ o q qs H1 a L g, u = .ref a ∧ Inv X pins σ H1 s' ∧ FpOk X pins H1 a ∧ FpOk X pins H1 L ∧ WNew X.prog X.w fl o a L g s' ∧ (∃ dx fs, H1 o = some (.ins C dx fs) ∧ fs.lookup fl = some (.ref q)) ∧ SqT X.K H1 q qs ∧ qs.length < 1000 ∧ R o q qs H1) X.xe s
end
end Z
namespace Z
open PySem PySem.Spec L2 GenW
open PyProof.Rows hiding St
section
variable {X : Cx} {C : Addr} {fl : Str} {e : Expr} {tw : St → Hp → (Addr → Addr → List V → Hp → Prop) → Prop}
theorem Still.trans {G : Array GenState} {s s' : Shared} (h : Still G s) (k : Still s.gens s') : Still G s' := fun i y e z => k i y (h i y e z) z
end
end Z
namespace Z
open PySem PySem.Spec L2 GenW
open PyProof.Rows hiding St
end Z
namespace Z
open PySem PySem.Spec L2 GenW
open PyProof.Rows hiding St
section
variable {X : Cx}
theorem ints_rep {K : PySem.W.Frag} {O : Addr → Prop} {H : Hp} : ∀ {xs : List PV} {vs : List V} {ns : List Int}, Reps K O H xs vs → intsOf xs = some ns → vs = ns.map V.int
 | [], _, _, r, e => by cases e; exact r.inv0
 | x :: xs, _, _, r, e => by
  obtain ⟨v, vs, rfl, r1, r2⟩ := r.inv
  cases x with
  | int i =>
   rw [intsOf] at e
   obtain ⟨ms, e1, rfl⟩ := Option.map_eq_some_iff.mp e
   rw [r1.int_, ints_rep r2 e1]
   rfl
  | _ => cases e
def rMaxL : R1p := fun ps P => match ps with
 | [.lst ys] => ∃ ns, intsOf ys = some ns ∧ 0 < ns.length ∧ ∀ m, m ∈ ns → (∀ x, x ∈ ns → x ≤ m) → P (.int m)
 | _ => False
theorem zc_maxL (hc : X.calm = true) : CallR X (.builtin "max") (r1 X.K rMaxL) := by
 refine CallR.weak (cr_max hc) fun xs H Q h => ?_
 obtain ⟨O, ps, P, tr, hx, h, k⟩ := h
 unfold rMaxL at h
 split at h
 ·obtain ⟨ns, e, h0, h⟩ := h
  obtain ⟨v, rfl, r⟩ := hx.one
  obtain ⟨a, vs, rfl, n, q, rr⟩ := r.lst_
  have := ints_rep rr e
  subst this
  exact ⟨a, ns, rfl, SqL.of q, h0, fun m h1 h2 => k _ _ _ (h m h1 h2) (Same.refl _) (by unfold Rep; rfl)⟩
 ·cases h
theorem q_maxL {ns : List Int} {m : Int} {P : PV → Prop} (h1 : m ∈ ns) (h2 : ∀ x, x ∈ ns → x ≤ m) (h : P (.int m)) : rMaxL [.lst (ns.map .int)] P :=
 ⟨ns, intsOf_map ns, List.length_pos_of_mem h1, fun k k1 k2 => by
  have := h2 k k1; have := k2 m h1
  have e : k = m := by omega
  rw [e]; exact h⟩
end
end Z
namespace Z
open PySem PySem.Spec L2
open PyProof.Rows hiding St
section
variable {X : Cx}
def rAddT : R2p := fun x y P => match x, y with
 | .tup xs, .tup ys => xs.length + ys.length ≤ sizeLine ∧ P (.tup (xs ++ ys))
 | _, _ => False
theorem zo_addT : OpR X (binaryOp .Add) (r2 X.K rAddT) := by
 refine OpR.weak (op_catA (X := X)) fun x y H Q h => ?_
 obtain ⟨O, px, py, P, tr, hx, hy, h, k⟩ := h
 unfold rAddT at h
 split at h
 ·rename_i xs ys
  have hx' := hx
  have hy' := hy
  obtain ⟨a, vs, rfl, h1, q1⟩ := hx.tup_
  obtain ⟨b, us, rfl, h2, q2⟩ := hy.tup_
  refine ⟨a, b, vs, us, rfl, rfl, h1.sq, h2.sq, by rw [q1.len, q2.len]; exact h.1, fun z => ?_, fun _ z => ?_, fun _ _ p hp => k.newT h.2 tr (q1.app q2) hp⟩
  ·have e : xs = [] := by rw [z] at q1; exact List.length_eq_zero_iff.mp q1.len.symm
   refine k _ _ _ h.2 (Same.refl _) ?_
   rw [e, List.nil_append]
   exact hy'
  ·have e : ys = [] := by rw [z] at q2; exact List.length_eq_zero_iff.mp q2.len.symm
   refine k _ _ _ h.2 (Same.refl _) ?_
   rw [e, List.append_nil]
   exact hx'
 ·cases h
def rAddA : R2p := fun x y P => rAdd x y P ∨ rAddT x y P
theorem zo_addA : OpR X (binaryOp .Add) (r2 X.K rAddA) := by
 intro pins s σ H x y v u Q I rx ry q
 obtain ⟨O, px, py, P, tr, h1, h2, h, k⟩ := q
 rcases h with h | h
 ·exact zo_add pins s σ H x y v u Q I rx ry ⟨O, px, py, P, tr, h1, h2, h, k⟩
 ·exact zo_addT pins s σ H x y v u Q I rx ry ⟨O, px, py, P, tr, h1, h2, h, k⟩
end
end Z
namespace Z
open PySem PySem.Spec L2 HT
open PyProof.Rows hiding St
end Z
namespace Z
open PySem PySem.Spec L2
open PyProof.Rows hiding St
end Z
namespace Z
open PySem PySem.Spec L2
open PyProof.Rows hiding St
def zipP (xs ys : List PV) : List PV := List.zipWith (fun x y => PV.tup [x, y]) xs ys
theorem zipP_get {xs ys : List PV} {i : Nat} {z : PV} (h : (zipP xs ys)[i]? = some z) : ∃ x y, xs[i]? = some x ∧ ys[i]? = some y ∧ z = .tup [x, y] := by
 unfold zipP at h
 rw [List.getElem?_zipWith] at h
 cases p : xs[i]? with
 | none => rw [p] at h; cases h
 | some x =>
  cases q : ys[i]? with
  | none => rw [p, q] at h; cases h
  | some y => rw [p, q] at h; exact ⟨x, y, rfl, rfl, (Option.some.inj h).symm⟩
theorem zipP_end {xs ys : List PV} {i : Nat} (h : (zipP xs ys).length = i) : xs.length ≤ i ∨ ys.length ≤ i := by
 unfold zipP at h
 rw [List.length_zipWith] at h
 omega
section
variable {X : Cx} {T : List (Addr × Str)} {e e2 tg : Expr} {te : TEp} {t : TAp}
theorem it_zipT {K : PySem.W.Frag} {O H} {a b : Addr} {xs ys : List PV} {vs us : List V} (t1 : TupAt K O H a vs) (t2 : TupAt K O H b us) (r1 : Reps K O H xs vs) (r2 : Reps K O H ys us) : Itr8 K O (RZ.ItzT K a b) (zipP xs ys) H := fun O' H' tr c _ i => by
 have h1 := t1.inj_car c
 have h2 := t2.inj_car c
 have s1 := r1.car c
 have s2 := r2.car c
 refine ⟨fun z e => ?_, fun e => ⟨vs, us, h1, h2, by rw [s1.len, s2.len]; exact zipP_end e⟩⟩
 obtain ⟨x, y, hx, hy, rfl⟩ := zipP_get e
 obtain ⟨v, e1, q1⟩ := s1.get hx
 obtain ⟨u, e2, q2⟩ := s2.get hy
 refine ⟨⟨vs, us, v, u, h1, h2, e1, e2⟩, fun w H'' q => ?_⟩
 obtain ⟨p, x', y', rfl, hp, rfl, kx, ky⟩ := q
 have k1 := kx vs h1
 have k2 := ky us h2
 rw [e1] at k1; cases k1
 rw [e2] at k2; cases k2
 exact ⟨Same.new hp, rep_newT tr hp (.cons q1 (.cons q2 .nil))⟩
theorem it_zipL {K : PySem.W.Frag} {O H} {a b : Addr} {xs ys : List PV} {vs us : List V} (n1 : ¬ O a) (t1 : H a = some (.lst vs)) (n2 : ¬ O b) (t2 : H b = some (.lst us)) (r1 : Reps K O H xs vs) (r2 : Reps K O H ys us) : Itr8 K O (Itz K a b) (zipP xs ys) H := fun O' H' tr c _ i => by
 have h1 : SqL K H' a vs := SqL.of (c a _ n1 t1 nofun).1
 have h2 : SqL K H' b us := SqL.of (c b _ n2 t2 nofun).1
 have s1 := r1.car c
 have s2 := r2.car c
 refine ⟨fun z e => ?_, fun e => ⟨vs, us, h1, h2, by rw [s1.len, s2.len]; exact zipP_end e⟩⟩
 obtain ⟨x, y, hx, hy, rfl⟩ := zipP_get e
 obtain ⟨v, e1, q1⟩ := s1.get hx
 obtain ⟨u, e2, q2⟩ := s2.get hy
 refine ⟨⟨vs, us, v, u, h1, h2, e1, e2⟩, fun w H'' q => ?_⟩
 obtain ⟨p, x', y', rfl, hp, rfl, kx, ky⟩ := q
 have k1 := kx vs h1
 have k2 := ky us h2
 rw [e1] at k1; cases k1
 rw [e2] at k2; cases k2
 exact ⟨Same.new hp, rep_newT tr hp (.cons q1 (.cons q2 .nil))⟩
def iZipP (t : TAp) : TIp := fun η P => t η fun zs η1 => match zs with
 | [.tup xs, .tup ys] => P (zipP xs ys) η1
 | [.lst xs, .lst ys] => P (zipP xs ys) η1
 | _ => False
theorem zi_zip {p pos tpos : Pos} {elts : List Expr} {kk : Nat} (hg : Gl X "zip") (hm : X.mg "zip" = none) (ha : PA X [e, e2] (upA X.K T t))
  (hs : starEach [e, e2] X.env = (false, eval e X.env) :: starEach [e2] X.env := by rfl) (hpl : (backTo pos (starEach [e2] X.env)).any (·.1) = false := by rfl) :
  PI X (.Tuple elts kk tpos) (.Call (.Name "zip" p) [e, e2] [] pos) (upI X.K T (iZipP t)) := by
 refine PI.weak (RZ.pi_zipA hg hm ha hs hpl) fun σ H Q q => ?_
 obtain ⟨F, η, P, R, h, k⟩ := q
 refine ⟨F, η, _, R, h, fun zs η1 vs H1 h1 e1 R1 r1 => ?_⟩
 split at h1
 ·obtain ⟨v, w, rfl, ra, rb⟩ := r1.two
  obtain ⟨a, vs, rfl, q, rr⟩ := ra.tup_
  obtain ⟨b, us, rfl, q2, rr2⟩ := rb.tup_
  exact ⟨a, b, vs, us, rfl, .inr ⟨q.sq, q2.sq, k _ _ _ _ h1 e1 R1 (it_zipT q q2 rr rr2)⟩⟩
 ·obtain ⟨v, w, rfl, ra, rb⟩ := r1.two
  obtain ⟨a, vs, rfl, n, q, rr⟩ := ra.lst_
  obtain ⟨b, us, rfl, n2, q2, rr2⟩ := rb.lst_
  exact ⟨a, b, vs, us, rfl, .inl ⟨SqL.of q, SqL.of q2, k _ _ _ _ h1 e1 R1 (it_zipL n q n2 q2 rr rr2)⟩⟩
 ·cases h1
def tRevLP (te : TEp) : TEp := fun η P => te η fun x η1 => match x with
 | .lst xs => P (.lst xs.reverse) η1
 | _ => False
theorem z_revL {k : Nat} {p1 p2 p3 pos : Pos} (he : PE X e (up X.K T te)) : PE X (.Subscript e (.Slice none none (some (.UnaryOp .USub (.Constant (.int 1) k p1) p2)) p3) pos) (up X.K T (tRevLP te)) := by
 refine PE.weak (pe_revL he) fun σ H Q q => ?_
 obtain ⟨F, η, P, R, h, k⟩ := q
 refine ⟨F, η, _, R, h, fun x η1 v H1 h1 e1 R1 r1 => ?_⟩
 split at h1
 ·obtain ⟨a, vs, rfl, n, q, rr⟩ := r1.lst_
  refine ⟨a, vs, rfl, SqL.of q, fun p hp => ?_⟩
  exact k _ η1 _ _ h1 (e1.trans (.same (Same.new hp))) (R1.same (Same.new hp)) (rep_newL R1.trO hp (reps_rev rr))
 ·cases h1
end
end Z
namespace Z
open PySem PySem.Spec L2
open PyProof.Rows hiding St
section
variable {X : Cx}
variable {T : List (Addr × Str)} {e : Expr} {te ta tb : TEp}
def rInt1 : R1p := fun ps P => match ps with
 | [.int i] => P (.int i)
 | [.bl b] => P (.int (if b then 1 else 0))
 | _ => False
theorem zc_int1 : CallR X (.type "int") (r1 X.K rInt1) := by
 refine CallR.weak (call_int1 (X := X)) fun xs H Q h => ?_
 obtain ⟨O, ps, P, tr, hx, h, k⟩ := h
 unfold rInt1 at h
 split at h
 ·obtain ⟨v, rfl, r⟩ := hx.one
  cases r.int_
  exact .inl ⟨_, rfl, k.int h⟩
 ·obtain ⟨v, rfl, r⟩ := hx.one
  cases r.bl_
  exact .inr ⟨_, rfl, k.int h⟩
 ·cases h
end
end Z
namespace Z
open PySem PySem.Spec L2
open PyProof.Rows hiding St
section
variable {X : Cx} {T : List (Addr × Str)} {e : Expr} {es : List Expr} {te ta : TEp} {t : TAp} {pos p : Pos} {k : Nat} {f : Addr} {fd : FuncData} {ps : List Str} {x : Str} {i : Nat}
def upAO (K : PySem.W.Frag) (T : List (Addr × Str)) (t : TAp) (i : Nat) : TA := fun σ H Q => ∃ F η P, Rs K T F σ η H ∧ t η P ∧ ∀ xs η' vs H', P xs η' → Ext σ η σ η' H H' → Rs K T F σ η' H' → Reps K (Oof F σ η') H' xs vs → ∃ a, σ[i]? = some (some (V.ref a)) ∧ Q (vs ++ [.ref a]) H'
theorem zo_last (h : PE X e (tVar i)) (hs : starEach [e] X.env = (false, eval e X.env) :: starEach [] X.env := by rfl) : PA X [e] (upAO X.K T tNilP i) := by
 refine PA.weak (pa_cons h pa_nil hs) fun σ H Q q => ?_
 obtain ⟨F, η, P, R, h, k⟩ := q
 obtain ⟨a, hs, q⟩ := k [] η [] H h .refl R .nil
 exact ⟨.ref a, hs, q⟩
theorem zo_cons (ha : PE X e (up X.K T ta)) (hr : PA X es (upAO X.K T t i)) (hs : starEach (e :: es) X.env = (false, eval e X.env) :: starEach es X.env := by rfl) : PA X (e :: es) (upAO X.K T (tConsP ta t) i) := by
 refine PA.weak (pa_cons ha hr hs) fun σ H Q q => ?_
 obtain ⟨F, η, P, R, h, k⟩ := q
 refine ⟨F, η, _, R, h, fun x η1 v H1 h1 e1 R1 r1' => ⟨F, η1, _, R1, h1, fun y η2 w H2 h2 e2 R2' rw' => ?_⟩⟩
 exact k (x :: y) η2 (v :: w) H2 h2 (e1.trans e2) R2' (.cons (r1'.car e2.car) rw')
theorem flV_free {K : PySem.W.Frag} {O O' : Addr → Prop} {H H' : Hp} {x : PV} {v : V} (h : Rep K O H x v) (e : (flV x).isSome = true) : Rep K O' H' x v := by
 cases x <;> first | (unfold Rep at h ⊢; exact h) | (unfold flV at e; cases e)
theorem flVs_free {K : PySem.W.Frag} {O O' : Addr → Prop} {H H' : Hp} : ∀ {xs : List PV} {vs : List V}, Reps K O H xs vs → (∀ x ∈ xs, (flV x).isSome = true) → Reps K O' H' xs vs
 | [], _, h, _ => by rw [h.inv0]; exact .nil
 | x :: xs, _, h, e => by
  obtain ⟨v, us, rfl, r, t⟩ := h.inv
  exact .cons (flV_free r (e x List.mem_cons_self)) (flVs_free t fun y hy => e y (List.mem_cons_of_mem _ hy))
def tCallFOP (sp : SpF) (t : TAp) (i : Nat) : TFp := fun η P => t η fun args η1 => match η1[i]? with
 | some (.ow (.l xs)) => sp (args ++ [.lst xs]) fun ys => (∀ y ∈ ys, (flV y).isSome = true) ∧ P ys η1
 | _ => False
theorem z_callFO {sp : SpF} (Fn : FnOk X.prog X.w X.K X.mg X.base CX0 k f fd ps (upSpF X.K T sp)) (hr : Room k X.A) (hg : Gl X x) (hm : X.mg x = some (.ref f)) (hk : PySem.W.keepIn X.K (.ref f) = true) (hb : Binds X.K fd ps [])
  (ha : PA X (e :: es) (upAO X.K T t i)) (hdb : (x == ("__debug__" : Str)) = false := by decide) (he : starEach (e :: es) X.env = (false, eval e X.env) :: starEach es X.env := by rfl) (hpl : (backTo pos (starEach es X.env)).any (·.1) = false := by rfl) :
  PE X (.Call (.Name x p) (e :: es) [] pos) (upF X.K T (tCallFOP sp t i)) := by
 refine PE.weak (pe_call Fn hr hg hm hk hb .nil pass0 ha hdb he hpl) fun σ H Q q => ?_
 obtain ⟨F, η, P, R, h, k⟩ := q
 refine ⟨F, η, _, R, h, fun args η1 vs H1 h1 e1 R1 r1 => ?_⟩
 split at h1
 ·rename_i xs ei
  obtain ⟨a0, s0, ⟨ws, q1, q2⟩, nf0⟩ := R1.ow i _ ei
  refine ⟨a0, s0, ?_⟩
  have sub : ∀ b, (Oof F σ η1 b ∧ b ≠ a0) → Oof F σ η1 b := fun b z => z.1
  refine ⟨fun b => Oof F σ η1 b ∧ b ≠ a0, args ++ [.lst xs], _, fun b z => R1.trO b z.1, R1.tb, ?_, h1, fun ys a us H2 pz g tb hn hv rz => ?_⟩
  ·rw [List.append_nil]
   refine (r1.mono sub).app (.cons ?_ .nil)
   unfold Rep
   exact ⟨a0, ws, rfl, fun z => z.2 rfl, q1, q2.mono sub⟩
  ·have hn0 : Nw H a := e1.nw hn
   have nF : ¬ F a := fun z => R.tr a z hn0
   have nO : ¬ Oof F σ η1 a := fun z => R1.trO a z hn
   have R2 : Rs X.K T F σ η1 H2 := R1.gr g tb
   have c : Car (Oof F σ η1) (Oof (With F a) σ η1) H1 H2 := fun b u n hb t => ⟨g.keep b u hb t, fun z => by
    rcases z with (z | z) | z
    ·exact n (.inl z)
    ·exact hn.no (by rw [← z]; exact hb) t
    ·exact n (.inr z)⟩
   have R3 : Rs X.K T (With F a) σ η1 H2 := by
    refine ⟨R2.len, fun i y e => ?_, fun i o e => ?_, R2.nd, fun b z => ?_, tb⟩
    ·obtain ⟨v, q1, q2⟩ := R1.va i y e
     exact ⟨v, q1, q2.car c⟩
    ·obtain ⟨b, q1, q2, q3⟩ := R1.ow i o e
     refine ⟨b, q1, q2.car c ?_, fun z => z.elim q3 fun z => nO (by rw [← z]; exact .inr ⟨i, o, q1, e⟩)⟩
     cases o with
     | l xs => obtain ⟨vs, q, _⟩ := q2; rw [q]; exact g.keep _ _ q nofun
     | o C fs => obtain ⟨dx, ws, q, _⟩ := q2; rw [q]; exact g.keep _ _ q nofun
     | d kvs => obtain ⟨ws, q, _⟩ := q2; rw [q]; exact g.keep _ _ q nofun
    ·rcases z with z | z
     ·exact R2.tr b z
     ·rw [z]; exact fun q => q.no hv nofun
   exact k ys η1 a us H2 pz.2 (e1.trans g.ext) R3 hn0 nF hv (flVs_free rz pz.1)
 ·cases h1
end
end Z
namespace Z
open PySem PySem.Spec L2 GenW
open PyProof.Rows hiding St
end Z
namespace Z
open PySem PySem.Spec L2 GenW
open PyProof.Rows hiding St
section
variable {X : Cx} {T : List (Addr × Str)} {C : Addr} {m fl : Str} {ta : TEp} {pos : Pos}
theorem zipP_len {xs ys : List PV} (h : xs.length ≤ ys.length) : (zipP xs ys).length = xs.length := by
 unfold zipP
 rw [List.length_zipWith]; omega
end
end Z
namespace Z
open PySem PySem.Spec L2
open PyProof.Rows hiding St
section
variable {X : Cx}
theorem call_divmodW : CallR X (.builtin "divmod") (fun xs H Q => ∃ i j, xs = [.int i, .int j] ∧ CDivW i j ∧ ∀ p, H p = none → Q (.ref p) (upd H p (.tup [.int (i / j), .int (i % j)]))) := by
 intro pins s σ H xs us Q I r h
 obtain ⟨i, j, rfl, ⟨h1, h2⟩, q⟩ := h
 obtain ⟨u, w', rfl, ⟨t, rfl⟩, ⟨t', rfl⟩⟩ := vals2 r
 refine divmod_int (by omega) ?_ (.inl (PyProof.noPylong_of_log2 h2))
 rw [Int.fdiv_eq_ediv_of_nonneg i (by omega), Int.fmod_eq_emod_of_nonneg i (by omega)]
 have hn : H s.heap.objs.size = none := I.hok.fresh (Nat.le_refl _)
 refine ⟨.ref s.heap.objs.size, _, ?_, rfl, q _ hn⟩
 refine I.laid (fun b o e => Heap.get?_push_of_some _ e) (Nat.le_refl _) ⟨by simp only [List.length_cons, List.length_nil]; rw [sizeLine_eq]; decide, [.int (i / j) s.toks, .int (i % j) (s.toks + 1)], .cons ⟨_, rfl⟩ (.cons ⟨_, rfl⟩ .nil), ?_⟩
 exact ⟨_, Heap.get?_push_size s.heap rfl, rfl, 0, rfl⟩
def rDivmodW : R1p := fun ps P => match ps with
 | [.int i, .int j] => CDivW i j ∧ P (.tup [.int (i / j), .int (i % j)])
 | _ => False
theorem zc_divmodW : CallR X (.builtin "divmod") (r1 X.K rDivmodW) := by
 refine CallR.weak (call_divmodW (X := X)) fun xs H Q h => ?_
 obtain ⟨O, ps, P, tr, hx, h, k⟩ := h
 unfold rDivmodW at h
 split at h
 ·obtain ⟨v, w, rfl, r, r'⟩ := hx.two
  cases r.int_; cases r'.int_
  exact ⟨_, _, rfl, h.1, fun p hp => k.newT h.2 tr (.cons rep_int (.cons rep_int .nil)) hp⟩
 ·cases h
theorem q_divmodW {i j : Int} {P : PV → Prop} (c : CDivW i j) (h : P (.tup [.int (i / j), .int (i % j)])) : rDivmodW [.int i, .int j] P := ⟨c, h⟩
theorem cdivW {i j : Int} (h : 0 < j) (h' : j < 10 ^ 40) : CDivW i j := wide_div (b := 200) h (by
 have : (10 : Int) ^ 40 < 2 ^ 200 := by decide
 omega) (by decide) (by decide)
def rIsT (neg : Bool) : R2p := fun x y P => match x, y with
 | .bl a, .bl b => P (.bl (if neg then !decide (a = b) else decide (a = b)))
 | _, _ => False
theorem zo_isnotT : OpR X (compareOp .IsNot) (r2 X.K (rIsT true)) := by
 refine OpR.weak (op_notBl (X := X)) fun x y H Q h => ?_
 obtain ⟨O, px, py, P, tr, hx, hy, h, k⟩ := h
 unfold rIsT at h
 split at h
 ·exact ⟨_, _, hx.bl_, hy.bl_, k.bl (by simpa using h)⟩
 ·cases h
end
def Kn (K : PySem.W.Frag) (x : PV) : Prop := (tyN x).isSome = true ∨ ∃ C fs, x = .ins C fs ∧ ClsT K C
def isInt : PV → Bool
 | .int _ => true
 | _ => false
def isStn : PV → Bool
 | .int i => decide (0 ≤ i)
 | _ => false
def isLat (s : Int) : PV → Bool
 | .int i => decide (s < i)
 | _ => false
def abc : Str := ("abcdefghijklmnopqrstuvwxyz" : Str)
def isNm : PV → Bool
 | .str z => decide (1 ≤ z.length) && (decide (z.length ≤ 8) && z.cps.toList.all fun c => decide (c ∈ abc.cps.toList))
 | _ => false
abbrev Trip := Str × Int × Int
def rowP (r : Trip) : PV := .tup [.str r.1, .int r.2.1, .int r.2.2]
def rowsP (rs : List Trip) : PV := .tup (rs.map rowP)
structure Rw (rs : List Trip) : Prop where
 len : rs.length ≤ 24
 each : ∀ r ∈ rs, isNm (.str r.1) = true ∧ 0 ≤ r.2.1 ∧ r.2.1 < r.2.2
 asc : rs.Pairwise fun a b => a.1.cps.toList < b.1.cps.toList
def queueP (rs : List Trip) : PV := .tup ((rs.map rowP).mergeSort (PySem.W.dataLe false (keyP 1 0)))
def lineF (n : Int) (rs : List Trip) : List (Str × PV) := [(("seat_count" : Str), .int n), (("rows" : Str), rowsP rs), (("queue" : Str), queueP rs)]
def lineP (C : Addr) (n : Int) (rs : List Trip) : PV := .ins C (lineF n rs)
abbrev PrP := PySem.W.Frag → Addr → SpP
def sp_is_integer : PrP := fun K _ args P => ∃ x, args = [x] ∧ Kn K x ∧ P (.bl (isInt x))
def sp_is_station : PrP := fun K _ args P => ∃ x, args = [x] ∧ Kn K x ∧ P (.bl (isStn x))
def sp_is_later : PrP := fun K _ args P => ∃ x s, args = [x, .int s] ∧ Kn K x ∧ P (.bl (isLat s x))
def sp_is_trip_name : PrP := fun K _ args P => ∃ x, args = [x] ∧ Kn K x ∧ (∀ z, x = .str z → z.length ≤ sizeLine) ∧ P (.bl (isNm x))
def sp_is_trip : PrP := fun K _ args P => ∃ r : Trip, args = [rowP r] ∧ r.1.length ≤ sizeLine ∧ P (.bl (isNm (.str r.1) && (decide (0 ≤ r.2.1) && decide (r.2.1 < r.2.2))))
def sp_check_seats : PrP := fun K _ args P => ∃ n : Int, args = [.int n] ∧ 1 ≤ n ∧ n ≤ 20 ∧ P .non
def sp_valid_beginning : PrP := fun K _ args P => ∃ rs, args = [rowsP rs] ∧ Rw rs ∧ P (.int rs.length)
def sp_Line_init : PySem.W.Frag → Addr → SpR := fun K C o args P => ∃ n rs, o = .o C [] ∧ args = [.int n, rowsP rs] ∧ 1 ≤ n ∧ n ≤ 20 ∧ Rw rs ∧ P .non (.o C (lineF n rs))
def sp_Line_trips : PrP := fun K C args P => ∃ n rs, args = [lineP C n rs] ∧ P (rowsP rs)
def sp_law_cell : PrP := fun K _ args P => ∃ ns k, args = [.scr ns, .int k] ∧ 0 ≤ k ∧ k < 100 ∧ ∀ c, P (.int c)
def sp_law_pool : PySem.W.Frag → Addr → SpF := fun K _ args P => ∃ c, args = [.int c] ∧ ∀ s d, 0 ≤ s → s < 1000000007 → 0 ≤ d → P [.int s, .int d, .int 0]
def Pool (o : Ow) : Prop := ∃ s d c, o = .l [.int s, .int d, .int c] ∧ 0 ≤ s ∧ s < 1000000007 ∧ 0 ≤ d
abbrev PrR := PySem.W.Frag → Addr → SpR
def sp_law_draw : PrR := fun K _ o args P => ∃ m : Int, Pool o ∧ args = [.int m] ∧ 0 < m ∧ m < 10 ^ 40 ∧ ∀ o' (k : Int), Pool o' → 0 ≤ k → k < m → P (.int k) o'
def Nms (ws : List Str) : Prop := (∀ w ∈ ws, isNm (.str w) = true) ∧ ws.Nodup
def sp_law_words : PrR := fun K _ o args P => ∃ m : Int, Pool o ∧ args = [.int m] ∧ 0 ≤ m ∧ m ≤ 24 ∧ ∀ o' ws, Pool o' → ws.length = m.toNat → Nms ws → P (.lst (ws.map .str)) o'
def sp_law_far : PrR := fun K _ o args P => ∃ h : Int, Pool o ∧ args = [.int h] ∧ 0 ≤ h ∧ h ≤ 30 ∧ ∀ o' (xs : List Int), Pool o' → xs.length = (h + 1).toNat → xs.Pairwise (· < ·) → (∀ x ∈ xs, 0 ≤ x ∧ x < 10 ^ 40) → P (.lst (xs.map .int)) o'
def sp_law_rides : PrR := fun K _ o args P => ∃ ws h, Pool o ∧ args = [.lst (ws.map .str), .int h] ∧ Nms ws ∧ ws.length ≤ 24 ∧ 1 ≤ h ∧ h ≤ 30 ∧ ∀ o' rs, Pool o' → Rw rs → rs.length = ws.length → (∀ r ∈ rs, r.1 ∈ ws ∧ r.2.2 < 10 ^ 40) → P (rowsP rs) o'
def ts_is_integer (K : PySem.W.Frag) (CLine : Addr) : TSp := tRetP (tAndVP (tCBP (rIsI K) (tConsP (tVarP 0) (tConsP (tConP (.raw (.ty "int"))) (tNilP)))) (tNotVP (tCBP (rIsI K) (tConsP (tVarP 0) (tConsP (tConP (.raw (.ty "bool"))) (tNilP))))))
def ts_is_station (K : PySem.W.Frag) (CLine : Addr) : TSp := tRetP (tAndVP (tCallP (sp_is_integer K CLine) [] (tConsP (tVarP 0) (tNilP))) (tOpP rGe (tVarP 0) (tConP (.int 0))))
def ts_is_later (K : PySem.W.Frag) (CLine : Addr) : TSp := tRetP (tAndVP (tCallP (sp_is_integer K CLine) [] (tConsP (tVarP 0) (tNilP))) (tOpP rGt (tVarP 0) (tVarP 1)))
def ts_is_trip_name (K : PySem.W.Frag) (CLine : Addr) : TSp := tSeqP (tIfSP (tOrP (tNotP (tBlP (tCBP (rIsI K) (tConsP (tVarP 0) (tConsP (tConP (.raw (.ty "str"))) (tNilP)))))) (tNotP (tBlP (tChainP rLe rLe (tConP (.int 1)) (tCBP rLen (tConsP (tVarP 0) (tNilP))) (tConP (.int 8)))))) (tRetP (tConP (.bl false))) (tNextP)) (tRetP (tCBP rAllP (tConsP (tValP (tLcP (iStrP (tVarP 0)) (gNameP 1) (tYesP) (tOpP (rInS false) (tVarP 1) (tConP (.str ("abcdefghijklmnopqrstuvwxyz" : Str)))) [1])) (tNilP))))
def ts_is_trip (K : PySem.W.Frag) (CLine : Addr) : TSp := tSeqP (tIfSP (tOrP (tNotP (tBlP (tCBP (rIsI K) (tConsP (tVarP 0) (tConsP (tConP (.raw (.ty "tuple"))) (tNilP)))))) (tBlP (tOpP (rEqP true) (tCBP rLen (tConsP (tVarP 0) (tNilP))) (tConP (.int 3))))) (tRetP (tConP (.bl false))) (tNextP)) (tSeqP (tAsgP (tVarP 0) (gTupP 3 (gConsP (gNameP 1) (gConsP (gNameP 2) (gConsP (gNameP 3) (gNilP)))))) (tRetP (tAndVP (tCallP (sp_is_trip_name K CLine) [] (tConsP (tVarP 1) (tNilP))) (tAndVP (tCallP (sp_is_station K CLine) [] (tConsP (tVarP 2) (tNilP))) (tCallP (sp_is_later K CLine) [] (tConsP (tVarP 3) (tConsP (tVarP 2) (tNilP))))))))
def ts_check_seats (K : PySem.W.Frag) (CLine : Addr) : TSp := tIfSP (tOrP (tNotP (tBlP (tCallP (sp_is_integer K CLine) [] (tConsP (tVarP 0) (tNilP))))) (tNotP (tBlP (tChainP rLe rLe (tConP (.int 1)) (tVarP 0) (tConP (.int 20)))))) (tNevP) (tNextP)
def ts_valid_beginning (K : PySem.W.Frag) (CLine : Addr) : TSp := tSeqP (tSetP 1 (tConP (.str ("" : Str)))) (tSeqP (tForP (iEnumP (tVarP 0)) (gTupP 2 (gConsP (gNameP 2) (gConsP (gNameP 3) (gNilP)))) (tSeqP (tIfSP (tOrP (tBlP (tOpP (rEqP false) (tVarP 2) (tConP (.int 24)))) (tOrP (tNotP (tBlP (tCallP (sp_is_trip K CLine) [] (tConsP (tVarP 3) (tNilP))))) (tBlP (tOpP rLe (tOpP rIxP (tVarP 3) (tConP (.int 0))) (tVarP 1))))) (tRetP (tVarP 2)) (tNextP)) (tSetP 1 (tOpP rIxP (tVarP 3) (tConP (.int 0)))))) (tRetP (tCBP rLen (tConsP (tVarP 0) (tNilP)))))
def ts_Line_trips (K : PySem.W.Frag) (CLine : Addr) : TSp := tRetP (tFldP CLine ("rows" : Str) (tVarP 0))
def ts_Line_init (K : PySem.W.Frag) (CLine : Addr) : TSp := tSeqP (tDropP (tCallP (sp_check_seats K CLine) [] (tConsP (tVarP 1) (tNilP)))) (tSeqP (tIfSP (tNotP (tBlP (tCBP (rIsI K) (tConsP (tVarP 2) (tConsP (tConP (.raw (.ty "tuple"))) (tNilP)))))) (tNevP) (tNextP)) (tSeqP (tSetP 3 (tCallP (sp_valid_beginning K CLine) [] (tConsP (tVarP 2) (tNilP)))) (tSeqP (tIfSP (tBlP (tOpP rLt (tVarP 3) (tCBP rLen (tConsP (tVarP 2) (tNilP))))) (tNevP) (tNextP)) (tSeqP (tFldSP CLine 0 ("seat_count" : Str) (tVarP 1)) (tSeqP (tFldSP CLine 0 ("rows" : Str) (tVarP 2)) (tFldSP CLine 0 ("queue" : Str) (tCBP rTuple (tConsP (tSortLP 1 0 (tVarP 2)) (tNilP)))))))))
def ts_law_cell (K : PySem.W.Frag) (CLine : Addr) : TSp := tSeqP (tIfSP (tBlP (tOpP rLt (tVarP 1) (tCBP rLen (tConsP (tVarP 0) (tNilP))))) (tRetP (tOpP rIxP (tVarP 0) (tVarP 1))) (tNextP)) (tSeqP (tSetP 2 (tOpP rMod (tOpP rMulA (tConP (.int 50021)) (tOpP rAdd (tOpP rAdd (tOpP rMulA (tVarP 1) (tVarP 1)) (tOpP rMulA (tConP (.int 7)) (tVarP 1))) (tConP (.int 3)))) (tConP (.int 1000000007)))) (tSeqP (tForP (iListP (tSliceP (tVarP 0) (tNoPartP) (tPartP (tConP (.int 3))))) (gNameP 3) (tSetP 2 (tOpP rMod (tOpP rAdd (tOpP rMulA (tVarP 2) (tConP (.int 30011))) (tVarP 3)) (tConP (.int 1000000007))))) (tRetP (tVarP 2))))
def ts_law_pool (K : PySem.W.Frag) (CLine : Addr) : TFp := tSeqFP (tSetP 1 (tConP (.int 0))) (tSeqFP (tIfSP (tOrP (tBlP (tOpP rLt (tVarP 0) (tConP (.int 0)))) (tBlP (tOpP rGe (tVarP 0) (tOpP rPow (tConP (.int 10)) (tConP (.int 18)))))) (tSetP 1 (tCBP rAbs (tConsP (tVarP 0) (tNilP)))) (tNextP)) (tLstFP (tConsP (tOpP rMod (tVarP 0) (tConP (.int 1000000007))) (tConsP (tVarP 1) (tConsP (tConP (.int 0)) (tNilP))))))
def ts_law_draw (K : PySem.W.Frag) (CLine : Addr) : TSp := tSeqP (tAsgP (tOpP rAdd (tIxOP 0 (tConP (.int 2))) (tConP (.int 1))) (gSubP 0 (tConP (.int 2)))) (tSeqP (tSetP 2 (tIxOP 0 (tConP (.int 0)))) (tSeqP (tAsgP (tOpP rMod (tOpP rAdd (tOpP rAdd (tOpP rMulA (tVarP 2) (tOpP rAdd (tOpP rMod (tVarP 2) (tConP (.int 46007))) (tConP (.int 20011)))) (tOpP rMulA (tConP (.int 60013)) (tIxOP 0 (tConP (.int 2))))) (tConP (.int 5))) (tConP (.int 1000000007))) (gSubP 0 (tConP (.int 0)))) (tSeqP (tIfSP (tBlP (tOpP rGt (tIxOP 0 (tConP (.int 1))) (tConP (.int 0)))) (tSeqP (tAsgP (tCBP rDivmodW (tConsP (tIxOP 0 (tConP (.int 1))) (tConsP (tVarP 1) (tNilP)))) (gTupP 2 (gConsP (gSubP 0 (tConP (.int 1))) (gConsP (gNameP 3) (gNilP))))) (tRetP (tVarP 3))) (tNextP)) (tRetP (tOpP rMod (tOpP rDiv (tIxOP 0 (tConP (.int 0))) (tConP (.int 32))) (tVarP 1))))))
def ts_law_words (K : PySem.W.Frag) (CLine : Addr) : TSp := tSeqP (tSetP 2 (tConP (.str ("abcdefghijklmnopqrstuvwxyz" : Str)))) (tSeqP (tSetP 3 (tLstP (tConsP (tConP (.str ("book" : Str))) (tConsP (tConP (.str ("cancel" : Str))) (tConsP (tConP (.str ("exchange" : Str))) (tConsP (tConP (.str ("shift" : Str))) (tConsP (tConP (.str ("seats" : Str))) (tConsP (tConP (.str ("undo" : Str))) (tConsP (tConP (.str ("show" : Str))) (tConsP (tConP (.str ("line" : Str))) (tConsP (tConP (.str ("count" : Str))) (tConsP (tConP (.str ("number" : Str))) (tConsP (tConP (.str ("load" : Str))) (tConsP (tConP (.str ("trip" : Str))) (tNilP))))))))))))))) (tSeqP (tSetP 3 (tOpP rAdd (tVarP 3) (tLstP (tConsP (tConP (.str ("none" : Str))) (tConsP (tConP (.str ("cut" : Str))) (tConsP (tConP (.str ("overfull" : Str))) (tConsP (tConP (.str ("a" : Str))) (tConsP (tConP (.str ("b" : Str))) (tConsP (tConP (.str ("x" : Str))) (tConsP (tConP (.str ("plan" : Str))) (tConsP (tConP (.str ("route" : Str))) (tConsP (tConP (.str ("fixed" : Str))) (tConsP (tConP (.str ("full" : Str))) (tConsP (tConP (.str ("goal" : Str))) (tConsP (tConP (.str ("name" : Str))) (tNilP)))))))))))))))) (tSeqP (tAsgP (tTupP (tConsP (tCallRP 0 (sp_law_draw K CLine) (tConsP (tConP (.int 3)) (tNilP))) (tConsP (tCallRP 0 (sp_law_draw K CLine) (tConsP (tConP (.int 24)) (tNilP))) (tNilP)))) (gTupP 2 (gConsP (gNameP 4) (gConsP (gNameP 5) (gNilP))))) (tSeqP (tIfSP (tBlP (tOpP (rEqP false) (tVarP 4) (tConP (.int 0)))) (tRetP (tValP (tLcP (iRng1P (tVarP 1)) (gNameP 8) (tYesP) (tOpP rIxP (tVarP 3) (tOpP rMod (tOpP rAdd (tVarP 5) (tOpP rMulA (tConP (.int 5)) (tVarP 8))) (tConP (.int 24)))) [8]))) (tNextP)) (tSeqP (tIfSP (tBlP (tOpP (rEqP false) (tVarP 4) (tConP (.int 1)))) (tRetP (tValP (tLcP (iRng1P (tVarP 1)) (gNameP 8) (tYesP) (tOpP rMulA (tOpP rIxP (tVarP 2) (tOpP rMod (tOpP rAdd (tVarP 5) (tOpP rMulA (tConP (.int 7)) (tVarP 8))) (tConP (.int 26)))) (tOpP rAdd (tConP (.int 1)) (tOpP rMod (tVarP 8) (tConP (.int 8))))) [8]))) (tNextP)) (tSeqP (tSetP 6 (tJoinP (tConP (.str ("" : Str))) (tValP (tLcP (iRng1P (tCallRP 0 (sp_law_draw K CLine) (tConsP (tConP (.int 8)) (tNilP)))) (gNameP 8) (tYesP) (tOpP rIxP (tVarP 2) (tCallRP 0 (sp_law_draw K CLine) (tConsP (tConP (.int 26)) (tNilP)))) [8])))) (tSeqP (tSetP 7 (tCallRP 0 (sp_law_draw K CLine) (tConsP (tOpP rAdd (tCBP rLen (tConsP (tVarP 6) (tNilP))) (tConP (.int 1))) (tNilP)))) (tRetP (tValP (tLcP (iRng1P (tVarP 1)) (gNameP 8) (tYesP) (tOpP rAdd (tOpP rAdd (tSliceP (tVarP 6) (tNoPartP) (tPartP (tVarP 7))) (tOpP rIxP (tVarP 2) (tOpP rMod (tOpP rAdd (tVarP 5) (tOpP rMulA (tConP (.int 5)) (tVarP 8))) (tConP (.int 26))))) (tSliceP (tVarP 6) (tPartP (tVarP 7)) (tNoPartP))) [8]))))))))))
def ts_law_far (K : PySem.W.Frag) (CLine : Addr) : TSp := tSeqP (tParP [2, 3, 4] (tConsF (tLstFP (tNilP)) (tConsV (tCallRP 0 (sp_law_draw K CLine) (tConsP (tConP (.int 3)) (tNilP))) (tConsV (tCallRP 0 (sp_law_draw K CLine) (tConsP (tConP (.int 3)) (tNilP))) (tNilAr))))) (tSeqP (tForP (iRng1P (tOpP rAdd (tVarP 1) (tConP (.int 1)))) (gNameP 5) (tSeqP (tAppP 2 (tIfP (tBlP (tOpP rGt (tVarP 4) (tConP (.int 0)))) (tVarP 5) (tVarP 3))) (tSetP 3 (tOpP rAdd (tOpP rAdd (tVarP 3) (tConP (.int 1))) (tOpP rIxP (tLstP (tConsP (tConP (.int 0)) (tConsP (tCallRP 0 (sp_law_draw K CLine) (tConsP (tConP (.int 9)) (tNilP))) (tConsP (tOpP rPow (tConP (.int 10)) (tConP (.int 29))) (tNilP))))) (tCallRP 0 (sp_law_draw K CLine) (tConsP (tConP (.int 3)) (tNilP)))))))) (tRetP (tVarP 2)))
def ts_law_rides (K : PySem.W.Frag) (CLine : Addr) : TSp := tSeqP (tParP [3, 4, 5] (tConsV (tCallRP 0 (sp_law_far K CLine) (tConsP (tVarP 2) (tNilP))) (tConsF (tLstFP (tNilP)) (tConsV (tConP (.int 0)) (tNilAr))))) (tSeqP (tForP (iListP (tVarP 1)) (gNameP 6) (tSeqP (tSetP 7 (tCallRP 0 (sp_law_draw K CLine) (tConsP (tConP (.int 4)) (tNilP)))) (tSeqP (tSetP 8 (tIfP (tAndP (tBlP (tOpP (rEqP false) (tVarP 7) (tConP (.int 0)))) (tBlP (tOpP rLt (tVarP 5) (tVarP 2)))) (tVarP 5) (tCallRP 0 (sp_law_draw K CLine) (tConsP (tVarP 2) (tNilP))))) (tSeqP (tSetP 5 (tOpP rAdd (tOpP rAdd (tVarP 8) (tConP (.int 1))) (tCallRP 0 (sp_law_draw K CLine) (tConsP (tIfP (tBlP (tOpP rGt (tOpP rSub (tVarP 2) (tVarP 8)) (tConP (.int 1)))) (tOpP rIxP (tLstP (tConsP (tConP (.int 1)) (tConsP (tConP (.int 2)) (tConsP (tOpP rSub (tVarP 2) (tVarP 8)) (tConsP (tOpP rSub (tVarP 2) (tVarP 8)) (tNilP)))))) (tVarP 7)) (tConP (.int 1))) (tNilP))))) (tSeqP (tSetP 5 (tCBP rMin2 (tConsP (tVarP 5) (tConsP (tVarP 2) (tNilP))))) (tAppP 4 (tTupP (tConsP (tVarP 6) (tConsP (tOpP rIxP (tVarP 3) (tVarP 8)) (tConsP (tOpP rIxP (tVarP 3) (tVarP 5)) (tNilP))))))))))) (tRetP (tCBP rTuple (tConsP (tCBP rSortD (tConsP (tVarP 4) (tNilP))) (tNilP)))))
section
variable {K : PySem.W.Frag} {C : Addr} {args : List PV} {P : PV → Prop} {PR : PV → Ow → Prop} {PF : List PV → Prop} {o : Ow}
theorem len_is_integer (h : sp_is_integer K C args P) : args.length = 1 := by
 unfold sp_is_integer at h
 first | (obtain ⟨_, rfl, _⟩ := h; rfl) | (obtain ⟨_, _, rfl, _⟩ := h; rfl)
theorem len_is_station (h : sp_is_station K C args P) : args.length = 1 := by
 unfold sp_is_station at h
 first | (obtain ⟨_, rfl, _⟩ := h; rfl) | (obtain ⟨_, _, rfl, _⟩ := h; rfl)
theorem len_is_later (h : sp_is_later K C args P) : args.length = 2 := by
 unfold sp_is_later at h
 first | (obtain ⟨_, rfl, _⟩ := h; rfl) | (obtain ⟨_, _, rfl, _⟩ := h; rfl)
theorem len_is_trip_name (h : sp_is_trip_name K C args P) : args.length = 1 := by
 unfold sp_is_trip_name at h
 first | (obtain ⟨_, rfl, _⟩ := h; rfl) | (obtain ⟨_, _, rfl, _⟩ := h; rfl)
theorem len_is_trip (h : sp_is_trip K C args P) : args.length = 1 := by
 unfold sp_is_trip at h
 first | (obtain ⟨_, rfl, _⟩ := h; rfl) | (obtain ⟨_, _, rfl, _⟩ := h; rfl)
theorem len_check_seats (h : sp_check_seats K C args P) : args.length = 1 := by
 unfold sp_check_seats at h
 first | (obtain ⟨_, rfl, _⟩ := h; rfl) | (obtain ⟨_, _, rfl, _⟩ := h; rfl)
theorem len_valid_beginning (h : sp_valid_beginning K C args P) : args.length = 1 := by
 unfold sp_valid_beginning at h
 first | (obtain ⟨_, rfl, _⟩ := h; rfl) | (obtain ⟨_, _, rfl, _⟩ := h; rfl)
theorem len_Line_trips (h : sp_Line_trips K C args P) : args.length = 1 := by
 unfold sp_Line_trips at h
 first | (obtain ⟨_, rfl, _⟩ := h; rfl) | (obtain ⟨_, _, rfl, _⟩ := h; rfl)
theorem len_law_cell (h : sp_law_cell K C args P) : args.length = 2 := by
 unfold sp_law_cell at h
 first | (obtain ⟨_, rfl, _⟩ := h; rfl) | (obtain ⟨_, _, rfl, _⟩ := h; rfl)
theorem len_law_pool (h : sp_law_pool K C args PF) : args.length = 1 := by
 unfold sp_law_pool at h
 first | (obtain ⟨_, rfl, _⟩ := h; rfl) | (obtain ⟨_, _, rfl, _⟩ := h; rfl)
theorem len_law_draw (h : sp_law_draw K C o args PR) : args.length = 1 := by
 unfold sp_law_draw at h
 first | (obtain ⟨_, _, rfl, _⟩ := h; rfl) | (obtain ⟨_, _, _, rfl, _⟩ := h; rfl)
theorem len_law_words (h : sp_law_words K C o args PR) : args.length = 1 := by
 unfold sp_law_words at h
 first | (obtain ⟨_, _, rfl, _⟩ := h; rfl) | (obtain ⟨_, _, _, rfl, _⟩ := h; rfl)
theorem len_law_far (h : sp_law_far K C o args PR) : args.length = 1 := by
 unfold sp_law_far at h
 first | (obtain ⟨_, _, rfl, _⟩ := h; rfl) | (obtain ⟨_, _, _, rfl, _⟩ := h; rfl)
theorem len_law_rides (h : sp_law_rides K C o args PR) : args.length = 2 := by
 unfold sp_law_rides at h
 first | (obtain ⟨_, _, rfl, _⟩ := h; rfl) | (obtain ⟨_, _, _, rfl, _⟩ := h; rfl)
theorem len_Line_init (h : sp_Line_init K C o args PR) : args.length = 2 := by
 obtain ⟨_, _, _, rfl, _⟩ := h; rfl
theorem rIsI_ty {x : PV} {n : String} {Q : PV → Prop} : rIsI K [x, .raw (.ty n)] Q = (match tyN x with
  | some t => ∃ b, kitB t n = some b ∧ Q (.bl b)
  | none => match x with
   | .ins C _ => ClsT K C ∧ n ∈ ["int", "bool", "str", "tuple", "list", "dict"] ∧ Q (.bl false)
   | _ => False) := rfl
theorem isi_ty {x : PV} {n : String} {Q : PV → Prop} (h : Kn K x) (hn : n ∈ ["int", "bool", "str", "tuple", "list", "dict"]) (q : ∀ b, (∀ t, tyN x = some t → kitB t n = some b) → (tyN x = none → b = false) → Q (.bl b)) : rIsI K [x, .raw (.ty n)] Q := by
 rw [rIsI_ty]
 split
 ·rename_i t e
  have : ∃ b, kitB t n = some b := by
   have ht : t ∈ ["NoneType", "int", "bool", "str", "tuple", "list", "dict"] := by cases x <;> simp [tyN] at e <;> subst e <;> decide
   simp only [List.mem_cons, List.not_mem_nil, or_false] at hn ht
   rcases hn with rfl | rfl | rfl | rfl | rfl | rfl <;> rcases ht with rfl | rfl | rfl | rfl | rfl | rfl | rfl <;> first | exact ⟨true, by decide +kernel⟩ | exact ⟨false, by decide +kernel⟩
  obtain ⟨b, hb⟩ := this
  exact ⟨b, hb, q b (fun t' z => by cases e.symm.trans z; exact hb) fun z => by rw [z] at e; cases e⟩
 ·rename_i e
  rcases h with h | ⟨D, fs, rfl, cl⟩
  ·rw [e] at h; cases h
  ·exact ⟨cl, hn, q false (fun t z => nomatch z) fun _ => rfl⟩
theorem isi_is {x : PV} {n : String} {f : PV → Bool} {Q : PV → Prop} (h : Kn K x) (hn : n ∈ ["int", "bool", "str", "tuple", "list", "dict"]) (hf : ∀ x t, tyN x = some t → kitB t n = some (f x)) (h0 : ∀ x, tyN x = none → f x = false) (q : Q (.bl (f x))) : rIsI K [x, .raw (.ty n)] Q := by
 refine isi_ty h hn fun b h1 h2 => ?_
 cases e : tyN x with
 | some t =>
  have := (h1 t e).symm.trans (hf x t e)
  cases this
  exact q
 | none => rw [h2 e, ← h0 x e]; exact q
def isIb : PV → Bool
 | .int _ => true
 | .bl _ => true
 | _ => false
def isBl : PV → Bool
 | .bl _ => true
 | _ => false
def isSt : PV → Bool
 | .str _ => true
 | _ => false
def isTu : PV → Bool
 | .tup _ => true
 | _ => false
theorem isi_int {x : PV} {Q : PV → Prop} (h : Kn K x) (q : Q (.bl (isIb x))) : rIsI K [x, .raw (.ty "int")] Q :=
 isi_is h (by decide) (fun x t e => by cases x <;> simp [tyN] at e <;> subst e <;> first | (show kitB _ _ = some true; decide +kernel) | (show kitB _ _ = some false; decide +kernel)) (fun x e => by cases x <;> simp [tyN] at e <;> rfl) q
theorem isi_bool {x : PV} {Q : PV → Prop} (h : Kn K x) (q : Q (.bl (isBl x))) : rIsI K [x, .raw (.ty "bool")] Q :=
 isi_is h (by decide) (fun x t e => by cases x <;> simp [tyN] at e <;> subst e <;> first | (show kitB _ _ = some true; decide +kernel) | (show kitB _ _ = some false; decide +kernel)) (fun x e => by cases x <;> simp [tyN] at e <;> rfl) q
theorem isi_str {x : PV} {Q : PV → Prop} (h : Kn K x) (q : Q (.bl (isSt x))) : rIsI K [x, .raw (.ty "str")] Q :=
 isi_is h (by decide) (fun x t e => by cases x <;> simp [tyN] at e <;> subst e <;> first | (show kitB _ _ = some true; decide +kernel) | (show kitB _ _ = some false; decide +kernel)) (fun x e => by cases x <;> simp [tyN] at e <;> rfl) q
theorem isi_tuple {x : PV} {Q : PV → Prop} (h : Kn K x) (q : Q (.bl (isTu x))) : rIsI K [x, .raw (.ty "tuple")] Q :=
 isi_is h (by decide) (fun x t e => by cases x <;> simp [tyN] at e <;> subst e <;> first | (show kitB _ _ = some true; decide +kernel) | (show kitB _ _ = some false; decide +kernel)) (fun x e => by cases x <;> simp [tyN] at e <;> rfl) q
theorem rd_is_integer (h : sp_is_integer K C args P) : ts_is_integer K C { nx := fun _ => P .non, rt := fun x _ => P x } (startP 1 args) := by
 obtain ⟨x, rfl, hk, hp⟩ := h
 have e : startP 1 [x] = [.va x] := rfl
 simp only [ts_is_integer, e, tLcP, tForP, iStrP, iListP, iTupP, iRng1P, iRng2P, iEnumP, wipeP, tAppP, tJoinP, tSeqP, tRetP, tRetNP, tIfSP, tNextP, tNevP, tSetP, tSetFP, tDropP, tAsgP, gNameP, gNilP, gConsP, gTupP, tAndVP, tNotVP, tOrVP, tCBP, tConsP, tNilP, tVarP, tConP, tBlP, tOrP, tAndP, tNotP, tOpP, tChainP, tCallP, tCallFP, tTupP, tLstP, tLstFP, tValP, tIfP, tNegP, tSliceP, tNoPartP, tPartP, tSeqFP, tYesP, frz, List.getElem?_cons_zero, List.getElem?_cons_succ, List.set_cons_zero, List.set_cons_succ, List.append_nil, List.length_cons, List.length_nil, Nat.zero_add]
 refine isi_int hk ?_
 cases x <;> first | exact isi_bool hk hp | exact hp
theorem rd_is_station (h : sp_is_station K C args P) : ts_is_station K C { nx := fun _ => P .non, rt := fun x _ => P x } (startP 1 args) := by
 obtain ⟨x, rfl, hk, hp⟩ := h
 have e : startP 1 [x] = [.va x] := rfl
 simp only [ts_is_station, e, tLcP, tForP, iStrP, iListP, iTupP, iRng1P, iRng2P, iEnumP, wipeP, tAppP, tJoinP, tSeqP, tRetP, tRetNP, tIfSP, tNextP, tNevP, tSetP, tSetFP, tDropP, tAsgP, gNameP, gNilP, gConsP, gTupP, tAndVP, tNotVP, tOrVP, tCBP, tConsP, tNilP, tVarP, tConP, tBlP, tOrP, tAndP, tNotP, tOpP, tChainP, tCallP, tCallFP, tTupP, tLstP, tLstFP, tValP, tIfP, tNegP, tSliceP, tNoPartP, tPartP, tSeqFP, tYesP, frz, List.getElem?_cons_zero, List.getElem?_cons_succ, List.set_cons_zero, List.set_cons_succ, List.append_nil, List.length_cons, List.length_nil, Nat.zero_add]
 refine ⟨x, rfl, hk, ?_⟩
 cases x <;> exact hp
theorem rd_is_later (h : sp_is_later K C args P) : ts_is_later K C { nx := fun _ => P .non, rt := fun x _ => P x } (startP 2 args) := by
 obtain ⟨x, s, rfl, hk, hp⟩ := h
 have e : startP 2 [x, .int s] = [.va x, .va (.int s)] := rfl
 simp only [ts_is_later, e, tLcP, tForP, iStrP, iListP, iTupP, iRng1P, iRng2P, iEnumP, wipeP, tAppP, tJoinP, tSeqP, tRetP, tRetNP, tIfSP, tNextP, tNevP, tSetP, tSetFP, tDropP, tAsgP, gNameP, gNilP, gConsP, gTupP, tAndVP, tNotVP, tOrVP, tCBP, tConsP, tNilP, tVarP, tConP, tBlP, tOrP, tAndP, tNotP, tOpP, tChainP, tCallP, tCallFP, tTupP, tLstP, tLstFP, tValP, tIfP, tNegP, tSliceP, tNoPartP, tPartP, tSeqFP, tYesP, frz, List.getElem?_cons_zero, List.getElem?_cons_succ, List.set_cons_zero, List.set_cons_succ, List.append_nil, List.length_cons, List.length_nil, Nat.zero_add]
 refine ⟨x, rfl, hk, ?_⟩
 cases x <;> exact hp
theorem blsOf_map {α : Type} (f : α → Bool) : ∀ xs : List α, blsOf (xs.map fun c => PV.bl (f c)) = some (xs.map f)
 | [] => rfl
 | x :: xs => by rw [List.map_cons, blsOf, blsOf_map f xs]; rfl
theorem rd_is_trip_name (h : sp_is_trip_name K C args P) : ts_is_trip_name K C { nx := fun _ => P .non, rt := fun x _ => P x } (startP 2 args) := by
 obtain ⟨x, rfl, hk, hz, hp⟩ := h
 have e : startP 2 [x] = [.va x, .no] := rfl
 simp only [ts_is_trip_name, e, tLcP, tForP, iStrP, iListP, iTupP, iRng1P, iRng2P, iEnumP, wipeP, tAppP, tJoinP, tSeqP, tRetP, tRetNP, tIfSP, tNextP, tNevP, tSetP, tSetFP, tDropP, tAsgP, gNameP, gNilP, gConsP, gTupP, tAndVP, tNotVP, tOrVP, tCBP, tConsP, tNilP, tVarP, tConP, tBlP, tOrP, tAndP, tNotP, tOpP, tChainP, tCallP, tCallFP, tTupP, tLstP, tLstFP, tValP, tIfP, tNegP, tSliceP, tNoPartP, tPartP, tSeqFP, tYesP, frz, List.getElem?_cons_zero, List.getElem?_cons_succ, List.set_cons_zero, List.set_cons_succ, List.append_nil, List.length_cons, List.length_nil, Nat.zero_add]
 refine isi_str hk ?_
 cases x <;> try exact hp
 rename_i z
 have hz := hz z rfl
 simp only [isSt, rLe, rLen, rAllP, Bool.not_true, Bool.false_eq_true, if_false, tLcP, tForP, iStrP, iListP, iTupP, iRng1P, iRng2P, iEnumP, wipeP, tAppP, tJoinP, tSeqP, tRetP, tRetNP, tIfSP, tNextP, tNevP, tSetP, tSetFP, tDropP, tAsgP, gNameP, gNilP, gConsP, gTupP, tAndVP, tNotVP, tOrVP, tCBP, tConsP, tNilP, tVarP, tConP, tBlP, tOrP, tAndP, tNotP, tOpP, tChainP, tCallP, tCallFP, tTupP, tLstP, tLstFP, tValP, tIfP, tNegP, tSliceP, tNoPartP, tPartP, tSeqFP, tYesP, frz, List.getElem?_cons_zero, List.getElem?_cons_succ, List.set_cons_zero, List.set_cons_succ, List.append_nil, List.length_cons, List.length_nil, Nat.zero_add]
 refine ⟨hz, _, rfl, ?_⟩
 by_cases h1 : (1 : Int) ≤ z.length
 ·rw [decide_eq_true h1]
  by_cases h2 : (z.length : Int) ≤ 8
  ·simp only [decide_eq_true h2, if_true, Bool.not_true, Bool.false_eq_true, if_false, tLcP, tForP, iStrP, iListP, iTupP, iRng1P, iRng2P, iEnumP, wipeP, tAppP, tJoinP, tSeqP, tRetP, tRetNP, tIfSP, tNextP, tNevP, tSetP, tSetFP, tDropP, tAsgP, gNameP, gNilP, gConsP, gTupP, tAndVP, tNotVP, tOrVP, tCBP, tConsP, tNilP, tVarP, tConP, tBlP, tOrP, tAndP, tNotP, tOpP, tChainP, tCallP, tCallFP, tTupP, tLstP, tLstFP, tValP, tIfP, tNegP, tSliceP, tNoPartP, tPartP, tSeqFP, tYesP, frz, List.getElem?_cons_zero, List.getElem?_cons_succ, List.set_cons_zero, List.set_cons_succ, List.append_nil, List.length_cons, List.length_nil, Nat.zero_add]
   refine ⟨fun i acc η => acc = (z.cps.toList.take i).map (fun c => .bl (decide (c ∈ abc.cps.toList))) ∧ η = [.va (.str z), .no], ⟨rfl, rfl⟩, ?_, ?_⟩
   ·rintro i y acc η hi ⟨rfl, rfl⟩
    rw [List.getElem?_map] at hi
    cases q : z.cps.toList[i]? with
    | none => rw [q] at hi; cases hi
    | some c =>
     rw [q] at hi; cases hi
     have hil : i < z.cps.toList.length := (List.getElem?_eq_some_iff.mp q).1
     simp only [rInS, if_true, tLcP, tForP, iStrP, iListP, iTupP, iRng1P, iRng2P, iEnumP, wipeP, tAppP, tJoinP, tSeqP, tRetP, tRetNP, tIfSP, tNextP, tNevP, tSetP, tSetFP, tDropP, tAsgP, gNameP, gNilP, gConsP, gTupP, tAndVP, tNotVP, tOrVP, tCBP, tConsP, tNilP, tVarP, tConP, tBlP, tOrP, tAndP, tNotP, tOpP, tChainP, tCallP, tCallFP, tTupP, tLstP, tLstFP, tValP, tIfP, tNegP, tSliceP, tNoPartP, tPartP, tSeqFP, tYesP, frz, List.getElem?_cons_zero, List.getElem?_cons_succ, List.set_cons_zero, List.set_cons_succ, List.append_nil, List.length_cons, List.length_nil, Nat.zero_add]
     refine ⟨c, rfl, ?_, ?_, trivial⟩
     ·rw [List.length_map, List.length_take]
      have : sizeLine > 100 := by decide
      have : z.length = z.cps.toList.length := by simp [Str.length]
      omega
     ·simp only [Bool.false_eq_true, if_false]
      rw [List.take_succ, q]
      simp [abc]
   ·rintro acc η ⟨rfl, rfl⟩
    rw [List.length_map, List.take_length]
    refine ⟨_, blsOf_map _ _, ?_⟩
    have : (isNm (.str z)) = ((z.cps.toList.map fun c => decide (c ∈ abc.cps.toList)).all id) := by
     have h1' : 1 ≤ z.length := by omega
     have h2' : z.length ≤ 8 := by omega
     simp [isNm, h1', h2']
    rw [← this]
    exact hp
  ·simp only [decide_eq_false h2, if_true, Bool.not_false]
   have : isNm (.str z) = false := by
    have h2' : ¬ z.length ≤ 8 := by omega
    simp [isNm, h2']
   rw [this] at hp
   exact hp
 ·simp only [decide_eq_false h1, Bool.false_eq_true, if_false, if_true, Bool.not_false]
  have : isNm (.str z) = false := by
   have h2' : ¬ 1 ≤ z.length := by omega
   simp only [isNm, decide_eq_false h2', Bool.false_and]
  rw [this] at hp
  exact hp
theorem Kn.i {i : Int} : Kn K (.int i) := .inl rfl
theorem Kn.s {i : Str} : Kn K (.str i) := .inl rfl
theorem Kn.t {xs : List PV} : Kn K (.tup xs) := .inl rfl
theorem rd_is_trip (h : sp_is_trip K C args P) : ts_is_trip K C { nx := fun _ => P .non, rt := fun x _ => P x } (startP 4 args) := by
 obtain ⟨r, rfl, hz, hp⟩ := h
 have e : startP 4 [rowP r] = [.va (rowP r), .no, .no, .no] := rfl
 simp only [ts_is_trip, e, tLcP, tForP, iStrP, iListP, iTupP, iRng1P, iRng2P, iEnumP, wipeP, tAppP, tJoinP, tSeqP, tRetP, tRetNP, tIfSP, tNextP, tNevP, tSetP, tSetFP, tDropP, tAsgP, gNameP, gNilP, gConsP, gTupP, tAndVP, tNotVP, tOrVP, tCBP, tConsP, tNilP, tVarP, tConP, tBlP, tOrP, tAndP, tNotP, tOpP, tChainP, tCallP, tCallFP, tTupP, tLstP, tLstFP, tValP, tIfP, tNegP, tSliceP, tNoPartP, tPartP, tSeqFP, tYesP, frz, List.getElem?_cons_zero, List.getElem?_cons_succ, List.set_cons_zero, List.set_cons_succ, List.append_nil, List.length_cons, List.length_nil, Nat.zero_add]
 refine isi_tuple .t ?_
 simp only [isTu, rowP, rLen, Bool.not_true, Bool.false_eq_true, if_false, tLcP, tForP, iStrP, iListP, iTupP, iRng1P, iRng2P, iEnumP, wipeP, tAppP, tJoinP, tSeqP, tRetP, tRetNP, tIfSP, tNextP, tNevP, tSetP, tSetFP, tDropP, tAsgP, gNameP, gNilP, gConsP, gTupP, tAndVP, tNotVP, tOrVP, tCBP, tConsP, tNilP, tVarP, tConP, tBlP, tOrP, tAndP, tNotP, tOpP, tChainP, tCallP, tCallFP, tTupP, tLstP, tLstFP, tValP, tIfP, tNegP, tSliceP, tNoPartP, tPartP, tSeqFP, tYesP, frz, List.getElem?_cons_zero, List.getElem?_cons_succ, List.set_cons_zero, List.set_cons_succ, List.append_nil, List.length_cons, List.length_nil, Nat.zero_add]
 refine ⟨.int 3, .int 3, rfl, rfl, rfl, rfl, ?_⟩
 have q : (if true = true then !PyData.eqv (.int 3) (.int 3) else PyData.eqv (.int 3) (.int 3)) = false := by decide +kernel
 simp only [q, Bool.false_eq_true, if_false, tLcP, tForP, iStrP, iListP, iTupP, iRng1P, iRng2P, iEnumP, wipeP, tAppP, tJoinP, tSeqP, tRetP, tRetNP, tIfSP, tNextP, tNevP, tSetP, tSetFP, tDropP, tAsgP, gNameP, gNilP, gConsP, gTupP, tAndVP, tNotVP, tOrVP, tCBP, tConsP, tNilP, tVarP, tConP, tBlP, tOrP, tAndP, tNotP, tOpP, tChainP, tCallP, tCallFP, tTupP, tLstP, tLstFP, tValP, tIfP, tNegP, tSliceP, tNoPartP, tPartP, tSeqFP, tYesP, frz, List.getElem?_cons_zero, List.getElem?_cons_succ, List.set_cons_zero, List.set_cons_succ, List.append_nil, List.length_cons, List.length_nil, Nat.zero_add]
 refine ⟨trivial, trivial, _, rfl, .s, fun z e => by cases e; exact hz, ?_⟩
 cases q : isNm (.str r.1) with
 | false => rw [q] at hp; exact hp
 | true =>
  rw [q] at hp
  refine ⟨_, rfl, .i, ?_⟩
  by_cases h1 : 0 ≤ r.2.1
  ·have h1' : isStn (.int r.2.1) = true := decide_eq_true h1
   rw [h1']
   rw [decide_eq_true h1] at hp
   exact ⟨_, _, rfl, .i, hp⟩
  ·have h1' : isStn (.int r.2.1) = false := decide_eq_false h1
   rw [h1']
   rw [decide_eq_false h1] at hp
   exact hp
theorem rd_check_seats (h : sp_check_seats K C args P) : ts_check_seats K C { nx := fun _ => P .non, rt := fun x _ => P x } (startP 1 args) := by
 obtain ⟨n, rfl, h1, h2, hp⟩ := h
 have e : startP 1 [.int n] = [.va (.int n)] := rfl
 simp only [ts_check_seats, e, tLcP, tForP, iStrP, iListP, iTupP, iRng1P, iRng2P, iEnumP, wipeP, tAppP, tJoinP, tSeqP, tRetP, tRetNP, tIfSP, tNextP, tNevP, tSetP, tSetFP, tDropP, tAsgP, gNameP, gNilP, gConsP, gTupP, tAndVP, tNotVP, tOrVP, tCBP, tConsP, tNilP, tVarP, tConP, tBlP, tOrP, tAndP, tNotP, tOpP, tChainP, tCallP, tCallFP, tTupP, tLstP, tLstFP, tValP, tIfP, tNegP, tSliceP, tNoPartP, tPartP, tSeqFP, tYesP, frz, List.getElem?_cons_zero, List.getElem?_cons_succ, List.set_cons_zero, List.set_cons_succ, List.append_nil, List.length_cons, List.length_nil, Nat.zero_add]
 refine ⟨_, rfl, .i, ?_⟩
 simp only [isInt, rLe, Bool.not_true, Bool.false_eq_true, if_false, tLcP, tForP, iStrP, iListP, iTupP, iRng1P, iRng2P, iEnumP, wipeP, tAppP, tJoinP, tSeqP, tRetP, tRetNP, tIfSP, tNextP, tNevP, tSetP, tSetFP, tDropP, tAsgP, gNameP, gNilP, gConsP, gTupP, tAndVP, tNotVP, tOrVP, tCBP, tConsP, tNilP, tVarP, tConP, tBlP, tOrP, tAndP, tNotP, tOpP, tChainP, tCallP, tCallFP, tTupP, tLstP, tLstFP, tValP, tIfP, tNegP, tSliceP, tNoPartP, tPartP, tSeqFP, tYesP, frz, List.getElem?_cons_zero, List.getElem?_cons_succ, List.set_cons_zero, List.set_cons_succ, List.append_nil, List.length_cons, List.length_nil, Nat.zero_add]
 refine ⟨_, rfl, ?_⟩
 simp only [decide_eq_true h1, decide_eq_true h2, if_true, Bool.not_true, Bool.false_eq_true, if_false, tLcP, tForP, iStrP, iListP, iTupP, iRng1P, iRng2P, iEnumP, wipeP, tAppP, tJoinP, tSeqP, tRetP, tRetNP, tIfSP, tNextP, tNevP, tSetP, tSetFP, tDropP, tAsgP, gNameP, gNilP, gConsP, gTupP, tAndVP, tNotVP, tOrVP, tCBP, tConsP, tNilP, tVarP, tConP, tBlP, tOrP, tAndP, tNotP, tOpP, tChainP, tCallP, tCallFP, tTupP, tLstP, tLstFP, tValP, tIfP, tNegP, tSliceP, tNoPartP, tPartP, tSeqFP, tYesP, frz, List.getElem?_cons_zero, List.getElem?_cons_succ, List.set_cons_zero, List.set_cons_succ, List.append_nil, List.length_cons, List.length_nil, Nat.zero_add]
 exact hp
theorem rd_Line_trips (h : sp_Line_trips K C args P) : ts_Line_trips K C { nx := fun _ => P .non, rt := fun x _ => P x } (startP 1 args) := by
 obtain ⟨n, rs, rfl, hp⟩ := h
 exact ⟨rfl, _, rfl, hp⟩
end
section
variable {K : PySem.W.Frag} {P : PV → Prop} {i j : Int} {x y : PV} {xs ys : List PV} {a b : Str} {η : EP'} {Q : PV → EP' → Prop} {R : EP' → Prop} {n : Nat}
theorem q_add (h : P (.int (i + j))) : rAdd (.int i) (.int j) P := h
theorem q_addS (l : a.length + b.length ≤ sizeLine) (h : P (.str (a ++ b))) : rAdd (.str a) (.str b) P := ⟨l, h⟩
theorem q_addL (l : xs.length + ys.length ≤ sizeLine) (h : P (.lst (xs ++ ys))) : rAdd (.lst xs) (.lst ys) P := ⟨l, h⟩
theorem q_sub (h : P (.int (i - j))) : rSub (.int i) (.int j) P := h
theorem q_mul (c : CMul i j) (h : P (.int (i * j))) : rMulA (.int i) (.int j) P := .inl ⟨c, h⟩
theorem q_mulS (h1 : 1 ≤ j) (h2 : j ≤ 1000) (l : a.length ≤ 1000) (h : P (.str (strRep a j.toNat))) : rMulA (.str a) (.int j) P := .inr ⟨h1, h2, l, h⟩
theorem q_div (c : CDiv i j) (h : P (.int (i / j))) : rDiv (.int i) (.int j) P := ⟨c, h⟩
theorem q_mod (c : 0 < j) (h : P (.int (i % j))) : rMod (.int i) (.int j) P := ⟨c, h⟩
theorem q_pow (c : CPow i j) (h : P (.int (i ^ j.toNat))) : rPow (.int i) (.int j) P := ⟨c, h⟩
theorem q_lt (h : P (.bl (decide (i < j)))) : rLt (.int i) (.int j) P := h
theorem q_gt (h : P (.bl (decide (j < i)))) : rGt (.int i) (.int j) P := h
theorem q_ge (h : P (.bl (decide (j ≤ i)))) : rGe (.int i) (.int j) P := h
theorem q_le (h : P (.bl (decide (i ≤ j)))) : rLe (.int i) (.int j) P := h
theorem q_leS (h : P (.bl (!decide (b.cps.toList < a.cps.toList)))) : rLe (.str a) (.str b) P := h
theorem beq_int : (i == j) = decide (i = j) := by by_cases h : i = j <;> simp [h]
theorem q_eq (h : P (.bl (decide (i = j)))) : rEqP false (.int i) (.int j) P := ⟨.int i, .int j, rfl, rfl, rfl, rfl, by
 have e : PyData.eqv (.int i) (.int j) = decide (i = j) := by rw [show PyData.eqv (.int i) (.int j) = (i == j) by simp [PyData.eqv]]; exact beq_int
 simpa [e] using h⟩
theorem q_lenS (l : a.length ≤ sizeLine) (h : P (.int a.length)) : rLen [.str a] P := ⟨l, h⟩
theorem q_len (h : P (.int xs.length)) : rLen [.lst xs] P := h
theorem q_lenT (h : P (.int xs.length)) : rLen [.tup xs] P := h
theorem q_lenC {ns : List Int} (h : P (.int ns.length)) : rLen [.scr ns] P := h
theorem q_ix (e : atI xs i = some x) (h : P x) : rIxP (.lst xs) (.int i) P := ⟨x, e, h⟩
theorem q_ixT (e : atI xs i = some x) (h : P x) : rIxP (.tup xs) (.int i) P := ⟨x, e, h⟩
theorem q_ixC {ns : List Int} (e : atI ns i = some j) (h : P (.int j)) : rIxP (.scr ns) (.int i) P := ⟨j, e, h⟩
theorem q_ixS {c : Nat} (l : a.length ≤ sizeLine) (e : atI a.cps.toList i = some c) (h : P (.str ⟨#[c]⟩)) : rIxP (.str a) (.int i) P := ⟨l, c, e, h⟩
theorem q_max (h : P (.int (if j > i then j else i))) : rMax2 [.int i, .int j] P := h
theorem q_min (h : P (.int (if j < i then j else i))) : rMin2 [.int i, .int j] P := h
theorem q_abs (h : P (.int (if i < 0 then -i else i))) : rAbs [.int i] P := h
theorem q_all {bs : List Bool} (e : blsOf xs = some bs) (h : P (.bl (bs.all id))) : rAllP [.lst xs] P := ⟨bs, e, h⟩
theorem q_ite {p : Prop} [Decidable p] {A B : Prop} (h1 : p → A) (h2 : ¬ p → B) : if decide p = true then A else B := by
 by_cases h : p
 ·rw [if_pos (decide_eq_true h)]; exact h1 h
 ·rw [if_neg (by simp [h])]; exact h2 h
theorem q_iteT {A B : Prop} (h : A) : if true = true then A else B := h
theorem q_iteF {A B : Prop} (h : B) : if false = true then A else B := h
theorem q_cmp {p : Prop} [Decidable p] {A B : Prop} (h1 : p → A) (h2 : ¬ p → B) : if (!decide p) = true then B else A := by
 by_cases h : p
 ·rw [decide_eq_true h]; exact h1 h
 ·rw [decide_eq_false h]; exact h2 h
theorem q_it {A B : Prop} [Decidable True] (h : A) : if True then A else B := by rw [if_pos trivial]; exact h
theorem q_ixO {s : Nat} (e : η[s]? = some (.ow (.l xs))) (e1 : atI xs i = some x) (h : Q x η) : tIxOP s (fun η P => P (.int i) η) η Q := by
 refine ⟨⟨_, e⟩, ?_⟩
 show (match η[s]? with
 | some (.ow (.l xs)) => ∃ kk v, PV.int i = .int kk ∧ atI xs kk = some v ∧ Q v η
 | _ => False)
 rw [e]
 exact ⟨i, x, rfl, e1, h⟩
theorem q_setO {s : Nat} (e : η[s]? = some (.ow (.l xs))) (e1 : ixN xs.length i = some n) (h : R (η.set s (.ow (.l (xs.set n x))))) : gSubP s (fun η P => P (.int i) η) x η R := by
 refine ⟨⟨_, e⟩, ?_⟩
 show (match η[s]? with
 | some (.ow (.l xs)) => ∃ kk j, PV.int i = .int kk ∧ ixN xs.length kk = some j ∧ R (η.set s (.ow (.l (xs.set j x))))
 | _ => False)
 rw [e]
 exact ⟨i, n, rfl, e1, h⟩
theorem q_draw {s : Nat} {o : Ow} {C : Addr} {m : Int} {ta : TAp} (e : η[s]? = some (.ow o)) (ha : ta = fun η P => P [.int m] η) (hp : Pool o) (h0 : 0 < m) (h1 : m < 10 ^ 40) (h : ∀ o' (k : Int), Pool o' → 0 ≤ k → k < m → Q (.int k) (η.set s (.ow o'))) : tCallRP s (sp_law_draw K C) ta η Q := by
 subst ha
 refine ⟨⟨_, e⟩, ?_⟩
 show (match η[s]? with
 | some (.ow o) => sp_law_draw K C o [.int m] fun z o' => Q z (η.set s (.ow o'))
 | _ => False)
 rw [e]
 exact ⟨m, hp, rfl, h0, h1, fun o' k p a b => h o' k p a b⟩
variable {D : EndsP} {t u : TSp} {te ta tb : TEp} {tx : TAp} {tf : TFp} {s : Nat} {o : Ow} {r : R2p} {r1 : R1p} {tc td : TTp} {QA : List PV → EP' → Prop} {QB : Bool → EP' → Prop} {g : TGp} {ti : TIp}
theorem w_seq (h : t { D with nx := fun η' => u D η' } η) : tSeqP t u D η := h
theorem w_set (h : te η fun x η1 => D.nx (η1.set s (.va x))) : tSetP s te D η := h
theorem w_if (h : tc η fun b η1 => if b = true then t D η1 else u D η1) : tIfSP tc t u D η := h
theorem w_ret (h : te η D.rt) : tRetP te D η := h
theorem w_next (h : D.nx η) : tNextP D η := h
theorem w_asg (h : te η fun x η1 => g x η1 D.nx) : tAsgP te g D η := h
theorem w_con (h : Q x η) : tConP x η Q := h
theorem w_var (e : η[s]? = some (.va x)) (h : Q x η) : tVarP s η Q := by unfold tVarP; rw [e]; exact h
theorem w_varK {x : PV} (e : η[s]? = some (.va x)) (h : Q (wkV x) η) : tVarKP s η Q := by unfold tVarKP; rw [e]; exact h
theorem w_varO (e : η[s]? = some (.ow o)) (h : Q (frz o) (η.set s (.va (frz o)))) : tVarP s η Q := by unfold tVarP; rw [e]; exact h
theorem w_op (h : ta η fun x η1 => tb η1 fun y η2 => r x y fun z => Q z η2) : tOpP r ta tb η Q := h
theorem w_cb (h : tx η fun xs η1 => r1 xs fun z => Q z η1) : tCBP r1 tx η Q := h
theorem w_nil (h : QA [] η) : tNilP η QA := h
theorem w_cons (h : te η fun x η1 => tx η1 fun xs η2 => QA (x :: xs) η2) : tConsP te tx η QA := h
theorem w_tup (h : tx η fun xs η1 => xs.length ≤ sizeLine ∧ Q (.tup xs) η1) : tTupP tx η Q := h
theorem w_lst (h : tx η fun xs η1 => xs.length ≤ sizeLine ∧ Q (.lst xs) η1) : tLstP tx η Q := h
theorem w_lstF (h : tx η fun xs η1 => xs.length ≤ sizeLine ∧ QA xs η1) : tLstFP tx η QA := h
theorem w_val (h : tf η fun xs η1 => Q (.lst xs) η1) : tValP tf η Q := h
theorem w_bl (h : te η fun x η1 => match x with | .bl b => QB b η1 | _ => False) : tBlP te η QB := h
theorem w_or (h : tc η fun c η1 => if c = true then QB true η1 else td η1 QB) : tOrP tc td η QB := h
theorem w_and (h : tc η fun c η1 => if c = true then td η1 QB else QB false η1) : tAndP tc td η QB := h
theorem w_not (h : tc η fun c η1 => QB (!c) η1) : tNotP tc η QB := h
theorem w_ife (h : tc η fun c η1 => if c = true then ta η1 Q else tb η1 Q) : tIfP tc ta tb η Q := h
theorem w_call {sp : SpP} {dps : List PV} (h : tx η fun args η1 => sp (args ++ dps) fun z => Q z η1) : tCallP sp dps tx η Q := h
theorem w_lc {tt : TTp} {vs : List Nat} (h : ti η fun xs η1 => ∃ Inv : Nat → List PV → EP' → Prop, Inv 0 [] (wipeP η1 vs) ∧
 (∀ i x acc η2, xs[i]? = some x → Inv i acc η2 → g x (wipeP η2 vs) fun η3 => tt η3 fun b η4 => if b = true then te η4 fun y η5 => acc.length < sizeLine ∧ Inv (i + 1) (acc ++ [y]) (wipeP η5 vs) else Inv (i + 1) acc (wipeP η4 vs)) ∧
 (∀ acc η2, Inv xs.length acc η2 → QA acc η2)) : tLcP ti g tt te vs η QA := h
theorem w_for (h : ti η fun xs η1 => ∃ Inv : Nat → EP' → Prop, Inv 0 η1 ∧
 (∀ i x η2, xs[i]? = some x → Inv i η2 → g x η2 fun η3 => t { D with nx := Inv (i + 1), ct := Inv (i + 1), bk := D.nx } η3) ∧ (∀ η2, Inv xs.length η2 → D.nx η2)) : tForP ti g t D η := h
theorem w_rng1 (h : te η fun x η1 => match x with
 | .int j => -(2 ^ 62) ≤ j ∧ j < 2 ^ 62 ∧ QA (rangeP 0 j.toNat) η1
 | _ => False) : iRng1P te η QA := h
theorem rangeP_get {lo : Int} {n i : Nat} {x : PV} (h : (rangeP lo n)[i]? = some x) : i < n ∧ x = .int (lo + i) := by
 unfold rangeP at h
 rw [List.getElem?_map] at h
 by_cases hi : i < n
 ·rw [List.getElem?_range hi] at h
  cases h
  exact ⟨hi, rfl⟩
 ·rw [List.getElem?_eq_none (by simpa using hi)] at h; cases h
theorem rangeP_len {lo : Int} {n : Nat} : (rangeP lo n).length = n := by simp [rangeP]
theorem sz1 {a : PV} : [a].length ≤ sizeLine := by show 1 ≤ sizeLine; decide
theorem sz2 {a b : PV} : [a, b].length ≤ sizeLine := by show 2 ≤ sizeLine; decide
theorem sz3 {a b c : PV} : [a, b, c].length ≤ sizeLine := by show 3 ≤ sizeLine; decide
theorem w_gname {R : EP' → Prop} {x : PV} {η : EP'} {s : Nat} (h : R (η.set s (.va x))) : gNameP s x η R := h
theorem w_yes {QB : Bool → EP' → Prop} {η : EP'} (h : QB true η) : tYesP η QB := h
theorem w_join {ta tb : TEp} {η : EP'} {Q : PV → EP' → Prop} (h : ta η fun x η1 => (∃ z, x = .str z) ∧ tb η1 fun y η2 => match x, y with
 | .str z, .lst xs => ∃ ys, strsOf xs = some ys ∧ (ys.map (·.length)).sum + ys.length * z.length ≤ 16777216 ∧ Q (.str (Txt.join z ys)) η2
 | _, _ => False) : tJoinP ta tb η Q := h
theorem w_slice {te : TEp} {tl th : TOp} {η : EP'} {Q : PV → EP' → Prop} (h : te η fun x η1 => tl η1 fun l η2 => th η2 fun u η3 => rSlP x l u fun z => Q z η3) : tSliceP te tl th η Q := h
theorem w_nop {η : EP'} {P : Option Int → EP' → Prop} (h : P none η) : tNoPartP η P := h
theorem w_part {te : TEp} {η : EP'} {P : Option Int → EP' → Prop} (h : te η fun x η1 => match x with
 | .int i => P (some i) η1
 | _ => False) : tPartP te η P := h
theorem q_slS {z : Str} {lo hi : Option Int} {P : PV → Prop} (l : z.length ≤ sizeLine) (h : P (.str (cutS z lo hi))) : rSlP (.str z) lo hi P := ⟨l, h⟩
theorem q_slL {xs : List PV} {lo hi : Option Int} {P : PV → Prop} (h : P (.lst (cutP xs lo hi))) : rSlP (.lst xs) lo hi P := h
def callM (s : Nat) (sr : SpR) (args : List PV) (η : EP') (Q : PV → EP' → Prop) : Prop := match η[s]? with
 | some (.ow o) => sr o args fun z o' => Q z (η.set s (.ow o'))
 | _ => False
theorem w_callR {s : Nat} {sr : SpR} {tx : TAp} {η : EP'} {Q : PV → EP' → Prop} {o : Ow} (e : η[s]? = some (.ow o)) (h : tx η fun args η1 => callM s sr args η1 Q) : tCallRP s sr tx η Q := ⟨⟨o, e⟩, h⟩
theorem q_callM {s : Nat} {sr : SpR} {args : List PV} {η : EP'} {Q : PV → EP' → Prop} {o : Ow} (e : η[s]? = some (.ow o)) (h : sr o args fun z o' => Q z (η.set s (.ow o'))) : callM s sr args η Q := by unfold callM; rw [e]; exact h
def tStrs : List Str → TAp
 | [] => tNilP
 | w :: ws => tConsP (tConP (.str w)) (tStrs ws)
theorem w_strs {QA : List PV → EP' → Prop} {η : EP'} : ∀ {ws : List Str}, QA (ws.map .str) η → tStrs ws η QA
 | [], h => h
 | w :: ws, h => w_strs (ws := ws) (QA := fun xs η2 => QA (.str w :: xs) η2) h
end
section
variable {K : PySem.W.Frag} {C : Addr} {args : List PV} {P : PV → Prop} {PR : PV → Ow → Prop} {PF : List PV → Prop} {o : Ow}
theorem cmul_l {i j : Int} (h : 0 ≤ i) (h' : i < 1000000007) : CMul i j := .inl ⟨by omega, by omega⟩
theorem mod_lo {i : Int} : 0 ≤ i % 1000000007 := Int.emod_nonneg _ (by decide)
theorem mod_hi {i : Int} : i % 1000000007 < 1000000007 := Int.emod_lt_of_pos _ (by decide)
theorem rd_law_draw (h : sp_law_draw K C o args PR) : ts_law_draw K C { nx := fun η' => ∃ o', η'[0]? = some (Sl.ow o') ∧ PR .non o', rt := fun x η' => ∃ o', η'[0]? = some (Sl.ow o') ∧ PR x o' } (startR 4 o args) := by
 obtain ⟨m, ⟨s, d, c, rfl, h1, h2, h3⟩, rfl, m1, m2, hp⟩ := h
 have e : startR 4 (.l [.int s, .int d, .int c]) [.int m] = [.ow (.l [.int s, .int d, .int c]), .va (.int m), .no, .no] := rfl
 simp only [ts_law_draw, e, tLcP, tForP, iStrP, iListP, iTupP, iRng1P, iRng2P, iEnumP, wipeP, tAppP, tJoinP, tSeqP, tRetP, tRetNP, tIfSP, tNextP, tNevP, tSetP, tSetFP, tDropP, tAsgP, gNameP, gNilP, gConsP, gTupP, tAndVP, tNotVP, tOrVP, tCBP, tConsP, tNilP, tVarP, tConP, tBlP, tOrP, tAndP, tNotP, tOpP, tChainP, tCallP, tCallFP, tTupP, tLstP, tLstFP, tValP, tIfP, tNegP, tSliceP, tNoPartP, tPartP, tSeqFP, tYesP, frz, List.getElem?_cons_zero, List.getElem?_cons_succ, List.set_cons_zero, List.set_cons_succ, List.append_nil, List.length_cons, List.length_nil, Nat.zero_add]
 refine q_ixO rfl rfl (q_add (q_setO rfl rfl (q_ixO rfl rfl (q_mod (by decide) (q_add (q_mul (cmul_l h1 h2) ?_))))))
 refine q_ixO rfl rfl (q_mul (.inl ⟨by decide, by decide⟩) (q_add (q_add (q_mod (by decide) (q_setO rfl rfl ?_)))))
 refine q_ixO rfl rfl (q_gt (q_ite (fun hd => ?_) fun hd => ?_))
 ·refine q_ixO rfl rfl (q_divmodW (cdivW m1 m2) ⟨rfl, q_setO rfl rfl ⟨rfl, _, rfl, ?_⟩⟩)
  exact hp _ _ ⟨_, _, _, rfl, mod_lo, mod_hi, Int.ediv_nonneg h3 (by omega)⟩ (Int.emod_nonneg _ (by omega)) (Int.emod_lt_of_pos _ m1)
 ·refine q_ixO rfl rfl ?_
  refine q_div ⟨by decide, by decide⟩ ?_
  refine q_mod m1 ⟨_, rfl, ?_⟩
  exact hp _ _ ⟨_, _, _, rfl, mod_lo, mod_hi, h3⟩ (Int.emod_nonneg _ (by omega)) (Int.emod_lt_of_pos _ m1)
theorem rd_law_pool (h : sp_law_pool K C args PF) : ts_law_pool K C (startP 2 args) (fun xs _ => PF xs) := by
 obtain ⟨c, rfl, hp⟩ := h
 have e : startP 2 [.int c] = [.va (.int c), .no] := rfl
 simp only [ts_law_pool, e, tLcP, tForP, iStrP, iListP, iTupP, iRng1P, iRng2P, iEnumP, wipeP, tAppP, tJoinP, tSeqP, tRetP, tRetNP, tIfSP, tNextP, tNevP, tSetP, tSetFP, tDropP, tAsgP, gNameP, gNilP, gConsP, gTupP, tAndVP, tNotVP, tOrVP, tCBP, tConsP, tNilP, tVarP, tConP, tBlP, tOrP, tAndP, tNotP, tOpP, tChainP, tCallP, tCallFP, tTupP, tLstP, tLstFP, tValP, tIfP, tNegP, tSliceP, tNoPartP, tPartP, tSeqFP, tYesP, frz, List.getElem?_cons_zero, List.getElem?_cons_succ, List.set_cons_zero, List.set_cons_succ, List.append_nil, List.length_cons, List.length_nil, Nat.zero_add]
 have hz : 10 ≤ sizeLine := by decide
 have key : ∀ d : Int, 0 ≤ d → PF [.int (c % 1000000007), .int d, .int 0] := fun d hd => hp _ _ mod_lo mod_hi hd
 refine q_lt (q_ite (fun hc => ?_) fun hc => ?_)
 ·refine q_it ?_
  refine q_abs ?_
  refine q_mod (by decide) ?_
  exact ⟨by omega, key _ (by split <;> omega)⟩
 ·refine q_pow ⟨by decide, by decide, by decide⟩ ?_
  refine q_ge (q_ite (fun hd => ?_) fun hd => ?_)
  ·refine q_abs ?_
   refine q_mod (by decide) ?_
   exact ⟨by omega, key _ (by split <;> omega)⟩
  ·refine q_mod (by decide) ?_
   exact ⟨by omega, key 0 (by decide)⟩
theorem atI_in {α : Type} {xs : List α} {k : Int} (h0 : 0 ≤ k) (h1 : k < xs.length) : ∃ v, atI xs k = some v ∧ xs[k.toNat]? = some v := by
 have h : k.toNat < xs.length := by omega
 refine ⟨xs[k.toNat], ?_, by simp [h]⟩
 have := atI_nat (xs := xs) (j := k.toNat) (v := xs[k.toNat]) (by simp [h])
 rwa [Int.toNat_of_nonneg h0] at this
theorem rd_law_cell (h : sp_law_cell K C args P) : ts_law_cell K C { nx := fun _ => P .non, rt := fun x _ => P x } (startP 4 args) := by
 obtain ⟨ns, k, rfl, hk, hk', hp⟩ := h
 have e : startP 4 [.scr ns, .int k] = [.va (.scr ns), .va (.int k), .no, .no] := rfl
 simp only [ts_law_cell, e, tLcP, tForP, iStrP, iListP, iTupP, iRng1P, iRng2P, iEnumP, wipeP, tAppP, tJoinP, tSeqP, tRetP, tRetNP, tIfSP, tNextP, tNevP, tSetP, tSetFP, tDropP, tAsgP, gNameP, gNilP, gConsP, gTupP, tAndVP, tNotVP, tOrVP, tCBP, tConsP, tNilP, tVarP, tConP, tBlP, tOrP, tAndP, tNotP, tOpP, tChainP, tCallP, tCallFP, tTupP, tLstP, tLstFP, tValP, tIfP, tNegP, tSliceP, tNoPartP, tPartP, tSeqFP, tYesP, frz, List.getElem?_cons_zero, List.getElem?_cons_succ, List.set_cons_zero, List.set_cons_succ, List.append_nil, List.length_cons, List.length_nil, Nat.zero_add]
 refine q_lenC (q_lt (q_ite (fun h1 => ?_) fun h1 => ?_))
 ·obtain ⟨v, hv, _⟩ := atI_in (xs := ns) hk h1
  exact q_ixC hv (hp v)
 ·refine q_mul (.inr ⟨by omega, by omega⟩) ?_
  refine q_mul (.inr ⟨by omega, by omega⟩) ?_
  refine q_add ?_
  refine q_add ?_
  refine q_mul (.inl ⟨by decide, by decide⟩) ?_
  refine q_mod (by decide) ?_
  refine ⟨fun i η => ∃ (c : Int) (t : Sl), η = [.va (.scr ns), .va (.int k), .va (.int c), t] ∧ 0 ≤ c ∧ c < 1000000007, ⟨_, _, rfl, mod_lo, mod_hi⟩, ?_, ?_⟩
  ·rintro i x η hi ⟨c, t, rfl, c1, c2⟩
   rw [List.getElem?_map] at hi
   cases q : (cutP ns none (some 3))[i]? with
   | none => rw [q] at hi; cases hi
   | some z =>
    rw [q] at hi; cases hi
    refine q_mul (cmul_l c1 c2) ?_
    refine q_add ?_
    refine q_mod (by decide) ?_
    exact ⟨_, _, rfl, mod_lo, mod_hi⟩
  ·rintro η ⟨c, t, rfl, _, _⟩
   exact hp c
theorem rd_valid_beginning (h : sp_valid_beginning K C args P) : ts_valid_beginning K C { nx := fun _ => P .non, rt := fun x _ => P x } (startP 4 args) := by
 obtain ⟨rs, rfl, hv, hp⟩ := h
 have e : startP 4 [rowsP rs] = [.va (rowsP rs), .no, .no, .no] := rfl
 simp only [ts_valid_beginning, e, rowsP, tLcP, tForP, iStrP, iListP, iTupP, iRng1P, iRng2P, iEnumP, wipeP, tAppP, tJoinP, tSeqP, tRetP, tRetNP, tIfSP, tNextP, tNevP, tSetP, tSetFP, tDropP, tAsgP, gNameP, gNilP, gConsP, gTupP, tAndVP, tNotVP, tOrVP, tCBP, tConsP, tNilP, tVarP, tConP, tBlP, tOrP, tAndP, tNotP, tOpP, tChainP, tCallP, tCallFP, tTupP, tLstP, tLstFP, tValP, tIfP, tNegP, tSliceP, tNoPartP, tPartP, tSeqFP, tYesP, frz, List.getElem?_cons_zero, List.getElem?_cons_succ, List.set_cons_zero, List.set_cons_succ, List.append_nil, List.length_cons, List.length_nil, Nat.zero_add]
 refine ⟨fun i η => ∃ b s t, η = [.va (.tup (rs.map rowP)), .va (.str b), s, t] ∧ ∀ r, rs[i]? = some r → b.cps.toList < r.1.cps.toList, ⟨_, _, _, rfl, fun r hr => ?_⟩, ?_, ?_⟩
 ·have := (hv.each r (List.mem_of_getElem? hr)).1
  have h1 : 1 ≤ r.1.length := by
   have : (decide (1 ≤ r.1.length) && _) = true := this
   exact of_decide_eq_true (Bool.and_eq_true_iff.mp this).1
  cases q : r.1.cps.toList with
  | nil =>
   have : r.1.length = 0 := by simpa [Str.length] using q
   omega
  | cons c cs => exact List.nil_lt_cons _ _
 ·rintro i x η hi ⟨b, s, t, rfl, hb⟩
  obtain ⟨y, hy, rfl⟩ := enumP_get hi
  rw [List.getElem?_map] at hy
  cases q : rs[i]? with
  | none => rw [q] at hy; cases hy
  | some r =>
   rw [q] at hy; cases hy
   have hil : i < rs.length := (List.getElem?_eq_some_iff.mp q).1
   have hlen := hv.len
   obtain ⟨e1, e2, e3⟩ := hv.each r (List.mem_of_getElem? q)
   have hbr := hb r q
   have h8 : r.1.length ≤ 8 := by
    have : (_ && (decide (r.1.length ≤ 8) && _)) = true := e1
    exact of_decide_eq_true (Bool.and_eq_true_iff.mp (Bool.and_eq_true_iff.mp this).2).1
   have hz : 10 ≤ sizeLine := by decide
   refine ⟨rfl, rfl, ?_⟩
   refine q_eq ?_
   refine q_ite (fun z => by omega) fun _ => ⟨r, rfl, by omega, ?_⟩
   rw [e1, decide_eq_true e2, decide_eq_true e3]
   refine q_iteF ?_
   refine q_ixT (x := .str r.1) rfl ?_
   refine q_leS ?_
   rw [decide_eq_true hbr]
   refine q_iteF ?_
   refine q_ixT (x := .str r.1) rfl ?_
   refine ⟨r.1, _, _, rfl, fun r' hr' => ?_⟩
   have hi' : i + 1 < rs.length := (List.getElem?_eq_some_iff.mp hr').1
   have := List.pairwise_iff_getElem.mp hv.asc i (i + 1) hil hi' (Nat.lt_succ_self i)
   rw [List.getElem?_eq_getElem hil] at q
   rw [List.getElem?_eq_getElem hi'] at hr'
   cases q; cases hr'
   exact this
 ·rintro η ⟨b, s, t, rfl, _⟩
  exact q_lenT (by rw [List.length_map]; exact hp)
def menu1 : List Str := [("book" : Str), ("cancel" : Str), ("exchange" : Str), ("shift" : Str), ("seats" : Str), ("undo" : Str), ("show" : Str), ("line" : Str), ("count" : Str), ("number" : Str), ("load" : Str), ("trip" : Str)]
def menu2 : List Str := [("none" : Str), ("cut" : Str), ("overfull" : Str), ("a" : Str), ("b" : Str), ("x" : Str), ("plan" : Str), ("route" : Str), ("fixed" : Str), ("full" : Str), ("goal" : Str), ("name" : Str)]
def menuL : List Str := menu1 ++ menu2
theorem at_map {α : Type} {f : α → PV} {xs : List α} {j : Int} (d : α) (h0 : 0 ≤ j) (h1 : j < xs.length) : atI (xs.map f) j = some (f (xs.getD j.toNat d)) := by
 have h : j.toNat < xs.length := by omega
 have e : (xs.map f)[j.toNat]? = some (f (xs.getD j.toNat d)) := by
  rw [List.getElem?_map, List.getElem?_eq_getElem h, List.getD_eq_getElem?_getD, List.getElem?_eq_getElem h]; rfl
 have := atI_nat e
 rwa [Int.toNat_of_nonneg h0] at this
theorem at_get {α : Type} {xs : List α} {j : Int} (d : α) (h0 : 0 ≤ j) (h1 : j < xs.length) : atI xs j = some (xs.getD j.toNat d) := by
 have h : j.toNat < xs.length := by omega
 have e : xs[j.toNat]? = some (xs.getD j.toNat d) := by
  rw [List.getElem?_eq_getElem h, List.getD_eq_getElem?_getD, List.getElem?_eq_getElem h]; rfl
 have := atI_nat e
 rwa [Int.toNat_of_nonneg h0] at this
def W0 (b n : Nat) : List Str := (List.range n).map fun k => menuL.getD ((b + 5 * k) % 24) Str.empty
def W1 (b n : Nat) : List Str := (List.range n).map fun k => strRep ⟨#[abc.cps.toList.getD ((b + 7 * k) % 26) 0]⟩ (1 + k % 8)
theorem Nms.take {ws : List Str} (n : Nat) (h : Nms ws) : Nms (ws.take n) := ⟨fun w hw => h.1 w (List.mem_of_mem_take hw), h.2.sublist (List.take_sublist n ws)⟩
theorem W0_nms : ∀ b < 24, Nms (W0 b 24) := by
 have : ∀ b < 24, ((W0 b 24).all fun w => isNm (.str w)) = true ∧ (W0 b 24).Nodup := by decide +kernel
 exact fun b hb => ⟨fun w hw => List.all_eq_true.mp (this b hb).1 w hw, (this b hb).2⟩
theorem W1_nms : ∀ b < 24, Nms (W1 b 24) := by
 have : ∀ b < 24, ((W1 b 24).all fun w => isNm (.str w)) = true ∧ (W1 b 24).Nodup := by decide +kernel
 exact fun b hb => ⟨fun w hw => List.all_eq_true.mp (this b hb).1 w hw, (this b hb).2⟩
theorem map_take {α : Type} {f : Nat → α} {n m : Nat} (h : n ≤ m) : (List.range n).map f = ((List.range m).map f).take n := by
 rw [← List.map_take, List.take_range, Nat.min_eq_left h]
theorem W0_n {b n : Nat} (hb : b < 24) (hn : n ≤ 24) : Nms (W0 b n) := by
 unfold W0; rw [map_take hn]; exact (W0_nms b hb).take n
theorem W1_n {b n : Nat} (hb : b < 24) (hn : n ≤ 24) : Nms (W1 b n) := by
 unfold W1; rw [map_take hn]; exact (W1_nms b hb).take n
theorem joinL_nil : ∀ ps : List (List Nat), TL.joinL [] ps = ps.flatten
 | [] => rfl
 | [p] => by simp [TL.joinL]
 | p :: q :: r => by
  show p ++ ([] ++ TL.joinL [] (q :: r)) = _
  rw [joinL_nil (q :: r)]; simp
theorem flat_ones : ∀ cs : List Nat, (cs.map fun c => [c]).flatten = cs
 | [] => rfl
 | c :: cs => by rw [List.map_cons, List.flatten_cons, flat_ones cs]; rfl
theorem join_ones (cs : List Nat) : Txt.join Str.empty (cs.map fun c => (⟨#[c]⟩ : Str)) = ⟨cs.toArray⟩ := by
 have h : TL.tl (Txt.join Str.empty (cs.map fun c => (⟨#[c]⟩ : Str))) = cs := by
  rw [TL.join_eq, TL.tl_join, show TL.tl Str.empty = [] from rfl, joinL_nil, List.map_map]
  exact flat_ones cs
 have : ∀ a : Str, a = ⟨(TL.tl a).toArray⟩ := fun a => by cases a; simp
 rw [this (Txt.join _ _), h]
theorem strsOf_map {α : Type} (f : α → Str) : ∀ cs : List α, strsOf (cs.map fun c => PV.str (f c)) = some (cs.map f)
 | [] => rfl
 | c :: cs => by rw [List.map_cons, strsOf, strsOf_map f cs]; rfl
def W2 (st : List Nat) (p b n : Nat) : List Str := (List.range n).map fun k => ⟨(st.take p ++ (abc.cps.toList.getD ((b + 5 * k) % 26) 0 :: st.drop p)).toArray⟩
theorem lets_nd : ∀ b < 24, ((List.range 24).map fun k => abc.cps.toList.getD ((b + 5 * k) % 26) 0).Nodup := by decide +kernel
theorem lets_in : ∀ j < 26, abc.cps.toList.getD j 0 ∈ abc.cps.toList := by decide +kernel
theorem W2_n {st : List Nat} {p b n : Nat} (hs : ∀ c ∈ st, c ∈ abc.cps.toList) (hl : st.length ≤ 7) (hb : b < 24) (hn : n ≤ 24) : Nms (W2 st p b n) := by
 refine ⟨fun w hw => ?_, ?_⟩
 ·unfold W2 at hw
  obtain ⟨k, hk, rfl⟩ := List.mem_map.mp hw
  have e : (st.take p).length + (st.drop p).length = st.length := by rw [← List.length_append, List.take_append_drop]
  have e1 : (⟨(st.take p ++ (abc.cps.toList.getD ((b + 5 * k) % 26) 0 :: st.drop p)).toArray⟩ : Str).length = st.length + 1 := by
   show ((st.take p ++ (abc.cps.toList.getD ((b + 5 * k) % 26) 0 :: st.drop p)).toArray).size = _
   rw [List.size_toArray, List.length_append, List.length_cons]; omega
  show (decide (1 ≤ _) && (decide (_ ≤ 8) && List.all _ _)) = true
  rw [e1, decide_eq_true (by omega), decide_eq_true (by omega), Bool.true_and, Bool.true_and]
  refine List.all_eq_true.mpr fun c hc => decide_eq_true ?_
  have hc : c ∈ st.take p ++ (abc.cps.toList.getD ((b + 5 * k) % 26) 0 :: st.drop p) := by simpa using hc
  rcases List.mem_append.mp hc with h | h
  ·exact hs c (List.mem_of_mem_take h)
  ·rcases List.mem_cons.mp h with h | h
   ·rw [h]; exact lets_in _ (Nat.mod_lt _ (by decide))
   ·exact hs c (List.mem_of_mem_drop h)
 ·have : (W2 st p b 24).Nodup := by
   have h := lets_nd b hb
   unfold W2
   rw [show (fun k => (⟨(st.take p ++ (abc.cps.toList.getD ((b + 5 * k) % 26) 0 :: st.drop p)).toArray⟩ : Str)) = (fun c : Nat => (⟨(st.take p ++ (c :: st.drop p)).toArray⟩ : Str)) ∘ (fun k => abc.cps.toList.getD ((b + 5 * k) % 26) 0) from rfl, ← List.map_map]
   refine List.Pairwise.map _ (fun c d hcd e => ?_) h
   have e' : st.take p ++ (c :: st.drop p) = st.take p ++ (d :: st.drop p) := by simpa using congrArg (fun s : Str => s.cps.toList) e
   exact hcd (List.cons.inj (List.append_cancel_left e')).1
  unfold W2 at this ⊢
  rw [map_take hn]
  exact this.sublist (List.take_sublist _ _)
theorem rd_law_words (h : sp_law_words K C o args PR) : ts_law_words K C { nx := fun η' => ∃ o', η'[0]? = some (Sl.ow o') ∧ PR .non o', rt := fun x η' => ∃ o', η'[0]? = some (Sl.ow o') ∧ PR x o' } (startR 9 o args) := by
 obtain ⟨m, po, rfl, m0, m1, hp⟩ := h
 have e : startR 9 o [.int m] = [.ow o, .va (.int m), .no, .no, .no, .no, .no, .no, .no] := rfl
 rw [e]
 have z24 : 24 < sizeLine := by decide
 refine w_seq (w_set (w_con ?_))
 dsimp only
 refine w_seq (w_set (w_lst (w_strs (ws := menu1) ⟨by decide, ?_⟩)))
 dsimp only
 refine w_seq (w_set (w_op (w_var rfl (w_lst (w_strs (ws := menu2) ⟨by decide, q_addL (by decide) ?_⟩)))))
 dsimp only
 rw [← List.map_append]
 refine w_seq (w_asg (w_tup (w_cons (q_draw rfl rfl po (by decide) (by decide) fun o1 wy p1 wy0 wy1 => ?_))))
 refine w_cons (q_draw rfl rfl p1 (by decide) (by decide) fun o2 b p2 b0 b1 => ?_)
 refine w_nil ⟨sz2, rfl, rfl, ?_⟩
 obtain ⟨b, rfl⟩ := Int.eq_ofNat_of_zero_le b0
 have hb : b < 24 := by omega
 simp only [List.set_cons_zero, List.set_cons_succ]
 refine w_seq (w_if (w_bl (w_op (w_var rfl (w_con (q_eq ?_))))))
 simp only [List.set_cons_zero, List.set_cons_succ]
 refine q_ite (fun hw => ?_) fun hw => ?_
 ·refine w_ret (w_val (w_lc (w_rng1 (w_var rfl ⟨by omega, by omega, ?_⟩))))
  refine ⟨fun i acc η => acc = (W0 b i).map .str ∧ η = [.ow o2, .va (.int m), .va (.str abc), .va (.lst (menuL.map .str)), .va (.int wy), .va (.int b), .no, .no, .no], ⟨rfl, rfl⟩, ?_, ?_⟩
  ·rintro i x acc η hi ⟨rfl, rfl⟩
   obtain ⟨hn, rfl⟩ := rangeP_get hi
   have hz : ((W0 b i).map PV.str).length < sizeLine := by simp [W0]; omega
   refine w_gname (w_yes (q_iteT ?_))
   refine w_op (w_var rfl (w_op (w_op (w_var rfl (w_op (w_con (w_var rfl (q_mul (.inl ⟨by decide, by decide⟩) (q_add (w_con (q_mod (by decide) ?_)))))))))))
   have ej : ((b : Int) + 5 * (0 + (i : Int))) % 24 = (((b + 5 * i) % 24 : Nat) : Int) := by omega
   refine q_ix (x := .str (menuL.getD ((b + 5 * i) % 24) Str.empty)) ?_ ⟨hz, ?_, rfl⟩
   ·rw [ej]
    exact at_map Str.empty (by omega) (by show _ < ((24 : Nat) : Int); omega)
   ·unfold W0; rw [List.range_succ, List.map_append, List.map_append]; rfl
  ·rintro acc η ⟨rfl, rfl⟩
   rw [rangeP_len]
   exact ⟨o2, rfl, hp o2 _ p2 (by simp [W0]) (W0_n hb (by omega))⟩
 refine w_next ?_
 simp only [List.set_cons_zero, List.set_cons_succ]
 refine w_seq (w_if (w_bl (w_op (w_var rfl (w_con (q_eq ?_))))))
 simp only [List.set_cons_zero, List.set_cons_succ]
 refine q_ite (fun hw => ?_) fun hw => ?_
 ·refine w_ret (w_val (w_lc (w_rng1 (w_var rfl ⟨by omega, by omega, ?_⟩))))
  refine ⟨fun i acc η => acc = (W1 b i).map .str ∧ η = [.ow o2, .va (.int m), .va (.str abc), .va (.lst (menuL.map .str)), .va (.int wy), .va (.int b), .no, .no, .no], ⟨rfl, rfl⟩, ?_, ?_⟩
  ·rintro i x acc η hi ⟨rfl, rfl⟩
   obtain ⟨hn, rfl⟩ := rangeP_get hi
   have hz : ((W1 b i).map PV.str).length < sizeLine := by simp [W1]; omega
   refine w_gname (w_yes (q_iteT ?_))
   refine w_op (w_op (w_var rfl (w_op (w_op (w_var rfl (w_op (w_con (w_var rfl (q_mul (.inl ⟨by decide, by decide⟩) (q_add (w_con (q_mod (by decide) ?_))))))))))))
   have ej : ((b : Int) + 7 * (0 + (i : Int))) % 26 = (((b + 7 * i) % 26 : Nat) : Int) := by omega
   refine q_ixS (by decide) (by rw [ej]; exact at_get 0 (by omega) (by show _ < ((26 : Nat) : Int); omega)) ?_
   refine w_op (w_con (w_op (w_var rfl (w_con (q_mod (by decide) (q_add ?_))))))
   refine q_mulS (by omega) (by omega) (by show 1 ≤ 1000; decide) ⟨hz, ?_, rfl⟩
   have e8 : ((1 : Int) + (0 + (i : Int)) % 8).toNat = 1 + i % 8 := by omega
   have e7 : (((b + 7 * i) % 26 : Nat) : Int).toNat = (b + 7 * i) % 26 := by omega
   unfold W1; rw [List.range_succ, List.map_append, List.map_append, e8, e7]; rfl
  ·rintro acc η ⟨rfl, rfl⟩
   rw [rangeP_len]
   exact ⟨o2, rfl, hp o2 _ p2 (by simp [W1]) (W1_n hb (by omega))⟩
 refine w_next ?_
 simp only [List.set_cons_zero, List.set_cons_succ]
 refine w_seq (w_set (w_join (w_con ⟨⟨_, rfl⟩, w_val (w_lc (w_rng1 (q_draw rfl rfl p2 (by decide) (by decide) fun o3 l p3 l0 l1 => ?_)))⟩)))
 refine ⟨by omega, by omega, ?_⟩
 refine ⟨fun i acc η => ∃ cs : List Nat, acc = cs.map (fun c => .str ⟨#[c]⟩) ∧ cs.length = i ∧ (∀ c ∈ cs, c ∈ abc.cps.toList) ∧ ∃ o', Pool o' ∧ η = [.ow o', .va (.int m), .va (.str abc), .va (.lst (menuL.map .str)), .va (.int wy), .va (.int b), .no, .no, .no], ⟨[], rfl, rfl, fun _ h => (by cases h), o3, p3, rfl⟩, ?_, ?_⟩
 ·rintro i x acc η hi ⟨cs, rfl, hcl, hcs, o', p', rfl⟩
  obtain ⟨hn, rfl⟩ := rangeP_get hi
  refine w_gname (w_yes (q_iteT ?_))
  refine w_op (w_var rfl (q_draw rfl rfl p' (by decide) (by decide) fun o'' j p'' j0 j1 => ?_))
  refine q_ixS (by decide) (at_get 0 j0 (by show _ < ((26 : Nat) : Int); omega)) ⟨by rw [List.length_map]; omega, ?_⟩
  refine ⟨cs ++ [abc.cps.toList.getD j.toNat 0], by rw [List.map_append]; rfl, by simp [hcl], fun c hc => ?_, o'', p'', rfl⟩
  rcases List.mem_append.mp hc with h | h
  ·exact hcs c h
  ·rw [List.mem_singleton.mp h]; exact lets_in _ (by omega)
 rintro acc η ⟨cs, rfl, hcl, hcs, o4, p4, rfl⟩
 rw [rangeP_len] at hcl
 refine ⟨cs.map fun c => ⟨#[c]⟩, strsOf_map _ cs, ?_, ?_⟩
 ·have : ((cs.map fun c => (⟨#[c]⟩ : Str)).map (·.length)).sum = cs.length := by
   rw [List.map_map]
   have : ∀ cs : List Nat, (cs.map ((·.length) ∘ fun c => (⟨#[c]⟩ : Str))).sum = cs.length := fun cs => by
    induction cs with
    | nil => rfl
    | cons c cs ih => rw [List.map_cons, List.sum_cons, ih, List.length_cons]; show 1 + _ = _; omega
   exact this cs
  rw [this, show (Str.ofString "").length = 0 from rfl]
  omega
 rw [show (Str.ofString "" : Str) = Str.empty from rfl, join_ones]
 simp only [List.set_cons_zero, List.set_cons_succ]
 have hst : (⟨cs.toArray⟩ : Str).length = cs.length := by show cs.toArray.size = _; simp
 refine w_seq (w_set (w_callR rfl (w_cons (w_op (w_cb (w_cons (w_var rfl (w_nil (q_lenS (by rw [hst]; omega) (w_con (q_add (w_nil (q_callM rfl ?_)))))))))))))
 refine ⟨_, p4, rfl, by omega, by rw [hst]; omega, fun o5 pI p5 pi0 pi1 => ?_⟩
 rw [hst] at pi1
 obtain ⟨p, rfl⟩ := Int.eq_ofNat_of_zero_le pi0
 have hpl : p ≤ cs.length := by omega
 simp only [List.set_cons_zero, List.set_cons_succ]
 refine w_ret (w_val (w_lc (w_rng1 (w_var rfl ⟨by omega, by omega, ?_⟩))))
 refine ⟨fun i acc η => acc = (W2 cs p b i).map .str ∧ η = [.ow o5, .va (.int m), .va (.str abc), .va (.lst (menuL.map .str)), .va (.int wy), .va (.int b), .va (.str ⟨cs.toArray⟩), .va (.int p), .no], ⟨rfl, rfl⟩, ?_, ?_⟩
 ·rintro i x acc η hi ⟨rfl, rfl⟩
  obtain ⟨hn, rfl⟩ := rangeP_get hi
  have hz : ((W2 cs p b i).map PV.str).length < sizeLine := by simp [W2]; omega
  have ej : ((b : Int) + 5 * (0 + (i : Int))) % 26 = (((b + 5 * i) % 26 : Nat) : Int) := by omega
  have hs8 : 100 < sizeLine := by decide
  refine w_gname (w_yes (q_iteT ?_))
  refine w_op (w_op (w_slice (w_var rfl (w_nop (w_part (w_var rfl (q_slS (by rw [hst]; omega) ?_)))))))
  refine w_op (w_var rfl (w_op (w_op (w_var rfl (w_op (w_con (w_var rfl (q_mul (.inl ⟨by decide, by decide⟩) (q_add (w_con (q_mod (by decide) ?_)))))))))))
  refine q_ixS (by decide) (by rw [ej]; exact at_get 0 (by omega) (by show _ < ((26 : Nat) : Int); omega)) ?_
  have l1 := cutS_length ⟨cs.toArray⟩ none (some (p : Int))
  have l2 := cutS_length ⟨cs.toArray⟩ (some (p : Int)) none
  refine q_addS (by rw [hst] at l1; show _ + 1 ≤ _; omega) ?_
  refine w_slice (w_var rfl (w_part (w_var rfl (w_nop (q_slS (by rw [hst]; omega) ?_)))))
  refine q_addS (by rw [hst] at l1 l2; rw [Str.length_append]; show _ + 1 + _ ≤ _; omega) ⟨hz, ?_, rfl⟩
  unfold W2
  rw [List.range_succ, List.map_append, List.map_append]
  have e7 : (((b + 5 * i) % 26 : Nat) : Int).toNat = (b + 5 * i) % 26 := by omega
  have ec1 : cutS ⟨cs.toArray⟩ none (some (p : Int)) = ⟨(cs.take p).toArray⟩ := by
   unfold cutS
   rw [HT.sIx_nat, HT.sIx_none, hst, Nat.min_eq_left hpl]; simp
  have ec2 : cutS ⟨cs.toArray⟩ (some (p : Int)) none = ⟨(cs.drop p).toArray⟩ := by
   unfold cutS
   rw [HT.sIx_nat, HT.sIx_none, hst, Nat.min_eq_left hpl, List.take_of_length_le (by simp)]
  rw [ec1, ec2, e7]
  have : (⟨(cs.take p).toArray⟩ : Str) ++ (⟨#[abc.cps.toList.getD ((b + 5 * i) % 26) 0]⟩ : Str) ++ (⟨(cs.drop p).toArray⟩ : Str) = ⟨(cs.take p ++ (abc.cps.toList.getD ((b + 5 * i) % 26) 0 :: cs.drop p)).toArray⟩ := by
   show (⟨_ ++ _ ++ _⟩ : Str) = _
   congr 1
   simp
  rw [this]; rfl
 ·rintro acc η ⟨rfl, rfl⟩
  rw [rangeP_len]
  exact ⟨o5, rfl, hp o5 _ p5 (by simp [W2]) (W2_n hcs (by omega) hb (by omega))⟩
theorem w_par {is : List Nat} {tr : TArp} {D : EndsP} {η : EP'} (h : tr η fun ars η1 => ars.length = is.length ∧ okIx η1.length is ars ∧ D.nx (storesP is ars η1)) : tParP is tr D η := h
theorem w_arF {tf : TFp} {tr : TArp} {η : EP'} {Q : List Ar → EP' → Prop} (h : tf η fun xs η1 => tr η1 fun ars η2 => Q (.f xs :: ars) η2) : tConsF tf tr η Q := h
theorem w_arV {te : TEp} {tr : TArp} {η : EP'} {Q : List Ar → EP' → Prop} (h : te η fun x η1 => tr η1 fun ars η2 => Q (.v x :: ars) η2) : tConsV te tr η Q := h
theorem w_arN {η : EP'} {Q : List Ar → EP' → Prop} (h : Q [] η) : tNilAr η Q := h
def appM (s : Nat) (x : PV) (η : EP') (R : EP' → Prop) : Prop := match η[s]? with
 | some (.ow (.l xs)) => xs.length < sizeLine ∧ R (η.set s (.ow (.l (xs ++ [x]))))
 | _ => False
theorem w_app {s : Nat} {te : TEp} {D : EndsP} {η : EP'} {xs : List PV} (e : η[s]? = some (.ow (.l xs))) (h : te η fun x η1 => appM s x η1 D.nx) : tAppP s te D η := ⟨⟨xs, e⟩, h⟩
theorem q_appM {s : Nat} {x : PV} {η : EP'} {R : EP' → Prop} {xs : List PV} (e : η[s]? = some (.ow (.l xs))) (l : xs.length < sizeLine) (h : R (η.set s (.ow (.l (xs ++ [x]))))) : appM s x η R := by unfold appM; rw [e]; exact ⟨l, h⟩
theorem pw_snoc {α : Type} {r : α → α → Prop} {xs : List α} {x : α} (h : xs.Pairwise r) (h' : ∀ y ∈ xs, r y x) : (xs ++ [x]).Pairwise r := List.pairwise_append.mpr ⟨h, List.pairwise_singleton _ _, fun a ha b hb => by rw [List.mem_singleton.mp hb]; exact h' a ha⟩
theorem rd_law_far (h : sp_law_far K C o args PR) : ts_law_far K C { nx := fun η' => ∃ o', η'[0]? = some (Sl.ow o') ∧ PR .non o', rt := fun x η' => ∃ o', η'[0]? = some (Sl.ow o') ∧ PR x o' } (startR 6 o args) := by
 obtain ⟨hh, po, rfl, h0, h30, hp⟩ := h
 have e : startR 6 o [.int hh] = [.ow o, .va (.int hh), .no, .no, .no, .no] := rfl
 rw [e]
 refine w_seq (w_par (w_arF (w_lstF (w_nil ⟨Nat.zero_le _, ?_⟩))))
 refine w_arV (q_draw rfl rfl po (by decide) (by decide) fun o1 he p1 he0 he1 => ?_)
 refine w_arV (q_draw rfl rfl p1 (by decide) (by decide) fun o2 wy p2 wy0 wy1 => ?_)
 refine w_arN ⟨rfl, ⟨by decide, by show 2 < 6; decide, trivial⟩, ?_⟩
 simp only [storesP, List.set_cons_zero, List.set_cons_succ]
 refine w_seq (w_for (w_rng1 (w_op (w_var rfl (w_con (q_add ⟨by omega, by omega, ?_⟩))))))
 refine ⟨fun i η => ∃ (o' : Ow) (xs : List Int) (here : Int) (t : Sl), Pool o' ∧ xs.length = i ∧ η = [.ow o', .va (.int hh), .ow (.l (xs.map .int)), .va (.int here), .va (.int wy), t] ∧ xs.Pairwise (· < ·) ∧ (∀ x ∈ xs, 0 ≤ x ∧ x < 10 ^ 40 ∧ (0 < wy → x < i) ∧ (¬ 0 < wy → x < here)) ∧ 0 ≤ here ∧ here ≤ 3 + i * (2 * 10 ^ 29), ?_, ?_, ?_⟩
 ·exact ⟨o2, [], he, .no, p2, rfl, rfl, .nil, fun _ h => (by cases h), he0, by omega⟩
 ·rintro i x η hi ⟨o', xs, here, t, p', hl, rfl, pw, hx, g0, g1⟩
  obtain ⟨hn, rfl⟩ := rangeP_get hi
  have hz : (xs.map PV.int).length < sizeLine := by have : 100 < sizeLine := (by decide); rw [List.length_map]; omega
  have hi31 : (i : Int) ≤ 30 := by omega
  have key : ∀ x : Int, (if 0 < wy then x = 0 + i else x = here) → ∃ η', (xs ++ [x]).Pairwise (· < ·) ∧ (∀ y ∈ xs ++ [x], 0 ≤ y ∧ y < 10 ^ 40 ∧ (0 < wy → y < ((i + 1 : Nat) : Int)) ∧ (¬ 0 < wy → y < here + 1)) ∧ η' = (0 : Nat) := by
   intro x hxe
   refine ⟨0, pw_snoc pw fun y hy => ?_, fun y hy => ?_, rfl⟩
   ·obtain ⟨a1, a2, a3, a4⟩ := hx y hy
    by_cases hw : 0 < wy
    ·rw [if_pos hw] at hxe; have := a3 hw; omega
    ·rw [if_neg hw] at hxe; have := a4 hw; omega
   ·rcases List.mem_append.mp hy with h | h
    ·obtain ⟨a1, a2, a3, a4⟩ := hx y h
     refine ⟨a1, a2, fun hw => ?_, fun hw => ?_⟩
     ·have := a3 hw; omega
     ·have := a4 hw; omega
    ·rw [List.mem_singleton.mp h]
     by_cases hw : 0 < wy
     ·rw [if_pos hw] at hxe; refine ⟨by omega, by omega, fun _ => by omega, fun q => absurd hw q⟩
     ·rw [if_neg hw] at hxe; refine ⟨by omega, by omega, fun q => absurd q hw, fun _ => by omega⟩
  have rest : ∀ x : Int, (if 0 < wy then x = 0 + i else x = here) → tSetP 3 (tOpP rAdd (tOpP rAdd (tVarP 3) (tConP (.int 1))) (tOpP rIxP (tLstP (tConsP (tConP (.int 0)) (tConsP (tCallRP 0 (sp_law_draw K C) (tConsP (tConP (.int 9)) (tNilP))) (tConsP (tOpP rPow (tConP (.int 10)) (tConP (.int 29))) (tNilP))))) (tCallRP 0 (sp_law_draw K C) (tConsP (tConP (.int 3)) (tNilP)))))
    { nx := fun η => ∃ (o' : Ow) (xs : List Int) (here : Int) (t : Sl), Pool o' ∧ xs.length = i + 1 ∧ η = [.ow o', .va (.int hh), .ow (.l (xs.map .int)), .va (.int here), .va (.int wy), t] ∧ xs.Pairwise (· < ·) ∧ (∀ x ∈ xs, 0 ≤ x ∧ x < 10 ^ 40 ∧ (0 < wy → x < ((i + 1 : Nat) : Int)) ∧ (¬ 0 < wy → x < here)) ∧ 0 ≤ here ∧ here ≤ 3 + ((i + 1 : Nat) : Int) * (2 * 10 ^ 29), rt := fun x η' => ∃ o', η'[0]? = some (Sl.ow o') ∧ PR x o' }
    [.ow o', .va (.int hh), .ow (.l ((xs ++ [x]).map .int)), .va (.int here), .va (.int wy), .va (.int (0 + i))] := by
   intro x hxe
   obtain ⟨_, k1, k2, _⟩ := key x hxe
   refine w_set (w_op (w_op (w_var rfl (w_con (q_add ?_)))))
   refine w_op (w_lst (w_cons (w_con (w_cons (q_draw rfl rfl p' (by decide) (by decide) fun o3 d p3 d0 d1 => ?_)))))
   refine w_cons (w_op (w_con (w_con (q_pow ⟨by decide, by decide, by decide⟩ (w_nil ⟨sz3, ?_⟩)))))
   refine q_draw rfl rfl p3 (by decide) (by decide) fun o4 j p4 j0 j1 => ?_
   have fin : ∀ v : Int, 0 ≤ v → v ≤ 10 ^ 29 → ∃ (o' : Ow) (xs' : List Int) (here' : Int) (t : Sl), Pool o' ∧ xs'.length = i + 1 ∧ [Sl.ow o4, .va (.int hh), .ow (.l ((xs ++ [x]).map .int)), .va (.int (here + 1 + v)), .va (.int wy), .va (.int (0 + i))] = [.ow o', .va (.int hh), .ow (.l (xs'.map .int)), .va (.int here'), .va (.int wy), t] ∧ xs'.Pairwise (· < ·) ∧ (∀ x ∈ xs', 0 ≤ x ∧ x < 10 ^ 40 ∧ (0 < wy → x < ((i + 1 : Nat) : Int)) ∧ (¬ 0 < wy → x < here')) ∧ 0 ≤ here' ∧ here' ≤ 3 + ((i + 1 : Nat) : Int) * (2 * 10 ^ 29) := by
    intro v v0 v1
    refine ⟨o4, xs ++ [x], here + 1 + v, _, p4, by simp [hl], rfl, k1, fun y hy => ?_, by omega, by omega⟩
    obtain ⟨a1, a2, a3, a4⟩ := k2 y hy
    exact ⟨a1, a2, a3, fun q => by have := a4 q; omega⟩
   obtain rfl | rfl | rfl : j = 0 ∨ j = 1 ∨ j = 2 := by omega
   ·exact q_ix (x := .int 0) rfl (q_add (fin 0 (by decide) (by decide)))
   ·exact q_ix (x := .int d) rfl (q_add (fin d d0 (by omega)))
   ·exact q_ix (x := .int (10 ^ 29)) rfl (q_add (fin (10 ^ 29) (by decide) (by decide)))
  refine w_gname ?_
  refine w_seq (w_app (xs := xs.map .int) rfl (w_ife (w_bl (w_op (w_var rfl (w_con (q_gt ?_)))))))
  refine q_ite (fun hw => ?_) fun hw => ?_
  ·refine w_var rfl (q_appM rfl hz ?_)
   have := rest (0 + i) (by rw [if_pos hw])
   rw [List.map_append] at this
   exact this
  ·refine w_var rfl (q_appM rfl hz ?_)
   have := rest here (by rw [if_neg hw])
   rw [List.map_append] at this
   exact this
 ·rintro η ⟨o', xs, here, t, p', hl, rfl, pw, hx, g0, g1⟩
  rw [rangeP_len] at hl
  dsimp only
  refine w_ret ?_
  refine w_varO (o := .l (xs.map .int)) rfl ?_
  exact ⟨o', rfl, hp o' xs p' (by rw [hl]) pw fun x q => ⟨(hx x q).1, (hx x q).2.1⟩⟩
theorem w_varL {xs : List PV} {η : EP'} {s : Nat} {Q : List PV → EP' → Prop} (e : η[s]? = some (.va (.lst xs))) (h : Q xs η) : iListP (tVarP s) η Q := by
 unfold iListP
 exact w_var e h
theorem dlt_rows {a b : Trip} (h : a.1 ≠ b.1) : PySem.W.dataLe false encD (rowP a) (rowP b) = true → a.1.cps.toList < b.1.cps.toList := by
 intro q
 have q' : (!PySem.W.dataLt (.tuple [.str b.1, .int b.2.1, .int b.2.2]) (.tuple [.str a.1, .int a.2.1, .int a.2.2])) = true := q
 rw [PySem.W.dataLt_tuple, PySem.W.dataLt_cons (by simp [PySem.W.alike])] at q'
 have hne : PyData.eqv (.str b.1) (.str a.1) = false := by
  simp only [PyData.eqv]
  exact beq_eq_false_iff_ne.mpr fun z => h z.symm
 rw [hne, if_neg Bool.false_ne_true, PySem.W.dataLt_str] at q'
 have nb : ¬ b.1.cps.toList < a.1.cps.toList := by simpa using q'
 have hl : a.1.cps.toList ≠ b.1.cps.toList := fun z => h (by
  have : a.1.cps = b.1.cps := Array.toList_inj.mp z
  cases ha : a.1; cases hb : b.1; rw [ha, hb] at this; simp at this; rw [this])
 exact Classical.byContradiction fun na => hl (List.le_antisymm (List.not_lt.mp nb) (List.not_lt.mp na))
theorem sort_rows {rows : List Trip} (hn : (rows.map (·.1)).Nodup) : ∃ rs : List Trip, (rows.map rowP).mergeSort (PySem.W.dataLe false encD) = rs.map rowP ∧ rs.Perm rows ∧ rs.Pairwise fun a b => a.1.cps.toList < b.1.cps.toList := by
 have T := PySem.W.sortLe_total (PyProof.Rows.listOrd PyProof.Rows.itemOrd) false fun b : PV => PySem.W.keyToks (encD b)
 refine ⟨rows.mergeSort fun a b => PySem.W.dataLe false encD (rowP a) (rowP b), ?_, List.mergeSort_perm _ _, ?_⟩
 ·exact (List.map_mergeSort (f := rowP) (r := fun a b => PySem.W.dataLe false encD (rowP a) (rowP b)) (s := PySem.W.dataLe false encD) (fun _ _ _ _ => rfl)).symm
 ·have hp := List.mergeSort_perm rows fun a b => PySem.W.dataLe false encD (rowP a) (rowP b)
  have h1 : (rows.mergeSort fun a b => PySem.W.dataLe false encD (rowP a) (rowP b)).Pairwise fun a b => PySem.W.dataLe false encD (rowP a) (rowP b) = true :=
   List.pairwise_mergeSort (le := fun a b => PySem.W.dataLe false encD (rowP a) (rowP b)) (fun a b c p q => T.trans (rowP a) (rowP b) (rowP c) p q) (fun a b => by
    rcases T.total (rowP a) (rowP b) with p | p
    ·exact Bool.or_eq_true_iff.mpr (.inl p)
    ·exact Bool.or_eq_true_iff.mpr (.inr p)) rows
  have h2 : ((rows.mergeSort fun a b => PySem.W.dataLe false encD (rowP a) (rowP b)).map (·.1)).Nodup := (hp.map _).nodup_iff.mpr hn
  have h3 := List.pairwise_map.mp h2
  exact (h1.and h3).imp fun p => dlt_rows p.2 p.1
def rowD (r : Trip) : PyData := .tuple [.str r.1, .int r.2.1, .int r.2.2]
theorem toDs_rows : ∀ rs : List Trip, toDs (rs.map rowP) = some (rs.map rowD)
 | [] => rfl
 | r :: rs => by
  rw [List.map_cons, toDs, toDs_rows rs]
  rfl
theorem alike_rows (rs : List Trip) : PySem.W.AllAlike (rs.map rowD) := fun d hd d' hd' => by
 obtain ⟨a, _, rfl⟩ := List.mem_map.mp hd
 obtain ⟨b, _, rfl⟩ := List.mem_map.mp hd'
 simp [rowD, PySem.W.alike, PySem.W.alikeAll]
theorem q_sort {rows : List Trip} (hn : (rows.map (·.1)).Nodup) (hl : rows.length ≤ 24) (h : ∀ rs : List Trip, rs.Perm rows → (rs.Pairwise fun a b => a.1.cps.toList < b.1.cps.toList) → P (.lst (rs.map rowP))) : rSortD [.lst (rows.map rowP)] P := by
 refine ⟨_, toDs_rows rows, alike_rows rows, .inl fun d hd => ?_, fun x hx => ?_, ?_, ?_⟩
 ·obtain ⟨a, _, rfl⟩ := List.mem_map.mp hd
  exact ⟨_, _, rfl⟩
 ·obtain ⟨a, _, rfl⟩ := List.mem_map.mp hx
  show (PyData.tuple [.str a.1, .int a.2.1, .int a.2.2]).depth ≤ 50
  simp [PyData.depth, PyData.depthAll]
 ·have : 24 ≤ sizeLine := by decide
  rw [List.length_map]; omega
 ·obtain ⟨rs, e, p, s⟩ := sort_rows hn
  rw [e]; exact h rs p s
theorem rd_law_rides (h : sp_law_rides K C o args PR) : ts_law_rides K C { nx := fun η' => ∃ o', η'[0]? = some (Sl.ow o') ∧ PR .non o', rt := fun x η' => ∃ o', η'[0]? = some (Sl.ow o') ∧ PR x o' } (startR 9 o args) := by
 obtain ⟨ws, hh, po, rfl, hw, hwl, h1, h30, hp⟩ := h
 have e : startR 9 o [.lst (ws.map .str), .int hh] = [.ow o, .va (.lst (ws.map .str)), .va (.int hh), .no, .no, .no, .no, .no, .no] := rfl
 rw [e]
 have sz : 100 < sizeLine := by decide
 refine w_seq (w_par (w_arV (w_callR rfl (w_cons (w_var rfl (w_nil (q_callM rfl ⟨hh, po, rfl, by omega, h30, fun o1 ps p1 pl pw pb => ?_⟩)))))))
 refine w_arF (w_lstF (w_nil ⟨Nat.zero_le _, ?_⟩))
 refine w_arV (w_con (w_arN ⟨rfl, ⟨by decide, by show 4 < 9; decide, trivial⟩, ?_⟩))
 simp only [storesP, List.set_cons_zero, List.set_cons_succ]
 refine w_seq (w_for ?_)
 refine w_varL rfl ?_
 refine ⟨fun i η => ∃ (o' : Ow) (rows : List Trip) (last : Int) (a b c : Sl), Pool o' ∧ rows.map (·.1) = ws.take i ∧ η = [.ow o', .va (.lst (ws.map .str)), .va (.int hh), .va (.lst (ps.map .int)), .ow (.l (rows.map rowP)), .va (.int last), a, b, c] ∧ (∀ r ∈ rows, 0 ≤ r.2.1 ∧ r.2.1 < r.2.2 ∧ r.2.2 < 10 ^ 40) ∧ 0 ≤ last ∧ last ≤ hh, ?_, ?_, ?_⟩
 ·exact ⟨o1, [], 0, .no, .no, .no, p1, rfl, rfl, fun _ h => (by cases h), by decide, by omega⟩
 ·rintro i x η hi ⟨o', rows, last, a, b, c, p', hr, rfl, hb, l0, l1⟩
  rw [List.getElem?_map] at hi
  cases q : ws[i]? with
  | none => rw [q] at hi; cases hi
  | some w =>
   rw [q] at hi; cases hi
   have hil : i < ws.length := (List.getElem?_eq_some_iff.mp q).1
   have hrl : rows.length = i := by have := congrArg List.length hr; rw [List.length_map, List.length_take] at this; omega
   refine w_gname ?_
   simp only [List.set_cons_zero, List.set_cons_succ]
   refine w_seq (w_set (q_draw rfl rfl p' (by decide) (by decide) fun o2 wy p2 wy0 wy1 => ?_))
   simp only [List.set_cons_zero, List.set_cons_succ]
   -- behind begin
   have rest : ∀ (o3 : Ow) (bg : Int), Pool o3 → 0 ≤ bg → bg < hh →
    tSeqP (tSetP 5 (tOpP rAdd (tOpP rAdd (tVarP 8) (tConP (.int 1))) (tCallRP 0 (sp_law_draw K C) (tConsP (tIfP (tBlP (tOpP rGt (tOpP rSub (tVarP 2) (tVarP 8)) (tConP (.int 1)))) (tOpP rIxP (tLstP (tConsP (tConP (.int 1)) (tConsP (tConP (.int 2)) (tConsP (tOpP rSub (tVarP 2) (tVarP 8)) (tConsP (tOpP rSub (tVarP 2) (tVarP 8)) (tNilP)))))) (tVarP 7)) (tConP (.int 1))) (tNilP))))) (tSeqP (tSetP 5 (tCBP rMin2 (tConsP (tVarP 5) (tConsP (tVarP 2) (tNilP))))) (tAppP 4 (tTupP (tConsP (tVarP 6) (tConsP (tOpP rIxP (tVarP 3) (tVarP 8)) (tConsP (tOpP rIxP (tVarP 3) (tVarP 5)) (tNilP)))))))
    { nx := fun η => ∃ (o' : Ow) (rows : List Trip) (last : Int) (a b c : Sl), Pool o' ∧ rows.map (·.1) = ws.take (i + 1) ∧ η = [.ow o', .va (.lst (ws.map .str)), .va (.int hh), .va (.lst (ps.map .int)), .ow (.l (rows.map rowP)), .va (.int last), a, b, c] ∧ (∀ r ∈ rows, 0 ≤ r.2.1 ∧ r.2.1 < r.2.2 ∧ r.2.2 < 10 ^ 40) ∧ 0 ≤ last ∧ last ≤ hh, rt := fun x η' => ∃ o', η'[0]? = some (Sl.ow o') ∧ PR x o' }
    [.ow o3, .va (.lst (ws.map .str)), .va (.int hh), .va (.lst (ps.map .int)), .ow (.l (rows.map rowP)), .va (.int last), .va (.str w), .va (.int wy), .va (.int bg)] := by
    intro o3 bg p3 bg0 bg1
    have fin : ∀ (m : Int), 0 < m → m ≤ 100 → callM 0 (sp_law_draw K C) [.int m] [.ow o3, .va (.lst (ws.map .str)), .va (.int hh), .va (.lst (ps.map .int)), .ow (.l (rows.map rowP)), .va (.int last), .va (.str w), .va (.int wy), .va (.int bg)] fun z η2 => rAdd (.int (bg + 1)) z fun z =>
     tSeqP (tSetP 5 (tCBP rMin2 (tConsP (tVarP 5) (tConsP (tVarP 2) (tNilP))))) (tAppP 4 (tTupP (tConsP (tVarP 6) (tConsP (tOpP rIxP (tVarP 3) (tVarP 8)) (tConsP (tOpP rIxP (tVarP 3) (tVarP 5)) (tNilP))))))
      { nx := fun η => ∃ (o' : Ow) (rows : List Trip) (last : Int) (a b c : Sl), Pool o' ∧ rows.map (·.1) = ws.take (i + 1) ∧ η = [.ow o', .va (.lst (ws.map .str)), .va (.int hh), .va (.lst (ps.map .int)), .ow (.l (rows.map rowP)), .va (.int last), a, b, c] ∧ (∀ r ∈ rows, 0 ≤ r.2.1 ∧ r.2.1 < r.2.2 ∧ r.2.2 < 10 ^ 40) ∧ 0 ≤ last ∧ last ≤ hh, rt := fun x η' => ∃ o', η'[0]? = some (Sl.ow o') ∧ PR x o' } (η2.set 5 (.va z)) := by
     intro m m0 m1
     refine q_callM rfl ⟨m, p3, rfl, m0, by omega, fun o4 d p4 d0 d1 => ?_⟩
     refine q_add ?_
     simp only [List.set_cons_zero, List.set_cons_succ]
     refine w_seq (w_set (w_cb (w_cons (w_var rfl (w_cons (w_var rfl (w_nil (q_min ?_))))))))
     simp only [List.set_cons_zero, List.set_cons_succ]
     obtain ⟨nl, hnl, n0, n1⟩ : ∃ nl : Int, (if hh < bg + 1 + d then hh else bg + 1 + d) = nl ∧ bg < nl ∧ nl ≤ hh := ⟨_, rfl, by split <;> omega, by split <;> omega⟩
     rw [hnl]
     refine w_app (xs := rows.map rowP) rfl (w_tup (w_cons (w_var rfl (w_cons (w_op (w_var rfl (w_var rfl ?_)))))))
     have pll : (ps.length : Int) = hh + 1 := by omega
     refine q_ix (at_map 0 bg0 (by omega)) ?_
     refine w_cons (w_op (w_var rfl (w_var rfl ?_)))
     refine q_ix (at_map 0 (by omega) (by omega)) (w_nil ⟨sz3, ?_⟩)
     refine q_appM rfl (by rw [List.length_map]; omega) ?_
     have ib : bg.toNat < ps.length := by omega
     have ie : nl.toNat < ps.length := by omega
     have eb : ps.getD bg.toNat 0 = ps[bg.toNat] := by rw [List.getD_eq_getElem?_getD, List.getElem?_eq_getElem ib]; rfl
     have ee : ps.getD nl.toNat 0 = ps[nl.toNat] := by rw [List.getD_eq_getElem?_getD, List.getElem?_eq_getElem ie]; rfl
     rw [eb, ee]
     refine ⟨o4, rows ++ [(w, ps[bg.toNat], ps[nl.toNat])], nl, .va (.str w), .va (.int wy), .va (.int bg), p4, ?_, ?_, fun r hr => ?_, by omega, n1⟩
     ·rw [List.map_append, hr, List.take_succ, q]; rfl
     ·rw [List.map_append]; rfl
     ·rcases List.mem_append.mp hr with h | h
      ·exact hb r h
      ·rw [List.mem_singleton.mp h]
       refine ⟨(pb _ (List.getElem_mem ib)).1, List.pairwise_iff_getElem.mp pw _ _ ib ie (by omega), (pb _ (List.getElem_mem ie)).2⟩
    refine w_seq (w_set (w_op (w_op (w_var rfl (w_con (q_add ?_))))))
    refine w_callR rfl (w_cons (w_ife (w_bl (w_op (w_op (w_var rfl (w_var rfl (q_sub ?_))))))))
    refine w_con (q_gt (q_ite (fun hg => ?_) fun hg => ?_))
    ·refine w_op (w_lst (w_cons (w_con (w_cons (w_con ?_)))))
     refine w_cons (w_op (w_var rfl (w_var rfl (q_sub ?_))))
     refine w_cons (w_op (w_var rfl (w_var rfl (q_sub (w_nil ⟨?_, ?_⟩)))))
     ·show 4 ≤ sizeLine; omega
     refine w_var rfl ?_
     obtain rfl | rfl | rfl | rfl : wy = 0 ∨ wy = 1 ∨ wy = 2 ∨ wy = 3 := by omega
     ·exact q_ix (x := .int 1) rfl (w_nil (fin 1 (by decide) (by decide)))
     ·exact q_ix (x := .int 2) rfl (w_nil (fin 2 (by decide) (by decide)))
     ·exact q_ix (x := .int (hh - bg)) rfl (w_nil (fin (hh - bg) (by omega) (by omega)))
     ·exact q_ix (x := .int (hh - bg)) rfl (w_nil (fin (hh - bg) (by omega) (by omega)))
    ·exact w_con (w_nil (fin 1 (by decide) (by decide)))
   refine w_seq (w_set (w_ife (w_and (w_bl (w_op (w_var rfl (w_con (q_eq ?_))))))))
   have els : ∀ Q : PV → EP' → Prop, (∀ (o3 : Ow) (bg : Int), Pool o3 → 0 ≤ bg → bg < hh → Q (.int bg) [.ow o3, .va (.lst (ws.map .str)), .va (.int hh), .va (.lst (ps.map .int)), .ow (.l (rows.map rowP)), .va (.int last), .va (.str w), .va (.int wy), c]) → tCallRP 0 (sp_law_draw K C) (tConsP (tVarP 2) (tNilP)) [.ow o2, .va (.lst (ws.map .str)), .va (.int hh), .va (.lst (ps.map .int)), .ow (.l (rows.map rowP)), .va (.int last), .va (.str w), .va (.int wy), c] Q := by
    intro Q k
    exact w_callR rfl (w_cons (w_var rfl (w_nil (q_callM rfl ⟨hh, p2, rfl, by omega, by omega, fun o3 d p3 d0 d1 => k o3 d p3 d0 d1⟩))))
   refine q_ite (fun hwy => ?_) fun hwy => ?_
   ·refine w_bl (w_op (w_var rfl (w_var rfl (q_lt ?_))))
    refine q_ite (fun hlt => ?_) fun hlt => ?_
    ·exact w_var rfl (rest o2 last p2 l0 hlt)
    ·exact els _ fun o3 bg p3 b0 b1 => rest o3 bg p3 b0 b1
   ·refine q_iteF ?_
    exact els _ fun o3 bg p3 b0 b1 => rest o3 bg p3 b0 b1
 ·rintro η ⟨o', rows, last, a, b, c, p', hr, rfl, hb, l0, l1⟩
  rw [List.length_map, List.take_length] at hr
  have hrl : rows.length = ws.length := by rw [← hr, List.length_map]
  dsimp only
  refine w_ret ?_
  refine w_cb (w_cons (w_cb (w_cons (w_varO (o := .l (rows.map rowP)) rfl ?_))))
  refine w_nil (q_sort (by rw [hr]; exact hw.2) (by omega) fun rs pm asc => ?_)
  refine w_nil ?_
  have hmem : ∀ r ∈ rs, r.1 ∈ ws := fun r h => by rw [← hr]; exact List.mem_map.mpr ⟨r, pm.mem_iff.mp h, rfl⟩
  refine ⟨o', rfl, hp o' rs p' ⟨by rw [pm.length_eq]; omega, fun r h => ?_, asc⟩ (by rw [pm.length_eq, hrl]) fun r h => ⟨hmem r h, (hb r (pm.mem_iff.mp h)).2.2⟩⟩
  exact ⟨hw.1 _ (hmem r h), (hb r (pm.mem_iff.mp h)).1, (hb r (pm.mem_iff.mp h)).2.1⟩
theorem w_drop {te : TEp} {D : EndsP} {η : EP'} (h : te η fun _ η1 => D.nx η1) : tDropP te D η := h
theorem w_fldS {s : Nat} {f : Str} {te : TEp} {D : EndsP} {η : EP'} (h : te η fun x η1 => match η1[s]? with
 | some (.ow (.o C' fs)) => C' = C ∧ fs.length < 1000 ∧ D.nx (η1.set s (.ow (.o C (putFP f x fs))))
 | _ => False) : tFldSP C s f te D η := h
theorem w_sortL {i j : Int} {te : TEp} {η : EP'} {Q : PV → EP' → Prop} (h : te η fun x η1 => match x with
 | .tup xs => (∀ y ∈ xs, ∃ ys a b, y = .tup ys ∧ atI ys i = some a ∧ atI ys j = some b ∧ flatD a = true ∧ flatD b = true) ∧ PySem.W.AllAlike (xs.map (keyP i j)) ∧ xs.length ≤ sizeLine ∧ Q (.lst (xs.mergeSort (PySem.W.dataLe false (keyP i j)))) η1
 | _ => False) : tSortLP i j te η Q := h
theorem pf1 {n : Int} : putFP ("seat_count" : Str) (.int n) [] = [(("seat_count" : Str), .int n)] := rfl
theorem pf2 {n : Int} {x : PV} : putFP ("rows" : Str) x [(("seat_count" : Str), .int n)] = [(("seat_count" : Str), .int n), (("rows" : Str), x)] := by
 unfold putFP
 rw [if_neg (by decide)]
 rfl
theorem pf3 {n : Int} {x y : PV} : putFP ("queue" : Str) y [(("seat_count" : Str), .int n), (("rows" : Str), x)] = [(("seat_count" : Str), .int n), (("rows" : Str), x), (("queue" : Str), y)] := by
 unfold putFP
 rw [if_neg (by decide)]
 unfold putFP
 rw [if_neg (by decide)]
 rfl
theorem rd_Line_init (h : sp_Line_init K C o args PR) : ts_Line_init K C { nx := fun η' => ∃ o', η'[0]? = some (Sl.ow o') ∧ PR .non o', rt := fun x η' => ∃ o', η'[0]? = some (Sl.ow o') ∧ PR x o' } (startR 4 o args) := by
 obtain ⟨n, rs, rfl, rfl, n1, n2, hv, hp⟩ := h
 have e : startR 4 (.o C []) [.int n, rowsP rs] = [.ow (.o C []), .va (.int n), .va (rowsP rs), .no] := rfl
 rw [e]
 have sz : 100 < sizeLine := by decide
 have hl := hv.len
 refine w_seq (w_drop (w_call (w_cons (w_var rfl (w_nil ⟨n, rfl, n1, n2, ?_⟩)))))
 dsimp only
 refine w_seq (w_if (w_not (w_bl (w_cb (w_cons (w_var (x := .tup (rs.map rowP)) rfl (w_cons (w_con (w_nil (isi_tuple .t ?_))))))))))
 refine q_iteF ?_
 refine w_next ?_
 dsimp only
 refine w_seq (w_set (w_call (w_cons (w_var rfl (w_nil ⟨rs, rfl, hv, ?_⟩)))))
 simp only [List.set_cons_zero, List.set_cons_succ]
 refine w_seq (w_if (w_bl (w_op (w_var rfl (w_cb (w_cons (w_var (x := .tup (rs.map rowP)) rfl (w_nil (q_lenT (q_lt ?_))))))))))
 refine q_ite (fun z => ?_) fun _ => ?_
 ·rw [List.length_map] at z; omega
 refine w_next ?_
 dsimp only
 refine w_seq (w_fldS (w_var rfl ⟨rfl, by decide, ?_⟩))
 simp only [List.set_cons_zero, List.set_cons_succ, pf1]
 refine w_seq (w_fldS (w_var rfl ⟨rfl, by show 1 < 1000; decide, ?_⟩))
 simp only [List.set_cons_zero, List.set_cons_succ, pf2]
 refine w_fldS (w_cb (w_cons (w_sortL (w_var (x := .tup (rs.map rowP)) rfl ⟨?_, ?_, by rw [List.length_map]; omega, ?_⟩))))
 ·intro y hy
  obtain ⟨r, _, rfl⟩ := List.mem_map.mp hy
  exact ⟨_, .int r.2.1, .str r.1, rfl, rfl, rfl, rfl, rfl⟩
 ·intro d hd d' hd'
  rw [List.map_map] at hd hd'
  obtain ⟨a, _, rfl⟩ := List.mem_map.mp hd
  obtain ⟨b, _, rfl⟩ := List.mem_map.mp hd'
  show PySem.W.alike (.tuple [.int a.2.1, .str a.1]) (.tuple [.int b.2.1, .str b.1]) = true
  simp [PySem.W.alike, PySem.W.alikeAll]
 ·refine w_nil ⟨rfl, by show 2 < 1000; decide, ?_⟩
  simp only [List.set_cons_zero, List.set_cons_succ, pf3]
  exact ⟨_, rfl, hp⟩
end
def Near (rs : List Trip) : Prop := ∀ r ∈ rs, r.2.2 < 10 ^ 60
section
variable {K : PySem.W.Frag} {C : Addr} {args : List PV} {P : PV → Prop} {PR : PV → Ow → Prop} {o : Ow}
theorem rw_good {rs : List Trip} (h : Rw rs) : ∀ r ∈ rs, GoodR r := fun r hr => by
 obtain ⟨h1, h2, h3⟩ := h.each r hr
 refine ⟨fun c hc => ?_, h2, by omega⟩
 have e : (decide (1 ≤ r.1.length) && (decide (r.1.length ≤ 8) && r.1.cps.toList.all fun c => decide (c ∈ abc.cps.toList))) = true := h1
 have m := List.all_eq_true.mp (Bool.and_eq_true_iff.mp (Bool.and_eq_true_iff.mp e).2).2 c hc
 have m2 : c ∈ abc.cps.toList := of_decide_eq_true m
 have all : ∀ d ∈ abc.cps.toList, 97 ≤ d ∧ d ≤ 122 := by decide +kernel
 exact all c m2
theorem log_of {i : Int} (h0 : 0 ≤ i) (h : i < 10 ^ 70) : i.natAbs.log2 < 1920 := by
 obtain ⟨n, rfl⟩ := Int.eq_ofNat_of_zero_le h0
 have h2 : n < 10 ^ 70 := by omega
 show n.log2 < 1920
 by_cases hn : n = 0
 ·subst hn; decide
 ·exact (Nat.log2_lt hn).mpr (Nat.lt_of_lt_of_le h2 (by decide +kernel))
structure ShowR (r : Trip) : Prop where
 g : GoodR r
 l : r.1.length ≤ 8
 s : r.2.1 < 10 ^ 70
 e : r.2.2 < 10 ^ 70
theorem w_andV {ta tb : TEp} {η : EP'} {Q : PV → EP' → Prop} (h : ta η fun x η1 => match x with | .bl true => tb η1 Q | .bl false => Q (.bl false) η1 | _ => False) : tAndVP ta tb η Q := h
theorem w_itup {te : TEp} {η : EP'} {Q : List PV → EP' → Prop} (h : te η fun x η1 => match x with
 | .tup xs => Q xs η1
 | _ => False) : iTupP te η Q := h
theorem w_new' {sr : SpR} {dps : List PV} {t : TAp} {η : EP'} {Q : PV → EP' → Prop} (h : t η fun args η1 => sr (.o C []) (args ++ dps) fun r o' => r = .non ∧ ∃ fs, o' = .o C fs ∧ Q (.ins C fs) η1) : tNewP C sr dps t η Q := h
theorem w_prop' {sp : SpP} {ta : TEp} {η : EP'} {Q : PV → EP' → Prop} (h : ta η fun x η1 => (∃ fs, x = .ins C fs) ∧ sp [x] fun z => Q z η1) : tPropP C sp ta η Q := h
theorem w_sliceA {te : TEp} {tl th : TOp} {η : EP'} {Q : PV → EP' → Prop} (h : te η fun x η1 => tl η1 fun l η2 => th η2 fun u η3 => rSlA x l u fun z => Q z η3) : tSliceAP te tl th η Q := h
theorem q_neI {a b : Str} (h : P (.bl (!decide (a = b)))) : rEqI true (.str a) (.str b) P := h
theorem q_eqI {a b : Str} (h : P (.bl (decide (a = b)))) : rEqI false (.str a) (.str b) P := h
theorem q_neN {a b : Int} (h : P (.bl (!decide (a = b)))) : rEqI true (.int a) (.int b) P := h
theorem q_addLL {xs ys : List PV} {Q : PV → Prop} (l : xs.length + ys.length ≤ sizeLine) (h : Q (.lst (xs ++ ys))) : rAdd (.lst xs) (.lst ys) Q := ⟨l, h⟩
theorem w_setF {i : Nat} {tf : TFp} {D : EndsP} {η : EP'} (h0 : (0 : Nat) ≠ i) (h : tf η fun xs η1 => i < η1.length ∧ D.nx (η1.set i (.ow (.l xs)))) : tSetFP i tf D η := ⟨h0, h⟩
theorem w_callRF' {tf : TFp} {sr : SpR} {t : TAp} {η : EP'} {Q : PV → EP' → Prop} (h : tf η fun xs η1 => t η1 fun args η2 => sr (.l xs) args fun z _ => Q z η2) : tCallRFP tf sr t η Q := h
theorem w_callF' {sp : SpF} {t : TAp} {η : EP'} {Q : List PV → EP' → Prop} (h : t η fun args η1 => sp args fun xs => Q xs η1) : tCallFP sp t η Q := h
theorem q_tupl {xs : List PV} {Q : PV → Prop} (h : Q (.tup xs)) : rTuple [.lst xs] Q := h
end
def passes (st : Int) (r : Trip) : Bool := decide (r.2.1 ≤ st) && decide (st < r.2.2)
def loadN (rs : List Trip) (st : Int) : Int := ((rs.filter (passes st)).length : Int)
def qLe (a b : Trip) : Bool := PySem.W.dataLe false (keyP 1 0) (rowP a) (rowP b)
def queueT (rs : List Trip) : List Trip := rs.mergeSort qLe
theorem queue_perm (rs : List Trip) : (queueT rs).Perm rs := List.mergeSort_perm _ _
theorem queue_len (rs : List Trip) : (queueT rs).length = rs.length := (queue_perm rs).length_eq
def peakI (rs : List Trip) : Int := maxI 0 (rs.map fun r => loadN rs r.2.1)
theorem int_short {i : Int} (h0 : 0 ≤ i) (h : i < 10 ^ 60) : ((toString i : String) : Str).length ≤ 61 := by
 have e := int_text_length_le10 (a := i) (k := 60) (by decide) (by
  obtain ⟨n, rfl⟩ := Int.eq_ofNat_of_zero_le h0
  have : n < 10 ^ 60 := by omega
  exact this)
 rw [PySem.ofString_length]
 exact e
structure Short (r : Trip) : Prop where
 g : GoodR r
 l : r.1.length ≤ 8
 s : r.2.1 < 10 ^ 60
 e : r.2.2 < 10 ^ 60
theorem leavesI {i : Int} (h0 : 0 ≤ i) (h : i < 10 ^ 60) : PyData.leavesShort 61 (.int i) = true := by
 rw [PyData.leavesShort]
 exact decide_eq_true (by rw [PyData.shown_int]; exact int_short h0 h)
theorem log_of60 {i : Int} (h0 : 0 ≤ i) (h : i < 10 ^ 60) : i.natAbs.log2 < 1920 := by
 have h2 : (10 : Int) ^ 60 ≤ 10 ^ 70 := by decide
 exact log_of h0 (by omega)
theorem loadN_le (rs : List Trip) (st : Int) : 0 ≤ loadN rs st ∧ loadN rs st ≤ rs.length := by
 have := List.length_filter_le (passes st) rs
 unfold loadN
 omega
def sp_Line_capacity : PrP := fun K C args P => ∃ n rs, args = [lineP C n rs] ∧ P (.int n)
def namedP (rs : List Trip) : PV → PV
 | .str w => match rs.find? (fun r => decide (r.1 = w)) with
  | some r => rowP r
  | none => .non
 | _ => .non
def sp_trip_named : PrP := fun K C args P => ∃ rs x, args = [rowsP rs, x] ∧ Kn K x ∧ P (namedP rs x)
def ts_Line_capacity (K : PySem.W.Frag) (CLine : Addr) : TSp := tRetP (tFldP CLine ("seat_count" : Str) (tVarP 0))
def ts_trip_named (K : PySem.W.Frag) (CLine : Addr) : TSp := tSeqP (tIfSP (tNotP (tBlP (tCBP (rIsI K) (tConsP (tVarP 1) (tConsP (tConP (.raw (.ty "str"))) (tNilP)))))) (tRetP (tConP .non)) (tNextP)) (tSeqP (tForP (iTupP (tVarP 0)) (gNameP 2) (tIfSP (tBlP (tOpP (rEqI false) (tOpP rIxP (tVarP 2) (tConP (.int 0))) (tVarP 1))) (tRetP (tVarP 2)) (tNextP))) (tRetP (tConP .non)))
section
variable {K : PySem.W.Frag} {C : Addr} {args : List PV} {P : PV → Prop} {PR : PV → Ow → Prop} {o : Ow}
theorem len_Line_capacity (h : sp_Line_capacity K C args P) : args.length = 1 := by
 obtain ⟨_, _, rfl, _⟩ := h; rfl
theorem len_trip_named (h : sp_trip_named K C args P) : args.length = 2 := by
 obtain ⟨_, _, rfl, _⟩ := h; rfl
theorem w_chain {r r' : R2p} {ta tb tc : TEp} {η : EP'} {Q : PV → EP' → Prop} (h : ta η fun x η1 => tb η1 fun y η2 => r x y fun z => ∃ k, z = .bl k ∧ if k = true then tc η2 fun w η3 => r' y w fun z' => Q z' η3 else Q (.bl false) η2) : tChainP r r' ta tb tc η Q := h
theorem take_map {α β : Type} {l : List α} {f : α → β} {i : Nat} {a : α} (h : l[i]? = some a) : (l.take (i + 1)).map f = (l.take i).map f ++ [f a] := by
 rw [List.take_succ, h, List.map_append]
 rfl
theorem take_filter {α : Type} {l : List α} {p : α → Bool} {i : Nat} {a : α} (h : l[i]? = some a) : (l.take (i + 1)).filter p = (l.take i).filter p ++ [a].filter p := by
 rw [List.take_succ, h, List.filter_append]
 rfl
theorem take_filterT {α : Type} {l : List α} {p : α → Bool} {i : Nat} {a : α} (h : l[i]? = some a) (hp : p a = true) : (l.take (i + 1)).filter p = (l.take i).filter p ++ [a] := by
 rw [take_filter h, List.filter_cons_of_pos hp]
 rfl
theorem take_filterF {α : Type} {l : List α} {p : α → Bool} {i : Nat} {a : α} (h : l[i]? = some a) (hp : p a = false) : (l.take (i + 1)).filter p = (l.take i).filter p := by
 rw [take_filter h, List.filter_cons_of_neg (by rw [hp]; decide)]
 exact List.append_nil _
theorem filt_len {α : Type} {l : List α} {p : α → Bool} {i : Nat} (h : l.length ≤ 24) : ((l.take i).filter p).length < sizeLine := by
 have h1 := List.length_filter_le p (l.take i)
 rw [List.length_take] at h1
 have : 1000 < sizeLine := by decide
 omega
theorem rd_Line_capacity (h : sp_Line_capacity K C args P) : ts_Line_capacity K C { nx := fun _ => P .non, rt := fun x _ => P x } (startP 1 args) := by
 obtain ⟨n, rs, rfl, hp⟩ := h
 exact ⟨rfl, _, rfl, hp⟩
theorem rd_trip_named (h : sp_trip_named K C args P) : ts_trip_named K C { nx := fun _ => P .non, rt := fun x _ => P x } (startP 3 args) := by
 obtain ⟨rs, x, rfl, kn, hp⟩ := h
 have e : startP 3 [rowsP rs, x] = [.va (rowsP rs), .va x, .no] := rfl
 rw [e]
 refine w_seq (w_if (w_not (w_bl (w_cb (w_cons (w_var (x := x) rfl (w_cons (w_con (w_nil (isi_str kn ?_))))))))))
 cases x with
 | str w =>
  refine q_iteF (w_next ?_)
  dsimp only
  refine w_seq (w_for (w_itup (w_var (x := rowsP rs) rfl ⟨fun i η => (∀ r ∈ rs.take i, r.1 ≠ w) ∧ ∃ s, η = [.va (rowsP rs), .va (.str w), s], ⟨fun _ z => (by cases z), _, rfl⟩, ?_, ?_⟩)))
  ·rintro i x η hi ⟨hn, s, rfl⟩
   rw [List.getElem?_map] at hi
   obtain ⟨r, hr, rfl⟩ := Option.map_eq_some_iff.mp hi
   refine w_gname ?_
   simp only [List.set_cons_zero, List.set_cons_succ]
   refine w_if (w_bl (w_op (w_op (w_var (x := rowP r) rfl (w_con (q_ixT rfl (w_var (x := .str w) rfl (q_eqI ?_))))))))
   refine q_ite (fun e1 => w_ret (w_var (x := rowP r) rfl ?_)) fun ne => w_next ⟨fun q hq => ?_, _, rfl⟩
   ·have f : rs.find? (fun r => decide (r.1 = w)) = some r := by
     obtain ⟨hil, er⟩ := List.getElem?_eq_some_iff.mp hr
     have sp : rs = rs.take i ++ r :: rs.drop (i + 1) := by rw [← er, List.getElem_cons_drop, List.take_append_drop]
     rw [sp, List.find?_append, List.find?_eq_none.mpr (fun q hq => by simpa using hn q hq)]
     simp [e1]
    unfold namedP at hp
    simp only [f] at hp
    exact hp
   ·rw [List.take_succ, hr] at hq
    rcases List.mem_append.mp hq with z | z
    ·exact hn q z
    ·have z2 : q = r := by simpa using z
     rw [z2]
     exact ne
  ·rintro η ⟨hn, s, rfl⟩
   rw [List.length_map, List.take_length] at hn
   have f : rs.find? (fun r => decide (r.1 = w)) = none := List.find?_eq_none.mpr fun q hq => by simpa using hn q hq
   unfold namedP at hp
   simp only [f] at hp
   dsimp only
   exact w_ret (w_con hp)
 | _ =>
  refine q_iteT ?_
  refine w_ret ?_
  exact w_con hp
end
def sp_law_by_start : PrP := fun K C args P => ∃ rs, args = [rowsP rs] ∧ Rw rs ∧ P (.lst ((queueT rs).map rowP))
def ts_law_by_start (K : PySem.W.Frag) (CLine : Addr) : TSp := tSeqP (tSetP 1 (tCBP rSortD (tConsP (tValP (tLcP (iTupP (tVarP 0)) (gNameP 2) (tYesP) (tTupP (tConsP (tOpP rIxP (tVarP 2) (tConP (.int 1))) (tConsP (tOpP rIxP (tVarP 2) (tConP (.int 0))) (tConsP (tVarP 2) (tNilP))))) [2])) (tNilP)))) (tRetP (tValP (tLcP (iListP (tVarP 1)) (gNameP 3) (tYesP) (tOpP rIxP (tVarP 3) (tConP (.int 2))) [3])))
section
variable {K : PySem.W.Frag} {C : Addr} {args : List PV} {P : PV → Prop} {PR : PV → Ow → Prop} {o : Ow}
theorem len_law_by_start (h : sp_law_by_start K C args P) : args.length = 1 := by
 obtain ⟨_, rfl, _⟩ := h; rfl
def triP (r : Trip) : PV := .tup [.int r.2.1, .str r.1, rowP r]
def triD (r : Trip) : PyData := .tuple [.int r.2.1, .str r.1, rowD r]
theorem toDs_tri : ∀ rs : List Trip, toDs (rs.map triP) = some (rs.map triD)
 | [] => rfl
 | r :: rs => by
  rw [List.map_cons, toDs, toDs_tri rs]
  rfl
theorem alike_tri (rs : List Trip) : PySem.W.AllAlike (rs.map triD) := fun d hd d' hd' => by
 obtain ⟨a, _, rfl⟩ := List.mem_map.mp hd
 obtain ⟨b, _, rfl⟩ := List.mem_map.mp hd'
 simp [triD, rowD, PySem.W.alike, PySem.W.alikeAll]
theorem tri_le {a b : Trip} (h : a.1 = b.1 → a = b) : PySem.W.dataLe false encD (triP a) (triP b) = qLe a b := by
 show (!PySem.W.dataLt (.tuple [.int b.2.1, .str b.1, rowD b]) (.tuple [.int a.2.1, .str a.1, rowD a])) = !PySem.W.dataLt (.tuple [.int b.2.1, .str b.1]) (.tuple [.int a.2.1, .str a.1])
 rw [PySem.W.dataLt_tuple, PySem.W.dataLt_tuple, PySem.W.dataLt_cons (x := .int b.2.1) (y := .int a.2.1) (by simp [PySem.W.alike]) [.str b.1, rowD b], PySem.W.dataLt_cons (x := .int b.2.1) (y := .int a.2.1) (by simp [PySem.W.alike]) [.str b.1],
  PySem.W.dataLt_cons (x := .str b.1) (y := .str a.1) (by simp [PySem.W.alike]) [rowD b], PySem.W.dataLt_cons (x := .str b.1) (y := .str a.1) (by simp [PySem.W.alike]) []]
 by_cases e : PyData.eqv (.str b.1) (.str a.1) = true
 ·have e1 : b.1 = a.1 := by simpa [PyData.eqv] using e
  obtain rfl := h e1.symm
  rw [PyProof.Rows.lex_irrefl, PyProof.Rows.lex_irrefl]
 ·rw [if_neg e, if_neg e]
theorem tri_sort {rs : List Trip} (h : (rs.map (·.1)).Nodup) : (rs.map triP).mergeSort (PySem.W.dataLe false encD) = (queueT rs).map triP := by
 unfold queueT
 refine (List.map_mergeSort (r := qLe) (s := PySem.W.dataLe false encD) (f := triP) (l := rs) fun a ha b hb => ?_).symm
 refine (tri_le fun e => ?_).symm
 obtain ⟨i, hi, rfl⟩ := List.mem_iff_getElem.mp ha
 obtain ⟨j, hj, rfl⟩ := List.mem_iff_getElem.mp hb
 have := (List.getElem_inj (i := i) (j := j) (h₀ := by rw [List.length_map]; exact hi) (h₁ := by rw [List.length_map]; exact hj) h).mp (by rw [List.getElem_map, List.getElem_map]; exact e)
 subst this
 rfl
theorem asc_nodup {rs : List Trip} (h : Rw rs) : (rs.map (·.1)).Nodup := by
 unfold List.Nodup
 refine List.pairwise_map.mpr (h.asc.imp fun {a b} hab e => ?_)
 rw [e] at hab
 exact List.lt_irrefl _ hab
theorem rd_law_by_start (h : sp_law_by_start K C args P) : ts_law_by_start K C { nx := fun _ => P .non, rt := fun x _ => P x } (startP 4 args) := by
 obtain ⟨rs, rfl, hw, hp⟩ := h
 have e : startP 4 [rowsP rs] = [.va (rowsP rs), .no, .no, .no] := rfl
 rw [e]
 have hl := hw.len
 have ql := queue_len rs
 have sz : 1000 < sizeLine := by decide
 refine w_seq (w_set (w_cb (w_cons (w_val (w_lc (w_itup (w_var (x := rowsP rs) rfl ?_)))))))
 refine ⟨fun i acc η => acc = (rs.take i).map triP ∧ η = [.va (rowsP rs), .no, .no, .no], ⟨rfl, rfl⟩, ?_, ?_⟩
 ·rintro i x acc η hi ⟨rfl, rfl⟩
  rw [List.getElem?_map] at hi
  obtain ⟨r, hr, rfl⟩ := Option.map_eq_some_iff.mp hi
  refine w_gname (w_yes (q_iteT ?_))
  refine w_tup (w_cons (w_op (w_var (x := rowP r) rfl (w_con (q_ixT (x := .int r.2.1) rfl (w_cons (w_op (w_var (x := rowP r) rfl (w_con (q_ixT (x := .str r.1) rfl ?_))))))))))
  refine w_cons (w_var (x := rowP r) rfl (w_nil ⟨sz3, by rw [List.length_map, List.length_take]; omega, ?_, rfl⟩))
  rw [take_map hr]
  rfl
 ·rintro acc η ⟨rfl, rfl⟩
  rw [List.length_map, List.take_length]
  refine w_nil ⟨_, toDs_tri rs, alike_tri rs, .inl fun d hd => ?_, fun x hx => ?_, by rw [List.length_map]; omega, ?_⟩
  ·obtain ⟨a, _, rfl⟩ := List.mem_map.mp hd
   exact ⟨_, _, rfl⟩
  ·obtain ⟨a, _, rfl⟩ := List.mem_map.mp hx
   show (triD a).depth ≤ 50
   simp [triD, rowD, PyData.depth, PyData.depthAll]
  ·rw [tri_sort (asc_nodup hw)]
   simp only [List.set_cons_zero, List.set_cons_succ]
   refine w_ret (w_val (w_lc (w_varL (xs := (queueT rs).map triP) rfl ?_)))
   refine ⟨fun i acc η => acc = ((queueT rs).take i).map rowP ∧ η = [.va (rowsP rs), .va (.lst ((queueT rs).map triP)), .no, .no], ⟨rfl, rfl⟩, ?_, ?_⟩
   ·rintro i x acc η hi ⟨rfl, rfl⟩
    rw [List.getElem?_map] at hi
    obtain ⟨r, hr, rfl⟩ := Option.map_eq_some_iff.mp hi
    refine w_gname (w_yes (q_iteT ?_))
    refine w_op (w_var (x := triP r) rfl (w_con (q_ixT (x := rowP r) rfl ⟨by rw [List.length_map, List.length_take]; omega, ?_, rfl⟩)))
    rw [take_map hr]
   ·rintro acc η ⟨rfl, rfl⟩
    rw [List.length_map, List.take_length]
    exact hp
theorem maxOf_mem : ∀ (ns : List Int) (n : Int), PySem.W.maxOf n ns ∈ n :: ns ∧ ∀ x ∈ n :: ns, x ≤ PySem.W.maxOf n ns
 | [], n => ⟨List.mem_cons_self, fun x hx => by rw [List.mem_singleton.mp hx]; exact Int.le_refl _⟩
 | y :: ns, n => by
  show PySem.W.maxOf (if PySem.W.DatumOrd.lt n y = true then y else n) ns ∈ _ ∧ ∀ x ∈ _, x ≤ PySem.W.maxOf (if PySem.W.DatumOrd.lt n y = true then y else n) ns
  have e : (PySem.W.DatumOrd.lt n y = true) = (n < y) := by
   show ((decide (n < y)) = true) = _
   simp
  simp only [e]
  obtain ⟨h1, h2⟩ := maxOf_mem ns (if n < y then y else n)
  by_cases c : n < y
  ·rw [if_pos c] at h1 h2 ⊢
   refine ⟨List.mem_cons_of_mem _ h1, fun x hx => ?_⟩
   rcases List.mem_cons.mp hx with rfl | hx
   ·have := h2 y List.mem_cons_self; omega
   ·exact h2 x hx
  ·rw [if_neg c] at h1 h2 ⊢
   refine ⟨?_, fun x hx => ?_⟩
   ·rcases List.mem_cons.mp h1 with e | e
    ·rw [e]; exact List.mem_cons_self
    ·exact List.mem_cons_of_mem _ (List.mem_cons_of_mem _ e)
   ·rcases List.mem_cons.mp hx with rfl | hx
    ·exact h2 x List.mem_cons_self
    ·rcases List.mem_cons.mp hx with rfl | hx
     ·have := h2 n List.mem_cons_self; omega
     ·exact h2 x (List.mem_cons_of_mem _ hx)
theorem peak_mem (rs : List Trip) : peakI rs ∈ rs.map (fun r => loadN rs r.2.1) ++ [0] ∧ ∀ x ∈ rs.map (fun r => loadN rs r.2.1) ++ [0], x ≤ peakI rs := by
 unfold peakI
 cases e : rs.map (fun r => loadN rs r.2.1) with
 | nil => exact ⟨List.mem_cons_self, fun x hx => by rw [List.mem_singleton.mp hx]; exact Int.le_refl _⟩
 | cons n ns =>
  obtain ⟨h1, h2⟩ := maxOf_mem ns n
  refine ⟨List.mem_append_left _ h1, fun x hx => ?_⟩
  rcases List.mem_append.mp hx with hx | hx
  ·exact h2 x hx
  ·rw [List.mem_singleton.mp hx]
   have hn : n ∈ rs.map (fun r => loadN rs r.2.1) := by rw [e]; exact List.mem_cons_self
   obtain ⟨r, _, rfl⟩ := List.mem_map.mp hn
   have := (loadN_le rs r.2.1).1
   have := h2 _ List.mem_cons_self
   show (0 : Int) ≤ PySem.W.maxOf _ _
   omega
theorem w_callK {sp : SpP} {n nk : Nat} {is : List Nat} {t tk : TAp} {η : EP'} {Q : PV → EP' → Prop} (h : t η fun args η1 => tk η1 fun zs η2 => args.length = n ∧ zs.length = nk ∧ sp (args ++ pick is zs) fun z => Q z η2) : tCallKP sp n nk is t tk η Q := h
theorem q_eqN {a b : Int} (h : P (.bl (decide (a = b)))) : rEqI false (.int a) (.int b) P := h
end
def overR (n : Int) (rs : List Trip) : Option Trip := (queueT rs).find? fun r => decide (n < loadN rs r.2.1)
def meetB (a b : Trip) : Bool := decide (a.2.1 < b.2.2) && decide (b.2.1 < a.2.2)
def szAt (n : Int) (q : List Trip) (i : Nat) : Int := match q[i]? with
 | some r => n - (((q.take i).filter (meetB r)).length : Int)
 | none => 0
def sizesI (n : Int) (q : List Trip) : List Int := (List.range q.length).map (szAt n q)
def prodI (l : List Int) : Int := l.foldl (· * ·) 1
def countI (n : Int) (rs : List Trip) : Int := match overR n rs with
 | some _ => 0
 | none => prodI (sizesI n (queueT rs))
def sp_check_line : PrP := fun K C args P => ∃ n rs, args = [lineP C n rs] ∧ ClsT K C ∧ P .non
def sp_meet : PrP := fun K C args P => ∃ a b, args = [rowP a, rowP b] ∧ P (.bl (meetB a b))
def ts_check_line (K : PySem.W.Frag) (CLine : Addr) : TSp := tIfSP (tNotP (tBlP (tCBP (rIsI K) (tConsP (tVarP 0) (tConsP (tConP (.raw (.ref CLine))) (tNilP)))))) (tNevP) (tNextP)
def ts_meet (K : PySem.W.Frag) (CLine : Addr) : TSp := tRetP (tAndVP (tOpP rLt (tOpP rIxP (tVarP 0) (tConP (.int 1))) (tOpP rIxP (tVarP 1) (tConP (.int 2)))) (tOpP rLt (tOpP rIxP (tVarP 1) (tConP (.int 1))) (tOpP rIxP (tVarP 0) (tConP (.int 2)))))
section
variable {K : PySem.W.Frag} {C : Addr} {args : List PV} {P : PV → Prop} {PR : PV → Ow → Prop} {o : Ow}
theorem len_check_line (h : sp_check_line K C args P) : args.length = 1 := by
 obtain ⟨_, _, rfl, _⟩ := h; rfl
theorem len_meet (h : sp_meet K C args P) : args.length = 2 := by
 obtain ⟨_, _, rfl, _⟩ := h; rfl
theorem w_lstP {te : TEp} {η : EP'} {Q : List PV → EP' → Prop} (h : te η fun x η1 => match x with | .lst xs => Q xs η1 | .scr ns => Q (ns.map .int) η1 | _ => False) : iListP te η Q := h
theorem rd_check_line (h : sp_check_line K C args P) : ts_check_line K C { nx := fun _ => P .non, rt := fun x _ => P x } (startP 1 args) := by
 obtain ⟨n, rs, rfl, hC, hp⟩ := h
 refine w_if (w_not (w_bl (w_cb (w_cons (w_var (x := lineP C n rs) rfl (w_cons (w_con (w_nil ⟨rfl, hC, ?_⟩))))))))
 exact q_iteF (w_next hp)
theorem rd_meet (h : sp_meet K C args P) : ts_meet K C { nx := fun _ => P .non, rt := fun x _ => P x } (startP 2 args) := by
 obtain ⟨a, b, rfl, hp⟩ := h
 have e : startP 2 [rowP a, rowP b] = [.va (rowP a), .va (rowP b)] := rfl
 rw [e]
 refine w_ret (w_andV (w_op (w_op (w_var (x := rowP a) rfl (w_con (q_ixT (x := .int a.2.1) rfl (w_op (w_var (x := rowP b) rfl (w_con (q_ixT (x := .int b.2.2) rfl (q_lt ?_)))))))))))
 unfold meetB at hp
 by_cases c1 : a.2.1 < b.2.2
 ·rw [decide_eq_true c1] at hp ⊢
  refine w_op (w_op (w_var (x := rowP b) rfl (w_con (q_ixT (x := .int b.2.1) rfl (w_op (w_var (x := rowP a) rfl (w_con (q_ixT (x := .int a.2.2) rfl (q_lt ?_)))))))))
  rw [Bool.true_and] at hp
  exact hp
 ·rw [decide_eq_false c1] at hp ⊢
  exact hp
theorem szAt_eq {n : Int} {q : List Trip} {i : Nat} {r : Trip} (h : q[i]? = some r) : szAt n q i = n - (((q.take i).filter (meetB r)).length : Int) := by
 unfold szAt; rw [h]
theorem szAt_bound {n : Int} {q : List Trip} {i : Nat} (h1 : 1 ≤ n) (h2 : n ≤ 20) (hq : q.length ≤ 24) : -24 ≤ szAt n q i ∧ szAt n q i ≤ 20 := by
 unfold szAt
 cases q[i]? with
 | none =>
  show -24 ≤ (0:Int) ∧ (0:Int) ≤ 20
  decide
 | some r =>
  have h3 := List.length_filter_le (meetB r) (q.take i)
  rw [List.length_take] at h3
  show -24 ≤ n - _ ∧ n - _ ≤ 20
  omega
end
theorem qLe_eq (a b : Trip) : qLe a b = decide (a.2.1 < b.2.1 ∨ (a.2.1 = b.2.1 ∧ a.1.cps.toList ≤ b.1.cps.toList)) := by
 show (!PySem.W.dataLt (.tuple [.int b.2.1, .str b.1]) (.tuple [.int a.2.1, .str a.1])) = _
 rw [PySem.W.dataLt_pair (by simp [PySem.W.alike]) (by simp [PySem.W.alike])]
 have e1 : (!PySem.W.dataLt (.int b.2.1) (.int a.2.1)) = decide (a.2.1 ≤ b.2.1) := congrFun (congrFun (PySem.W.dataLe_int (fun r : Trip => r.2.1)) a) b
 have e2 : (!PySem.W.dataLt (.str b.1) (.str a.1)) = decide (a.1.cps.toList ≤ b.1.cps.toList) := congrFun (congrFun (PySem.W.dataLe_str (fun r : Trip => r.1)) a) b
 have e3 : PyData.eqv (.int b.2.1) (.int a.2.1) = decide (b.2.1 = a.2.1) := by simp only [PyData.eqv]; rw [Bool.eq_iff_iff]; simp
 have e4 : PyData.eqv (.str b.1) (.str a.1) = decide (b.1 = a.1) := by simp only [PyData.eqv]; rw [Bool.eq_iff_iff]; simp
 rw [e3, e4]
 by_cases c : b.2.1 = a.2.1
 ·rw [decide_eq_true c, if_pos rfl]
  by_cases d : b.1 = a.1
  ·rw [decide_eq_true d, if_pos rfl, d, c]
   exact (decide_eq_true (.inr ⟨rfl, List.le_refl _⟩)).symm
  ·rw [decide_eq_false d, if_neg Bool.false_ne_true, e2, Bool.eq_iff_iff, decide_eq_true_iff, decide_eq_true_iff]
   exact ⟨fun h => .inr ⟨c.symm, h⟩, fun h => h.elim (fun z => by omega) fun z => z.2⟩
 ·rw [decide_eq_false c, if_neg Bool.false_ne_true, e1, Bool.eq_iff_iff, decide_eq_true_iff, decide_eq_true_iff]
  exact ⟨fun h => .inl (by omega), fun h => h.elim (fun z => by omega) fun z => by omega⟩
theorem qLe_trans (a b c : Trip) (h1 : qLe a b = true) (h2 : qLe b c = true) : qLe a c = true := by
 rw [qLe_eq, decide_eq_true_iff] at *
 rcases h1 with h1 | ⟨h1, l1⟩ <;> rcases h2 with h2 | ⟨h2, l2⟩
 ·exact .inl (by omega)
 ·exact .inl (by omega)
 ·exact .inl (by omega)
 ·exact .inr ⟨by omega, List.le_trans l1 l2⟩
theorem qLe_total (a b : Trip) : (qLe a b || qLe b a) = true := by
 rw [Bool.or_eq_true, qLe_eq, qLe_eq, decide_eq_true_iff, decide_eq_true_iff]
 rcases Int.lt_trichotomy a.2.1 b.2.1 with c | c | c
 ·exact .inl (.inl c)
 ·rcases List.le_total a.1.cps.toList b.1.cps.toList with d | d
  ·exact .inl (.inr ⟨c, d⟩)
  ·exact .inr (.inr ⟨c.symm, d⟩)
 ·exact .inr (.inl c)
theorem queue_up (rs : List Trip) : (queueT rs).Pairwise fun a b => a.2.1 ≤ b.2.1 := by
 refine (List.pairwise_mergeSort qLe_trans qLe_total rs).imp fun {a b} h => ?_
 rw [qLe_eq, decide_eq_true_iff] at h
 omega
theorem load_queue (rs : List Trip) (st : Int) : loadN rs st = (((queueT rs).filter (passes st)).length : Int) := by
 unfold loadN
 rw [((queue_perm rs).filter (passes st)).length_eq]
def Asc (us : List Trip) : Prop := us.Pairwise fun a b => a.1.cps.toList < b.1.cps.toList
section
variable {K : PySem.W.Frag} {C : Addr} {args : List PV} {P : PV → Prop} {PR : PV → Ow → Prop} {o : Ow}
theorem named_in {rs : List Trip} {r : Trip} (hw : Rw rs) (hr : r ∈ rs) : namedP rs (.str r.1) = rowP r := by
 unfold namedP
 have hnd := asc_nodup hw
 have f : rs.find? (fun q => decide (q.1 = r.1)) = some r := by
  cases e : rs.find? (fun q => decide (q.1 = r.1)) with
  | none => exact absurd (decide_eq_true rfl) (List.find?_eq_none.mp e r hr)
  | some q =>
   have hq := List.mem_of_find?_eq_some e
   have he : q.1 = r.1 := by simpa using List.find?_some e
   have : q = r := by
    obtain ⟨i, hi, rfl⟩ := List.mem_iff_getElem.mp hq
    obtain ⟨j, hj, rfl⟩ := List.mem_iff_getElem.mp hr
    have := (List.getElem_inj (i := i) (j := j) (h₀ := by rw [List.length_map]; exact hi) (h₁ := by rw [List.length_map]; exact hj) hnd).mp (by rw [List.getElem_map, List.getElem_map]; exact he)
    subst this
    rfl
   rw [this]
 simp only [f]
theorem perm_asc {us vs : List Trip} (h : us.Perm vs) (hu : Asc us) (hv : Asc vs) : us = vs := by
 refine h.eq_of_pairwise (le := fun a b : Trip => a.1.cps.toList < b.1.cps.toList) (fun a b _ _ h1 h2 => ?_) hu hv
 exact absurd (List.lt_trans h1 h2) (List.lt_irrefl _)
end
end Z
namespace Z
open PySem PySem.Spec L2 GenW
open PyProof.Rows hiding St
section
variable {X : Cx} {T : List (Addr × Str)} {e o c : Expr} {es : List Expr} {st : Stmt} {body rest : List Stmt} {te ta : TEp} {t : TAp} {tt : TTp} {ts tb : TSp} {pos p p' pos' : Pos} {k : Nat} {f : Addr} {fd : FuncData} {ps : List Str} {x nm : Str} {i : Nat}
structure GEndsP where
 nx : List PV → EP' → Prop
abbrev TGSp := GEndsP → List PV → EP' → Prop
theorem GS.weak {t t' : TGn} (h : GS X st t) (w : ∀ D ys σ H, t' D ys σ H → t D ys σ H) : GS X st t' := ⟨fun A S ip R n ys s₀ c fs K J gd lv s σ H D g hn kk hI ht => h.run A S ip R n ys s₀ c fs K J gd lv s σ H D g hn kk hI (w _ _ _ _ ht)⟩
theorem GSs.weak {t t' : TGn} (h : GSs X body t) (w : ∀ D ys σ H, t' D ys σ H → t D ys σ H) : GSs X body t' := ⟨fun A S ip R n ys s₀ c fs K J gd lv s σ H D g hn kk hI ht => h.run A S ip R n ys s₀ c fs K J gd lv s σ H D g hn kk hI (w _ _ _ _ ht)⟩
end
end Z
namespace Z
open PySem PySem.Spec L2
open PyProof.Rows hiding St
theorem Room.u1 {k : Nat} {A : Around} (h : Room k A) : A.units + 1 < cLine := by have := h.units; omega
def dkey : PV → Option Key
 | .int i => some (.inl i)
 | .str x => some (.inr x)
 | _ => none
def valP : List (Key × PV) → Key → Option PV
 | [], _ => none
 | p :: r, k => if p.1 = k then some p.2 else valP r k
def putP (kvs : List (Key × PV)) (k : Key) (x : PV) : List (Key × PV) :=
 if (kvs.any fun kv => decide (kv.1 = k)) = true then kvs.map (fun kv => if kv.1 = k then (kv.1, x) else kv) else kvs ++ [(k, x)]
def mergeP (kvs more : List (Key × PV)) : List (Key × PV) := more.foldl (fun acc kv => putP acc kv.1 kv.2) kvs
section
variable {K : PySem.W.Frag} {O O' : Addr → Prop} {H H' : Hp}
theorem dkey_rep {x : PV} {v : V} {k : Key} (h : Rep K O H x v) (e : dkey x = some k) : v = kV k := by
 cases x <;> unfold dkey at e <;> cases e
 ·exact h.int_
 ·exact h.str_
theorem RepD.inv {n : Key} {x : PV} {xs : List (Key × PV)} {vs : List (Key × V)} (h : RepD K O H ((n, x) :: xs) vs) : ∃ v us, vs = (n, v) :: us ∧ Rep K O H x v ∧ RepD K O H xs us := by unfold RepD at h; exact h
theorem RepD.inv0 {vs : List (Key × V)} (h : RepD K O H [] vs) : vs = [] := by unfold RepD at h; exact h
theorem RepD.cons {n : Key} {x : PV} {v : V} {xs : List (Key × PV)} {vs : List (Key × V)} (h : Rep K O H x v) (t : RepD K O H xs vs) : RepD K O H ((n, x) :: xs) ((n, v) :: vs) := by unfold RepD; exact ⟨v, vs, rfl, h, t⟩
theorem RepD.app : ∀ {xs ys : List (Key × PV)} {vs us : List (Key × V)}, RepD K O H xs vs → RepD K O H ys us → RepD K O H (xs ++ ys) (vs ++ us)
 | [], _, _, _, h, t => by rw [h.inv0]; exact t
 | (n, x) :: xs, _, _, _, h, t => by
  obtain ⟨v, us, rfl, r, q⟩ := h.inv
  exact .cons r (q.app t)
theorem RepD.val : ∀ {xs : List (Key × PV)} {vs : List (Key × V)} (k : Key), RepD K O H xs vs → (∀ x, valP xs k = some x → ∃ v, valV vs k = some v ∧ Rep K O H x v) ∧ (valP xs k = none → valV vs k = none)
 | [], _, k, h => by
  rw [h.inv0]
  exact ⟨fun x e => (nomatch e), fun _ => rfl⟩
 | (n, x) :: xs, _, k, h => by
  obtain ⟨v, us, rfl, r, t⟩ := h.inv
  obtain ⟨h1, h2⟩ := t.val k
  by_cases e : n = k
  ·refine ⟨fun y q => ?_, fun q => ?_⟩
   ·unfold valP at q; rw [if_pos e] at q; cases q
    exact ⟨v, valV_pos (p := (n, v)) e, r⟩
   ·unfold valP at q; rw [if_pos e] at q; cases q
  ·rw [valV_neg (p := (n, v)) e]
   unfold valP; rw [if_neg e]
   exact ⟨h1, h2⟩
theorem RepD.any : ∀ {xs : List (Key × PV)} {vs : List (Key × V)} (k : Key), RepD K O H xs vs → (vs.any fun kv => decide (kv.1 = k)) = (xs.any fun kv => decide (kv.1 = k))
 | [], _, k, h => by rw [h.inv0]; rfl
 | (n, x) :: xs, _, k, h => by
  obtain ⟨v, us, rfl, r, t⟩ := h.inv
  rw [List.any_cons, List.any_cons, t.any k]
theorem RepD.repl : ∀ {xs : List (Key × PV)} {vs : List (Key × V)} (k : Key) {y : PV} {u : V}, RepD K O H xs vs → Rep K O H y u → RepD K O H (xs.map fun kv => if kv.1 = k then (kv.1, y) else kv) (vs.map fun kv => if kv.1 = k then (kv.1, u) else kv)
 | [], _, k, _, _, h, _ => by rw [h.inv0]; exact .nil
 | (n, x) :: xs, _, k, _, _, h, ry => by
  obtain ⟨v, us, rfl, r, t⟩ := h.inv
  rw [List.map_cons, List.map_cons]
  by_cases e : n = k
  ·rw [if_pos e, if_pos e]; exact .cons ry (t.repl k ry)
  ·rw [if_neg e, if_neg e]; exact .cons r (t.repl k ry)
theorem RepD.put {xs : List (Key × PV)} {vs : List (Key × V)} (k : Key) {y : PV} {u : V} (h : RepD K O H xs vs) (ry : Rep K O H y u) : RepD K O H (putP xs k y) (putK vs k u) := by
 unfold putP putK
 rw [h.any k]
 split
 ·exact h.repl k ry
 ·exact h.app (.cons ry .nil)
theorem RepD.merge : ∀ {more : List (Key × PV)} {rs : List (Key × V)} {xs : List (Key × PV)} {vs : List (Key × V)}, RepD K O H more rs → RepD K O H xs vs → RepD K O H (mergeP xs more) (mergeK vs rs)
 | [], _, _, _, h, r => by rw [h.inv0]; exact r
 | (n, x) :: more, _, _, _, h, r => by
  obtain ⟨v, us, rfl, rx, t⟩ := h.inv
  exact t.merge (r.put n rx)
theorem Rep.dic_ {kvs : List (Key × PV)} {v : V} (h : Rep K O H (.dic kvs) v) : ∃ a ws, v = .ref a ∧ ¬ O a ∧ H a = some (.dK ws) ∧ RepD K O H kvs ws := by unfold Rep at h; exact h
def pairsP : List PV → Option (List (Key × PV))
 | [] => some []
 | .tup [k, x] :: r => match dkey k, pairsP r with
  | some k, some r => some ((k, x) :: r)
  | _, _ => none
 | _ => none
theorem pairsP_inv {y : PV} {xs : List PV} {kvs : List (Key × PV)} (e : pairsP (y :: xs) = some kvs) : ∃ k kk x r, y = .tup [k, x] ∧ dkey k = some kk ∧ pairsP xs = some r ∧ kvs = (kk, x) :: r := by
 unfold pairsP at e
 split at e
 ·cases ‹_ :: _ = []›
 ·rename_i k x r q
  cases q
  split at e
  ·rename_i kk r h1 h2
   cases e
   exact ⟨k, kk, x, r, rfl, h1, h2, rfl⟩
  ·cases e
 ·cases e
theorem pairsP_rep : ∀ {xs : List PV} {kvs : List (Key × PV)} {vs : List V}, pairsP xs = some kvs → Reps K O H xs vs → ∃ (ps : List Addr) (ws : List (Key × V)), vs = ps.map V.ref ∧ Paired (fun p kv => SqT K H p [kV kv.1, kv.2]) ps ws ∧ RepD K O H kvs ws
 | [], _, _, e, h => by
  unfold pairsP at e; cases e
  exact ⟨[], [], h.inv0, .nil, .nil⟩
 | y :: xs, _, _, e, h => by
  obtain ⟨k, kk, x, r, rfl, h1, h2, rfl⟩ := pairsP_inv e
  obtain ⟨v, us, rfl, ry, t⟩ := h.inv
  obtain ⟨ps, ws, rfl, q1, q2⟩ := pairsP_rep h2 t
  obtain ⟨a, zs, rfl, tq, rr⟩ := ry.tup_
  obtain ⟨w1, w2, rfl, r1, r2⟩ := rr.two
  obtain rfl := dkey_rep r1 h1
  exact ⟨a :: ps, (kk, w2) :: ws, rfl, .cons tq.sq q1, .cons r2 q2⟩
end
abbrev TFDp := EP' → (List (Key × PV) → EP' → Prop) → Prop
def upFD (K : PySem.W.Frag) (T : List (Addr × Str)) (tp : TFDp) : TE := fun σ H Q => ∃ F η P, Rs K T F σ η H ∧ tp η P ∧ ∀ kvs η' a ws H', P kvs η' → Ext σ η σ η' H H' → Rs K T (With F a) σ η' H' → Nw H a → ¬ F a → H' a = some (.dK ws) → RepD K (Oof (With F a) σ η') H' kvs ws → Q (.ref a) H'
abbrev R1d := List PV → (List (Key × PV) → Prop) → Prop
def r1d (K : PySem.W.Frag) (r : R1d) : List V → Hp → VK → Prop := fun vs H Q => ∃ O ps P, Trk O H ∧ Reps K O H ps vs ∧ r ps P ∧ ∀ kvs ws p, P kvs → H p = none → RepD K O H kvs ws → Q (.ref p) (upd H p (.dK ws))
section
variable {X : Cx} {T : List (Addr × Str)} {e o a b : Expr} {es : List Expr} {te ta tb ti : TEp} {t : TAp} {tr : TArp} {tf : TFDp} {pos : Pos} {i : Nat}
def tValDP (tf : TFDp) : TEp := fun η P => tf η fun kvs η1 => P (.dic kvs) η1
theorem z_valD (h : PE X e (upFD X.K T tf)) : PE X e (up X.K T (tValDP tf)) := by
 refine PE.weak h fun σ H Q q => ?_
 obtain ⟨F, η, P, R, h, k⟩ := q
 refine ⟨F, η, _, R, h, fun kvs η' a vs H' h1 e1 R1 hn nf hv r => ?_⟩
 refine k _ _ _ _ h1 e1 (R1.shrink fun b z => .inl z) ?_
 unfold Rep
 refine ⟨a, vs, rfl, fun z => ?_, hv, r.mono fun b z => z.elim (fun z => .inl (.inl z)) .inr⟩
 rcases z with z | ⟨j, p, h1, h2⟩
 ·exact nf z
 ·obtain ⟨b, q1, q2, q3⟩ := R1.ow j p h2
  rw [h1] at q1; cases q1
  exact q3 (.inr rfl)
def tDicFD : TFDp := fun η P => P [] η
theorem zd_dic0 : PE X (.Dict [] [] pos) (upFD X.K T tDicFD) := by
 refine PE.weak pe_dnewK fun σ H Q q => ?_
 obtain ⟨F, η, P, R, h, k⟩ := q
 intro p hp
 have hn : Nw H p := Nw.of hp
 exact k [] η p [] _ h (.same (Same.new hp)) (R.add hp nofun) hn (fun z => R.tr p z hn) upd_same .nil
def tCBD (r : R1d) (t : TAp) : TFDp := fun η P => t η fun xs η1 => r xs fun kvs => P kvs η1
theorem zd_callTy {x : Str} {id : String} {r : R1d} {p : Pos} (hc : CallR X (.type id) (r1d X.K r)) (hg : Gl X x) (hm : X.mg x = none) (hv : bootBuiltins x = some (.type id)) (ha : PA X (e :: es) (upA X.K T t)) (hn : x ≠ "__name__" := by decide) (hdb : (x == ("__debug__" : Str)) = false := by decide)
  (he : starEach (e :: es) X.env = (false, eval e X.env) :: starEach es X.env := by rfl) (hpl : (backTo pos (starEach es X.env)).any (·.1) = false := by rfl) : PE X (.Call (.Name x p) (e :: es) [] pos) (upFD X.K T (tCBD r t)) := by
 refine PE.weak (pe_callTy hc hg hm hv ha hn hdb he hpl) fun σ H Q q => ?_
 obtain ⟨F, η, P, R, h, k⟩ := q
 refine ⟨F, η, _, R, h, fun xs η1 v H1 h1 e1 R1 r1 => ?_⟩
 refine ⟨Oof F σ η1, xs, _, R1.trO, r1, h1, fun kvs ws p pz hp rz => ?_⟩
 have hn : Nw H p := e1.nw (Nw.of hp)
 exact k kvs η1 p ws _ pz (e1.trans (.same (Same.new hp))) (R1.add hp nofun) hn (fun z => R.tr p z hn) upd_same (rz.car (car_add hp))
def tSetFDP (i : Nat) (tf : TFDp) : TSp := fun D η => (0 : Nat) ≠ i ∧ tf η fun kvs η1 => i < η1.length ∧ D.nx (η1.set i (.ow (.d kvs)))
theorem z_setFD {i : Nat} {x : Str} {pos' : Pos} (hN : X.N.Nodup) (hi : X.N[i]? = some x) (hx : Loc X.env.scope x) (he : PE X e (upFD X.K T tf)) (hs : swapsWith e (some (.Name x pos')) pos.line X.env = pure false := by rfl) (hf : X.fn x = true ∨ X.env.scope.names.lookup x = some .local := by first | exact .inl rfl | exact .inr rfl | assumption) :
  PS X (.Assign [.Name x pos'] e pos) (upS X.K T (tSetFDP i tf)) := by
 refine PS.weak (ps_set hN hi hx he hs hf) fun D σ H q => ?_
 obtain ⟨F, η, D', R, ⟨hi, h⟩, k1, k2, k3, k4⟩ := q
 refine ⟨F, η, _, R, h, fun kvs η1 a vs H1 h1 e1 R1 hn nf hv r => ?_⟩
 exact k1 _ _ _ h1.2 (e1.seto hn hi) (R1.seto nf ⟨vs, hv, r⟩ h1.1)
def tConsFD (tf : TFDp) (t : TArp) : TArp := fun η P => tf η fun kvs η1 => t η1 fun ars η2 => P (.fo (.d kvs) :: ars) η2
theorem zr_fd (he : PE X e (upFD X.K T tf)) (hr : PA X es (upAr X.K T tr)) (hs : starEach (e :: es) X.env = (false, eval e X.env) :: starEach es X.env := by rfl) : PA X (e :: es) (upAr X.K T (tConsFD tf tr)) := by
 refine PA.weak (pa_cons he hr hs) fun σ H Q q => ?_
 obtain ⟨F, η, P, R, h, k⟩ := q
 refine ⟨F, η, _, R, h, fun kvs η1 a ws H1 h1 e1 R1 hn nf hv r1 => ⟨With F a, η1, _, R1, h1, fun ars η2 vs H2 h2 e2 R2 N2 A2 => ?_⟩⟩
 have na : ¬ IsOwn σ η1 a := fun z => by
  obtain ⟨j, p, z1, z2⟩ := z
  obtain ⟨b, q1, q2, q3⟩ := R1.ow j p z2
  rw [z1] at q1; cases q1
  exact q3 (.inr rfl)
 exact k (.fo (.d kvs) :: ars) η2 (.ref a :: vs) H2 h2 (e1.trans e2) R2 ⟨hn, nf, new_back (F := F) e1 N2⟩ ⟨a, vs, rfl, ⟨ws, e2.keep a _ hv na nofun, r1.car (car_FA e2 fun b z => FA_new N2 z)⟩, A2⟩
def tDGetP (td ti : TEp) : TEp := fun η P => td η fun x η1 => ti η1 fun y η2 => match x with
 | .dic kvs => ∃ k z, dkey y = some k ∧ valP kvs k = some z ∧ P z η2
 | _ => False
theorem z_dget (hu : X.A.units + 1 < cLine) (ha : PE X a (up X.K T ta)) (hb : PE X b (up X.K T tb)) (hs : NoSl b := by exact fun _ _ => rfl) : PE X (.Subscript a b pos) (up X.K T (tDGetP ta tb)) := by
 refine PE.weak (pe_dget hu ha hb hs) fun σ H Q q => ?_
 obtain ⟨F, η, P, R, h, k⟩ := q
 refine ⟨F, η, _, R, h, fun x η1 v H1 h1 e1 R1 r1 => ⟨F, η1, _, R1, h1, fun y η2 w H2 h2 e2 R2 r2 => ?_⟩⟩
 split at h2
 ·obtain ⟨kk, z, hk, hz, h2⟩ := h2
  obtain ⟨a, ws, rfl, n, q, rr⟩ := (r1.car e2.car).dic_
  obtain ⟨u, hu, ru⟩ := (rr.val kk).1 z hz
  obtain rfl := dkey_rep r2 hk
  exact ⟨a, u, rfl, by rw [← hu]; exact .k q, k _ _ _ _ h2 (e1.trans e2) R2 ru⟩
 ·cases h2
def rInD (neg : Bool) : R2p := fun x y P => match y with
 | .dic kvs => ∃ k, dkey x = some k ∧ P (.bl (if neg then !(valP kvs k).isSome else (valP kvs k).isSome))
 | _ => False
theorem dget_of {K : PySem.W.Frag} {O : Addr → Prop} {H : Hp} {kvs : List (Key × PV)} {ws : List (Key × V)} {a : Addr} {k : Key} (q : H a = some (.dK ws)) (rr : RepD K O H kvs ws) : ∃ o, DGet H a (kV k) o ∧ o.isSome = (valP kvs k).isSome := by
 refine ⟨valV ws k, .k q, ?_⟩
 cases e : valP kvs k with
 | none => rw [(rr.val k).2 e]; rfl
 | some z =>
  obtain ⟨u, hu, _⟩ := (rr.val k).1 z e
  rw [hu]; rfl
theorem zo_inD (hu : X.A.units + 1 < cLine) : OpR X (compareOp .In) (r2 X.K (rInD false)) := by
 intro pins s σ H x y v u Q I rx ry h
 obtain ⟨O, px, py, P, tr, hx, hy, h, k⟩ := h
 unfold rInD at h
 split at h
 ·obtain ⟨kk, hk, h⟩ := h
  obtain ⟨a, ws, rfl, n, q, rr⟩ := hy.dic_
  obtain rfl := dkey_rep hx hk
  obtain ⟨o, g, eo⟩ := dget_of q rr (k := kk)
  cases ry
  exact d_in hu I g rx fun s' I' => ⟨.bl o.isSome, H, I', rfl, by rw [eo]; exact k.bl h⟩
 ·cases h
def tDPutP (i : Nat) (ti te : TEp) : TSp := fun D η => te η fun x η1 => (∃ o, η1[i]? = some (Sl.ow o)) ∧ ti η1 fun y η2 => match η2[i]? with
 | some (.ow (.d kvs)) => ∃ k, dkey y = some k ∧ kvs.length < sizeLine ∧ D.nx (η2.set i (.ow (.d (putP kvs k x))))
 | _ => False
theorem z_dput {value : Expr} {pos' : Pos} (hu : X.A.units + 1 < cLine) (ho : PE X o (tVar i)) (hi : PE X b (up X.K T ti)) (hv : PE X value (up X.K T te)) (hs : swapsWith value (some (.Subscript o b pos')) pos.line X.env = pure false := by rfl) :
  PS X (.Assign [.Subscript o b pos'] value pos) (upS X.K T (tDPutP i ti te)) := by
 refine PS.weak (ps_dput hu ho hi hv hs) fun D σ H q => ?_
 obtain ⟨F, η, D', R, h, k1, k2, k3, k4⟩ := q
 refine ⟨F, η, _, R, h, fun x η1 v H1 h1 e1 R1 r1 => ?_⟩
 obtain ⟨⟨oo, ho⟩, h1⟩ := h1
 obtain ⟨b0, hw, _, _⟩ := R1.ow i _ ho
 refine ⟨_, hw, F, η1, _, R1, h1, fun y η2 u H2 h2 e2 R2 r2 => ?_⟩
 split at h2
 ·rename_i kvs e
  obtain ⟨kk, hk, hl, h2⟩ := h2
  obtain ⟨a, s, ⟨ws, q1, q2⟩, nf⟩ := R2.ow i _ e
  rw [hw] at s; cases s
  obtain rfl := dkey_rep r2 hk
  have rr := r1.car e2.car
  obtain ⟨W, E⟩ := R2.write (o' := .d (putP kvs kk x)) (u := .dK (putK ws kk v)) e hw q1 nofun nofun nofun fun c => ⟨_, upd_same, (q2.put kk rr).car c⟩
  exact ⟨b0, _, rfl, .k q1 (by rw [q2.len]; exact hl), k1 _ _ _ h2 ((e1.trans e2).trans E) W⟩
 ·cases h2
def rSortK : R1p := fun ps P => match ps with
 | [.dic kvs] => ∃ ks : List Str, kvs.map (·.1) = ks.map Sum.inr ∧ ks.length < 64 ∧ ∀ ys : List Str, ys.Perm ks → sortedS ys = true → P (.lst (ys.map PV.str))
 | _ => False
theorem reps_strs {K : PySem.W.Frag} {O H} : ∀ {ys : List Str}, Reps K O H (ys.map PV.str) (ys.map V.str)
 | [] => .nil
 | y :: ys => .cons rep_str reps_strs
theorem zc_sortK (hc : X.calm = true) : CallR X (.builtin "sorted") (r1 X.K rSortK) := by
 refine CallR.weak (call_sortedD hc) fun xs H Q h => ?_
 obtain ⟨O, ps, P, tr, hx, h, k⟩ := h
 unfold rSortK at h
 split at h
 ·obtain ⟨ks, e, hl, h⟩ := h
  obtain ⟨v, rfl, r⟩ := hx.one
  obtain ⟨a, ws, rfl, n, q, rr⟩ := r.dic_
  exact ⟨a, ws, ks, rfl, .inl q, by rw [rr.keys]; exact e, hl, fun ys p h1 h2 hp => k.newL (h ys h1 h2) tr reps_strs hp⟩
 ·cases h
end
end Z
namespace Z
open PySem PySem.Spec L2
open PyProof.Rows hiding St
inductive Ab where
 | v (x : PV) | b (i : Nat)
abbrev TAbp := EP' → (List Ab → EP' → Prop) → Prop
def RepB (K : PySem.W.Frag) (O : Addr → Prop) (H : Hp) (σ : St) : List Ab → List V → Prop
 | [], vs => vs = []
 | .v x :: r, vs => ∃ v us, vs = v :: us ∧ Rep K O H x v ∧ RepB K O H σ r us
 | .b i :: r, vs => ∃ a us, vs = .ref a :: us ∧ σ[i]? = some (some (V.ref a)) ∧ RepB K O H σ r us
def upAB (K : PySem.W.Frag) (T : List (Addr × Str)) (t : TAbp) : TA := fun σ H Q => ∃ F η P, Rs K T F σ η H ∧ t η P ∧ ∀ abs η' vs H', P abs η' → Ext σ η σ η' H H' → Rs K T F σ η' H' → RepB K (Oof F σ η') H' σ abs vs → Q vs H'
def tNilB : TAbp := fun η P => P [] η
def tConsBv (te : TEp) (t : TAbp) : TAbp := fun η P => te η fun x η1 => t η1 fun abs η2 => P (.v x :: abs) η2
def tConsBb (i : Nat) (t : TAbp) : TAbp := fun η P => (∃ o, η[i]? = some (Sl.ow o)) ∧ t η fun abs η1 => P (.b i :: abs) η1
def fillB (η : EP') : List Ab → Option (List PV)
 | [] => some []
 | .v x :: r => match fillB η r with
  | some xs => some (x :: xs)
  | none => none
 | .b i :: r => match η[i]?, fillB η r with
  | some (.ow o), some xs => some (frz o :: xs)
  | _, _ => none
def Bor (σ : St) (S : List Ab) (a : Addr) : Prop := ∃ i, Ab.b i ∈ S ∧ σ[i]? = some (some (V.ref a))
mutual
def tpV : PV → Bool
 | .tup xs => tpVs xs
 | .pln xs => tpVs xs
 | .non => true
 | .bl _ => true
 | .int _ => true
 | .str _ => true
 | _ => false
def tpVs : List PV → Bool
 | [] => true
 | x :: xs => tpV x && tpVs xs
end
section
variable {K : PySem.W.Frag} {O O' : Addr → Prop} {H H' : Hp}
mutual
theorem tpV_back (hB : ∀ a, O' a → ¬ O a → ∀ vs, ¬ Rd H a (.tup vs)) : ∀ (x : PV) (v : V), tpV x = true → Rep K O H x v → Rep K O' H x v
 | .tup xs, v, e, h => by
  obtain ⟨a, vs, rfl, t, r⟩ := h.tup_
  unfold tpV at e
  unfold Rep
  refine ⟨a, vs, rfl, ?_, tpVs_back hB xs vs e r⟩
  rcases t with ⟨n, q⟩ | t
  ·exact .inl ⟨fun z => hB a z n vs q, q⟩
  ·exact .inr t
 | .pln xs, v, e, h => by
  unfold tpV at e
  unfold Rep at h ⊢
  obtain ⟨a, vs, o, rfl, n, q, d, r⟩ := h
  exact ⟨a, vs, o, rfl, fun z => hB a z n vs (.inr ⟨o, q⟩), q, d, tpVs_back hB xs vs e r⟩
 | .non, _, _, h => by unfold Rep at h ⊢; exact h
 | .bl _, _, _, h => by unfold Rep at h ⊢; exact h
 | .int _, _, _, h => by unfold Rep at h ⊢; exact h
 | .str _, _, _, h => by unfold Rep at h ⊢; exact h
 | .lst _, _, e, _ => by unfold tpV at e; cases e
 | .scr _, _, e, _ => by unfold tpV at e; cases e
 | .ins _ _, _, e, _ => by unfold tpV at e; cases e
 | .dic _, _, e, _ => by unfold tpV at e; cases e
 | .raw _, _, e, _ => by unfold tpV at e; cases e
theorem tpVs_back (hB : ∀ a, O' a → ¬ O a → ∀ vs, ¬ Rd H a (.tup vs)) : ∀ (xs : List PV) (vs : List V), tpVs xs = true → Reps K O H xs vs → Reps K O' H xs vs
 | [], _, _, h => by rw [h.inv0]; exact .nil
 | x :: xs, _, e, h => by
  obtain ⟨v, us, rfl, r, t⟩ := h.inv
  unfold tpVs at e
  rw [Bool.and_eq_true] at e
  exact .cons (tpV_back hB x v e.1 r) (tpVs_back hB xs us e.2 t)
end
theorem fill_rep {T : List (Addr × Str)} {F : Addr → Prop} {σ : St} {η : EP'} {S : List Ab} (R : Rs K T F σ η H) : ∀ {abs : List Ab} {args : List PV} {vs : List V}, (∀ x ∈ abs, x ∈ S) → fillB η abs = some args → RepB K (Oof F σ η) H σ abs vs → Reps K (fun c => Oof F σ η c ∧ ¬ Bor σ S c) H args vs
 | [], _, _, _, e, h => by
  unfold fillB at e; cases e
  have h' : _ = [] := h
  rw [h']; exact .nil
 | .v x :: r, _, _, hS, e, h => by
  unfold fillB at e
  split at e
  ·rename_i xs q
   cases e
   obtain ⟨v, us, rfl, r1, t⟩ := h
   exact .cons (r1.mono fun b z => z.1) (fill_rep R (fun y hy => hS y (List.mem_cons_of_mem _ hy)) q t)
  ·cases e
 | .b i :: r, _, _, hS, e, h => by
  unfold fillB at e
  split at e
  ·rename_i o xs q1 q2
   cases e
   obtain ⟨a, us, rfl, hs, t⟩ := h
   obtain ⟨a', s, w, nf⟩ := R.ow i o q1
   rw [hs] at s; cases s
   refine .cons ((w.mono fun b z => z.1).frz fun z => z.2 ⟨i, hS _ List.mem_cons_self, hs⟩) (fill_rep R (fun y hy => hS y (List.mem_cons_of_mem _ hy)) q2 t)
  ·cases e
theorem fill_own {η : EP'} : ∀ {abs : List Ab} {args : List PV} {i : Nat}, fillB η abs = some args → Ab.b i ∈ abs → ∃ o, η[i]? = some (Sl.ow o)
 | [], _, _, _, h => by simp at h
 | .v x :: r, _, i, e, h => by
  unfold fillB at e
  split at e
  ·rename_i xs q
   rcases List.mem_cons.mp h with h | h
   ·cases h
   ·exact fill_own q h
  ·cases e
 | .b j :: r, _, i, e, h => by
  unfold fillB at e
  split at e
  ·rename_i o xs q1 q2
   rcases List.mem_cons.mp h with h | h
   ·cases h; exact ⟨o, q1⟩
   ·exact fill_own q2 h
  ·cases e
theorem bor_tup {T : List (Addr × Str)} {F : Addr → Prop} {σ : St} {η : EP'} {abs : List Ab} {args : List PV} (R : Rs K T F σ η H) (e : fillB η abs = some args) (g : Gr H H') {a : Addr} (h : Bor σ abs a) (vs : List V) : ¬ Rd H' a (.tup vs) := by
 obtain ⟨i, h1, h2⟩ := h
 obtain ⟨o, h3⟩ := fill_own e h1
 obtain ⟨b, q1, q2, q3⟩ := R.ow i o h3
 rw [h2] at q1; cases q1
 intro z
 cases o with
 | l xs =>
  obtain ⟨vs, q, _⟩ := q2
  have := g.keep _ _ q nofun
  rcases z with z | ⟨u, z⟩ <;> rw [this] at z <;> cases z
 | o C fs =>
  obtain ⟨dx, ws, q, _⟩ := q2
  have := g.keep _ _ q nofun
  rcases z with z | ⟨u, z⟩ <;> rw [this] at z <;> cases z
 | d kvs =>
  obtain ⟨ws, q, _⟩ := q2
  have := g.keep _ _ q nofun
  rcases z with z | ⟨u, z⟩ <;> rw [this] at z <;> cases z
end
section
variable {X : Cx} {T : List (Addr × Str)} {e : Expr} {es : List Expr} {te ta : TEp} {t : TAbp} {pos p : Pos} {k : Nat} {f : Addr} {fd : FuncData} {ps : List Str} {x : Str} {i : Nat}
theorem zb_nil : PA X [] (upAB X.K T tNilB) := by
 refine PA.weak pa_nil fun σ H Q q => ?_
 obtain ⟨F, η, P, R, h, k⟩ := q
 exact k [] η [] H h .refl R rfl
theorem zb_v (ha : PE X e (up X.K T ta)) (hr : PA X es (upAB X.K T t)) (hs : starEach (e :: es) X.env = (false, eval e X.env) :: starEach es X.env := by rfl) : PA X (e :: es) (upAB X.K T (tConsBv ta t)) := by
 refine PA.weak (pa_cons ha hr hs) fun σ H Q q => ?_
 obtain ⟨F, η, P, R, h, k⟩ := q
 refine ⟨F, η, _, R, h, fun x η1 v H1 h1 e1 R1 r1' => ⟨F, η1, _, R1, h1, fun y η2 w H2 h2 e2 R2' rw' => ?_⟩⟩
 exact k (.v x :: y) η2 (v :: w) H2 h2 (e1.trans e2) R2' ⟨v, w, rfl, r1'.car e2.car, rw'⟩
theorem zb_b (h : PE X e (tVar i)) (hr : PA X es (upAB X.K T t)) (hs : starEach (e :: es) X.env = (false, eval e X.env) :: starEach es X.env := by rfl) : PA X (e :: es) (upAB X.K T (tConsBb i t)) := by
 refine PA.weak (pa_cons h hr hs) fun σ H Q q => ?_
 obtain ⟨F, η, P, R, ⟨⟨o, ho⟩, h⟩, k⟩ := q
 obtain ⟨a, hs, _, _⟩ := R.ow i o ho
 refine ⟨.ref a, hs, F, η, _, R, h, fun y η2 w H2 h2 e2 R2' rw' => ?_⟩
 exact k (.b i :: y) η2 (.ref a :: w) H2 h2 e2 R2' ⟨a, w, rfl, hs, rw'⟩
def tCallBP (sp : SpP) (t : TAbp) : TEp := fun η P => t η fun abs η1 => ∃ args, fillB η1 abs = some args ∧ sp args fun z => tpV z = true ∧ P z η1
theorem z_callB' {sp : SpP} (Fn : FnOk X.prog X.w X.K X.mg X.base CX0 k f fd ps (upSp X.K T sp)) (hr : Room k X.A) (hg : Gl X x) (hm : X.mg x = some (.ref f)) (hk : PySem.W.keepIn X.K (.ref f) = true) (hb : Binds X.K fd ps [])
  (ha : PA X (e :: es) (upAB X.K T t)) (hdb : (x == ("__debug__" : Str)) = false := by decide) (he : starEach (e :: es) X.env = (false, eval e X.env) :: starEach es X.env := by rfl) (hpl : (backTo pos (starEach es X.env)).any (·.1) = false := by rfl) :
  PE X (.Call (.Name x p) (e :: es) [] pos) (up X.K T (tCallBP sp t)) := by
 refine PE.weak (pe_call Fn hr hg hm hk hb .nil pass0 ha hdb he hpl) fun σ H Q q => ?_
 obtain ⟨F, η, P, R, h, k⟩ := q
 refine ⟨F, η, _, R, h, fun abs η1 vs H1 h1 e1 R1 r1 => ?_⟩
 obtain ⟨args, hf, h1⟩ := h1
 refine ⟨fun b => Oof F σ η1 b ∧ ¬ Bor σ abs b, args, _, fun b z => R1.trO b z.1, R1.tb, ?_, h1, fun z v H2 pz g tb rz => ?_⟩
 ·rw [List.append_nil]
  exact fill_rep R1 (fun _ h => h) hf r1
 ·refine k z η1 v H2 pz.2 (e1.trans g.ext) (R1.gr g tb) (tpV_back (fun a z n vs => ?_) z v pz.1 rz)
  exact bor_tup R1 hf g (Classical.byContradiction fun q => n ⟨z, q⟩) vs
def tCallFBP (sp : SpF) (t : TAbp) : TFp := fun η P => t η fun abs η1 => ∃ args, fillB η1 abs = some args ∧ sp args fun ys => tpVs ys = true ∧ P ys η1
theorem z_callFB {sp : SpF} (Fn : FnOk X.prog X.w X.K X.mg X.base CX0 k f fd ps (upSpF X.K T sp)) (hr : Room k X.A) (hg : Gl X x) (hm : X.mg x = some (.ref f)) (hk : PySem.W.keepIn X.K (.ref f) = true) (hb : Binds X.K fd ps [])
  (ha : PA X (e :: es) (upAB X.K T t)) (hdb : (x == ("__debug__" : Str)) = false := by decide) (he : starEach (e :: es) X.env = (false, eval e X.env) :: starEach es X.env := by rfl) (hpl : (backTo pos (starEach es X.env)).any (·.1) = false := by rfl) :
  PE X (.Call (.Name x p) (e :: es) [] pos) (upF X.K T (tCallFBP sp t)) := by
 refine PE.weak (pe_call Fn hr hg hm hk hb .nil pass0 ha hdb he hpl) fun σ H Q q => ?_
 obtain ⟨F, η, P, R, h, k⟩ := q
 refine ⟨F, η, _, R, h, fun abs η1 vs H1 h1 e1 R1 r1 => ?_⟩
 obtain ⟨args, hf, h1⟩ := h1
 refine ⟨fun b => Oof F σ η1 b ∧ ¬ Bor σ abs b, args, _, fun b z => R1.trO b z.1, R1.tb, ?_, h1, fun ys a us H2 pz g tb hn hv rz => ?_⟩
 ·rw [List.append_nil]
  exact fill_rep R1 (fun _ h => h) hf r1
 ·have hn0 : Nw H a := e1.nw hn
  have nF : ¬ F a := fun z => R.tr a z hn0
  have nO : ¬ Oof F σ η1 a := fun z => R1.trO a z hn
  have R2 : Rs X.K T F σ η1 H2 := R1.gr g tb
  have c : Car (Oof F σ η1) (Oof (With F a) σ η1) H1 H2 := fun b u n hb t => ⟨g.keep b u hb t, fun z => by
   rcases z with (z | z) | z
   ·exact n (.inl z)
   ·exact hn.no (by rw [← z]; exact hb) t
   ·exact n (.inr z)⟩
  have R3 : Rs X.K T (With F a) σ η1 H2 := by
   refine ⟨R2.len, fun i y e => ?_, fun i o e => ?_, R2.nd, fun b z => ?_, tb⟩
   ·obtain ⟨v, q1, q2⟩ := R1.va i y e
    exact ⟨v, q1, q2.car c⟩
   ·obtain ⟨b, q1, q2, q3⟩ := R1.ow i o e
    refine ⟨b, q1, q2.car c ?_, fun z => z.elim q3 fun z => nO (by rw [← z]; exact .inr ⟨i, o, q1, e⟩)⟩
    cases o with
    | l xs => obtain ⟨vs, q, _⟩ := q2; rw [q]; exact g.keep _ _ q nofun
    | o C fs => obtain ⟨dx, ws, q, _⟩ := q2; rw [q]; exact g.keep _ _ q nofun
    | d kvs => obtain ⟨ws, q, _⟩ := q2; rw [q]; exact g.keep _ _ q nofun
   ·rcases z with z | z
    ·exact R2.tr b z
    ·rw [z]; exact fun q => q.no hv nofun
  refine k ys η1 a us H2 pz.2 (e1.trans g.ext) R3 hn0 nF hv (tpVs_back (fun b z n vs => ?_) ys us pz.1 rz)
  rcases z with (z | z) | z
  ·exact bor_tup R1 hf g (Classical.byContradiction fun q => n (.inl ⟨.inl z, q⟩)) vs
  ·exact absurd (.inr z) n
  ·exact bor_tup R1 hf g (Classical.byContradiction fun q => n (.inl ⟨.inr z, q⟩)) vs
end
section
variable {X : Cx} {T : List (Addr × Str)} {e tg : Expr} {s : Nat}
theorem pi_or {t t' : TI} (h : PI X tg e t) (h' : PI X tg e t') : PI X tg e (fun σ H Q => t σ H Q ∨ t' σ H Q) := ⟨fun pins s σ H Q I q => q.elim (h.run pins s σ H Q I) (h'.run pins s σ H Q I)⟩
def iSeqP (s : Nat) : TIp := fun η P => match η[s]? with
 | some (.va (.lst xs)) => P xs η
 | some (.va (.tup xs)) => P xs η
 | _ => False
theorem zi_seq (h1 : PI X tg e (upI X.K T (iListP (tVarP s)))) (h2 : PI X tg e (upI X.K T (iTupP (tVarP s)))) : PI X tg e (upI X.K T (iSeqP s)) := by
 refine PI.weak (pi_or h1 h2) fun σ H Q q => ?_
 obtain ⟨F, η, P, R, h, k⟩ := q
 unfold iSeqP at h
 split at h
 ·rename_i xs e
  exact .inl ⟨F, η, P, R, by show tVarP s η _; unfold tVarP; rw [e]; exact h, k⟩
 ·rename_i xs e
  exact .inr ⟨F, η, P, R, by show tVarP s η _; unfold tVarP; rw [e]; exact h, k⟩
 ·cases h
end
end Z
namespace Z
open PySem PySem.Spec L2
open PyProof.Rows hiding St
section
variable {X : Cx}
theorem call_dictPK (hcalm : X.calm = true) : CallR X (.type "dict") (fun xs H Q => ∃ (a : Addr) (o : Obj) (ps : List Addr) (kvs : List (Key × V)), xs = [.ref a] ∧ H a = some (.frz o (.tup (ps.map V.ref))) ∧ o.dict = none ∧ Paired (fun p kv => SqT X.K H p [kV kv.1, kv.2]) ps kvs ∧
  ∀ p, H p = none → Q (.ref p) (upd H p (.dK (mergeK [] kvs)))) := by
 intro pins s σ H xs us Q I r q
 obtain ⟨a, o, ps, kvs, ex, hq, hdn, hp, q⟩ := q
 subst ex
 obtain ⟨u, eu, rx⟩ := vals1 r
 subst eu
 cases rx
 obtain ⟨ho, hz, its, rv, ob, e1, hc, n, hd⟩ := I.hok a _ hq
 rw [ho] at e1; cases e1
 have ei := refs_at rv
 subst ei
 rw [List.length_map] at hz
 obtain ⟨prs, rel, hl, hpr⟩ := pairs_of I hp
 have hkey : ∀ (j : Nat) (x : Key × Value), prs[j]? = some x → ∃ (b : Addr) (u : Value), ps[j]? = some b ∧ IsTup s.heap b #[u, x.2] ∧ keyIs x.1 u = true := hpr
 -- the keys, as they stand
 obtain ⟨us, hu1, hu2⟩ : ∃ us : List Value, us.length = prs.length ∧ ∀ (j : Nat) (x : Key × Value) (u : Value), prs[j]? = some x → us[j]? = some u → ∃ b, ps[j]? = some b ∧ IsTup s.heap b #[u, x.2] ∧ keyIs x.1 u = true := by
  have : ∀ (l : List (Key × Value)) (qs : List Addr), (∀ (j : Nat) (x : Key × Value), l[j]? = some x → ∃ (b : Addr) (u : Value), qs[j]? = some b ∧ IsTup s.heap b #[u, x.2] ∧ keyIs x.1 u = true) →
    ∃ us : List Value, us.length = l.length ∧ ∀ (j : Nat) (x : Key × Value) (u : Value), l[j]? = some x → us[j]? = some u → ∃ b, qs[j]? = some b ∧ IsTup s.heap b #[u, x.2] ∧ keyIs x.1 u = true := by
   intro l
   induction l with
   | nil => intro qs _; exact ⟨[], rfl, fun j x u h => by simp at h⟩
   | cons y l ih =>
    intro qs h
    obtain ⟨b, u, hb, ht, hk⟩ := h 0 y rfl
    obtain ⟨us, e, hus⟩ := ih qs.tail fun j x hx => by
     obtain ⟨b, u, hb, ht, hk⟩ := h (j + 1) x (by simpa using hx)
     exact ⟨b, u, by rw [List.getElem?_tail]; exact hb, ht, hk⟩
    refine ⟨u :: us, by rw [List.length_cons, e, List.length_cons], fun j x v hx hv => ?_⟩
    cases j with
    | zero =>
     simp at hx hv
     subst hx; subst hv
     exact ⟨b, hb, ht, hk⟩
    | succ j =>
     obtain ⟨b', h1, h2⟩ := hus j x v (by simpa using hx) (by simpa using hv)
     exact ⟨b', by rw [List.getElem?_tail] at h1; exact h1, h2⟩
  exact this prs ps hkey
 have P := PairArg.tuple (prog := X.prog) (w := X.w) a (ps.map Value.ref).toArray (fun j => ps.getD j 0) ((us.zip prs).map fun z => (z.1, z.2.2))
 have zl : ((us.zip prs).map fun z => (z.1, z.2.2)).length = prs.length := by rw [List.length_map, List.length_zip, hu1]; omega
 refine call_dict_pairs (knd := mixKind X.prog X.w) (kvs := prs) P (I.ok.hd hcalm) ⟨⟨o, n, ho, hc, hdn, hd⟩, ?_, ?_⟩ ⟨zl.symm, ?_⟩ (by rw [zl, hl]; exact hz) fun h' tk hd' hk => ?_
 ·simp [hl]
  omega
 ·intro j k v hj
  rw [List.getElem?_map] at hj
  obtain ⟨z, hz1, hz2⟩ := Option.map_eq_some_iff.mp hj
  obtain ⟨h1, h2⟩ := List.getElem?_zip_eq_some.mp hz1
  cases hz2
  obtain ⟨b, hb, ht, _⟩ := hu2 j _ _ h2 h1
  have hg : ps.getD j 0 = b := by rw [List.getD_eq_getElem?_getD, hb]; rfl
  refine ⟨by simp [hb], ?_⟩
  show PairAt s.heap (ps.getD j 0) _ _
  rw [hg]
  exact .inl ht
 ·intro j key v hj
  have hj' : ((us.zip prs).map fun z => (z.1, z.2.2))[j]? = some (key, v) := hj
  rw [List.getElem?_map] at hj'
  obtain ⟨z, hz1, hz2⟩ := Option.map_eq_some_iff.mp hj'
  obtain ⟨h1, h2⟩ := List.getElem?_zip_eq_some.mp hz1
  cases hz2
  obtain ⟨b, hb, ht, hk⟩ := hu2 j _ _ h2 h1
  exact ⟨z.2.1, h2, hk⟩
 ·have hm : (s.heap.objs.size == sysModules) = false := beq_eq_false_iff_ne.mpr (Nat.ne_of_gt I.big)
  have hlen : (mergeK [] kvs).length ≤ sizeLine := by
   refine Nat.le_trans (length_mergeK kvs []) ?_
   rw [List.length_nil, Nat.zero_add, rel.length, hl]
   exact hz
  exact ⟨.ref s.heap.objs.size, upd H s.heap.objs.size (.dK (mergeK [] kvs)), I.laid (t' := tk) (fun b o e => hk b o (fun z => by cases z) e) (Nat.le_refl _) (show ObjOk X.prog X.w _ _ _ (.dK (mergeK [] kvs)) from ⟨hlen, hm, merged [] prs, KV.merge rel .nil, hd'⟩), rfl, q _ (I.hok.fresh (Nat.le_refl _))⟩
end
section
variable {X : Cx} {T : List (Addr × Str)} {e o a b : Expr} {es : List Expr} {te ta tb to ti : TEp} {t : TAp} {pos : Pos} {i : Nat}
theorem Rep.pln_ {K : PySem.W.Frag} {O : Addr → Prop} {H : Hp} {xs : List PV} {v : V} (h : Rep K O H (.pln xs) v) : ∃ a vs o, v = .ref a ∧ ¬ O a ∧ H a = some (.frz o (.tup vs)) ∧ o.dict = none ∧ Reps K O H xs vs := by unfold Rep at h; exact h
def rDictK : R1d := fun ps P => match ps with
 | [.dic kvs] => P kvs
 | [.lst xs] => ∃ kvs, pairsP xs = some kvs ∧ P (mergeP [] kvs)
 | [.pln xs] => ∃ kvs, pairsP xs = some kvs ∧ P (mergeP [] kvs)
 | _ => False
theorem zc_dictK (hc : X.calm = true) : CallR X (.type "dict") (r1d X.K rDictK) := by
 refine CallR.weak (((call_dictD (X := X)).or (call_dictP hc)).or (call_dictPK hc)) fun xs H Q h => ?_
 obtain ⟨O, ps, P, tr, hx, h, k⟩ := h
 unfold rDictK at h
 split at h
 ·obtain ⟨v, rfl, r⟩ := hx.one
  obtain ⟨a, ws, rfl, n, q, rr⟩ := r.dic_
  exact .inl (.inl ⟨a, ws, rfl, .inl q, fun p hp => k _ _ p h hp rr⟩)
 ·obtain ⟨kvs, e, h⟩ := h
  obtain ⟨v, rfl, r⟩ := hx.one
  obtain ⟨a, vs, rfl, n, q, rr⟩ := r.lst_
  obtain ⟨ps, ws, rfl, h1, h2⟩ := pairsP_rep e rr
  exact .inl (.inr ⟨a, ps, ws, rfl, SqL.of q, h1, fun p hp => k _ _ p h hp (RepD.merge h2 .nil)⟩)
 ·obtain ⟨kvs, e, h⟩ := h
  obtain ⟨v, rfl, r⟩ := hx.one
  obtain ⟨a, vs, o, rfl, n, q, d, rr⟩ := r.pln_
  obtain ⟨ps, ws, rfl, h1, h2⟩ := pairsP_rep e rr
  exact .inr ⟨a, o, ps, ws, rfl, q, d, h1, fun p hp => k _ _ p h hp (RepD.merge h2 .nil)⟩
 ·cases h
theorem call_tuple_ofK : CallR X (.type "tuple") (fun xs H Q => ∃ p ys, xs = [.ref p] ∧ SqL X.K H p ys ∧ ∀ l o, H l = none → o.dict = none → Q (.ref l) (upd H l (.frz o (.tup ys)))) := by
 intro pins s σ H xs us Q I r h
 obtain ⟨p, ys, rfl, hq, q⟩ := h
 obtain ⟨u, rfl, rx⟩ := vals1 r
 cases rx
 obtain ⟨its, r', pl, hz⟩ := I.list hq
 have hlen := r'.length
 refine call_tuple_list pl.isList (fun h' kp => ?_) (by simp only [List.size_toArray] <;> omega)
 have I1 : Inv X pins σ H { s with heap := h' } := I.kept (t' := s.toks) kp
 have I2 : Inv X pins σ (upd H h'.objs.size (.frz { cls := .type "tuple", data := .seq its.toArray } (.tup ys))) { s with heap := h'.push { cls := .type "tuple", data := .seq its.toArray } } :=
  I1.laid (t' := s.toks) (fun b o e => Heap.get?_push_of_some _ e) (Nat.le_refl _) (show ObjOk X.prog X.w _ _ _ (.frz _ (.tup ys)) from ⟨Heap.get?_push_size _ rfl, hz, its, r', IsTup.new _ _⟩)
 exact ⟨.ref h'.objs.size, _, I2, rfl, q _ _ (I1.hok.fresh (Nat.le_refl _)) rfl⟩
def rTupleK : R1p := fun ps P => match ps with
 | [.lst xs] => P (.pln xs)
 | _ => False
theorem zc_tupleK : CallR X (.type "tuple") (r1 X.K rTupleK) := by
 refine CallR.weak (call_tuple_ofK (X := X)) fun xs H Q h => ?_
 obtain ⟨O, ps, P, tr, hx, h, k⟩ := h
 unfold rTupleK at h
 split at h
 ·obtain ⟨v, rfl, r⟩ := hx.one
  obtain ⟨a, vs, rfl, n, q, rr⟩ := r.lst_
  refine ⟨a, vs, rfl, SqL.of q, fun l o hl hd => k _ _ _ h (Same.new hl) ?_⟩
  unfold Rep
  exact ⟨l, vs, o, rfl, tr.fresh hl, upd_same, hd, rr.car (Car.same (Same.new hl))⟩
 ·cases h
end
abbrev Pair := Str × Int
abbrev Seat := Trip × Int
def pairS (p : Pair) : PV := .tup [.str p.1, .int p.2]
def seatP (x : Seat) : PV := .tup [rowP x.1, .int x.2]
def seatPair (x : Seat) : Pair := (x.1.1, x.2)
def AscP (ps : List Pair) : Prop := ps.Pairwise fun a b => a.1.cps.toList < b.1.cps.toList
def takenL (r : Trip) (sd : List Seat) : List Int := (sd.filter fun x => meetB r x.1).map fun x => x.2
def upto (n : Int) : List Int := (List.range n.toNat).map fun (i : Nat) => 1 + (i : Int)
def leftL (n : Int) (r : Trip) (sd : List Seat) : List Int := (upto n).filter fun s => !decide (s ∈ takenL r sd)
def digR : Int → List Int → List Int
 | _, [] => []
 | m, k :: ks => m % k :: digR (m / k) ks
def digitsL (m : Int) (ks : List Int) : List Int := (digR m ks.reverse).reverse
def seatAll (n : Int) : List Trip → List Int → List Seat → List Seat
 | r :: q, d :: ds, sd => seatAll n q ds (sd ++ [(r, (leftL n r sd).getD d.toNat 0)])
 | _, _, sd => sd
def seatsN (n : Int) (rs : List Trip) (m : Int) : List Seat := seatAll n (queueT rs) (digitsL m (sizesI n (queueT rs))) []
def KnP (K : PySem.W.Frag) (x : PV) : Prop := Kn K x ∧ ∀ a b, x = .tup [a, b] → Kn K a ∧ Kn K b
def isPairB : PV → Bool
 | .tup xs => decide ((xs.length : Int) = 2)
 | _ => false
def isSeatB (n : Int) : PV → Bool
 | .int s => decide (1 ≤ s) && decide (s ≤ n)
 | _ => false
def hasName (rs : List Trip) : PV → Bool
 | .str w => (rs.find? fun r => decide (r.1 = w)).isSome
 | _ => false
def pairOkB (n : Int) (rs : List Trip) : PV → Bool
 | .tup [a, b] => hasName rs a && isSeatB n b
 | _ => false
def seatV (n : Int) (r : Trip) (sd : List Seat) : PV → Option Int
 | .tup [.str w, .int s] => if w = r.1 ∧ s ∈ leftL n r sd then some s else none
 | _ => none
def validGo (n : Int) : List Trip → List PV → List Seat → Nat
 | r :: q, x :: xs, sd => match seatV n r sd x with
  | some s => validGo n q xs (sd ++ [(r, s)])
  | none => sd.length
 | _, _, sd => sd.length
def isPlanB (n : Int) (rs : List Trip) : PV → Bool
 | .tup xs => decide ((xs.length : Int) = (rs.length : Int)) && decide ((validGo n rs xs [] : Int) = (xs.length : Int))
 | _ => false
abbrev PrF := PySem.W.Frag → Addr → SpF
def sp_is_pair : PrP := fun K C args P => ∃ x, args = [x] ∧ Kn K x ∧ P (.bl (isPairB x))
def sp_is_seat : PrP := fun K C args P => ∃ x n, args = [x, .int n] ∧ Kn K x ∧ P (.bl (isSeatB n x))
def sp_names_trip_and_seat : PrP := fun K C args P => ∃ n rs x, args = [lineP C n rs, x] ∧ KnP K x ∧ P (.bl (pairOkB n rs x))
def sp_seats_left : PrF := fun K C args P => ∃ n r sd, args = [.int n, rowP r, .lst (sd.map seatP)] ∧ 0 ≤ n ∧ n ≤ 20 ∧ sd.length ≤ 24 ∧ P ((leftL n r sd).map .int)
def sp_valid_pairs : PrP := fun K C args P => ∃ n rs xs, args = [lineP C n rs, .tup xs] ∧ 1 ≤ n ∧ n ≤ 20 ∧ Rw rs ∧ (∀ x ∈ xs, KnP K x) ∧ P (.int (validGo n rs xs []))
def sp_is_plan : PrP := fun K C args P => ∃ n rs x, args = [lineP C n rs, x] ∧ ClsT K C ∧ 1 ≤ n ∧ n ≤ 20 ∧ Rw rs ∧ Kn K x ∧ (∀ xs, x = .tup xs → ∀ y ∈ xs, KnP K y) ∧ P (.bl (isPlanB n rs x))
def ts_is_pair (K : PySem.W.Frag) (CLine : Addr) : TSp := tRetP (tAndVP (tCBP (rIsI K) (tConsP (tVarP 0) (tConsP (tConP (.raw (.ty "tuple"))) (tNilP)))) (tOpP (rEqI false) (tCBP rLen (tConsP (tVarP 0) (tNilP))) (tConP (.int 2))))
def ts_is_seat (K : PySem.W.Frag) (CLine : Addr) : TSp := tRetP (tAndVP (tCallP (sp_is_integer K CLine) [] (tConsP (tVarP 0) (tNilP))) (tChainP rLe rLe (tConP (.int 1)) (tVarP 0) (tVarP 1)))
def ts_names_trip_and_seat (K : PySem.W.Frag) (CLine : Addr) : TSp := tSeqP (tIfSP (tNotP (tBlP (tCallP (sp_is_pair K CLine) [] (tConsP (tVarP 1) (tNilP))))) (tRetP (tConP (.bl false))) (tNextP)) (tSeqP (tAsgP (tVarP 1) (gTupP 2 (gConsP (gNameP 2) (gConsP (gNameP 3) (gNilP))))) (tRetP (tAndVP (tOpP (rIsN true) (tCallP (sp_trip_named K CLine) [] (tConsP (tPropP CLine (sp_Line_trips K CLine) (tVarP 0)) (tConsP (tVarP 2) (tNilP)))) (tConP .non)) (tCallP (sp_is_seat K CLine) [] (tConsP (tVarP 3) (tConsP (tPropP CLine (sp_Line_capacity K CLine) (tVarP 0)) (tNilP)))))))
def ts_seats_left (K : PySem.W.Frag) (CLine : Addr) : TFp := tSeqFP (tSetP 3 (tValP (tLcP (iListP (tVarP 2)) (gTupP 2 (gConsP (gNameP 4) (gConsP (gNameP 5) (gNilP)))) (tBlP (tCallP (sp_meet K CLine) [] (tConsP (tVarP 1) (tConsP (tVarP 4) (tNilP))))) (tVarP 5) [4, 5]))) (tLcP (iRng2P (tConP (.int 1)) (tOpP rAdd (tVarP 0) (tConP (.int 1)))) (gNameP 5) (tBlP (tOpP (rInL true) (tVarP 5) (tVarP 3))) (tVarP 5) [5])
def ts_valid_pairs (K : PySem.W.Frag) (CLine : Addr) : TSp := tSeqP (tSetFP 2 (tLstFP (tNilP))) (tSeqP (tForP (iZipP (tConsP (tPropP CLine (sp_Line_trips K CLine) (tVarP 0)) (tConsP (tVarP 1) (tNilP)))) (gTupP 2 (gConsP (gNameP 3) (gConsP (gNameP 4) (gNilP)))) (tSeqP (tIfSP (tOrP (tNotP (tBlP (tCallP (sp_names_trip_and_seat K CLine) [] (tConsP (tVarP 0) (tConsP (tVarP 4) (tNilP)))))) (tBlP (tOpP (rEqI true) (tOpP rIxP (tVarP 4) (tConP (.int 0))) (tOpP rIxP (tVarP 3) (tConP (.int 0)))))) (tRetP (tCBP rLen (tConsP (tVarP 2) (tNilP)))) (tNextP)) (tSeqP (tIfSP (tBlP (tOpP (rInL true) (tOpP rIxP (tVarP 4) (tConP (.int 1))) (tValP (tCallFOP (sp_seats_left K CLine) (tConsP (tPropP CLine (sp_Line_capacity K CLine) (tVarP 0)) (tConsP (tVarP 3) (tNilP))) 2)))) (tRetP (tCBP rLen (tConsP (tVarP 2) (tNilP)))) (tNextP)) (tAppP 2 (tTupP (tConsP (tVarP 3) (tConsP (tOpP rIxP (tVarP 4) (tConP (.int 1))) (tNilP)))))))) (tRetP (tCBP rLen (tConsP (tVarP 2) (tNilP)))))
def ts_is_plan (K : PySem.W.Frag) (CLine : Addr) : TSp := tSeqP (tDropP (tCallP (sp_check_line K CLine) [] (tConsP (tVarP 0) (tNilP)))) (tSeqP (tIfSP (tOrP (tNotP (tBlP (tCBP (rIsI K) (tConsP (tVarP 1) (tConsP (tConP (.raw (.ty "tuple"))) (tNilP)))))) (tBlP (tOpP (rEqI true) (tCBP rLen (tConsP (tVarP 1) (tNilP))) (tCBP rLen (tConsP (tPropP CLine (sp_Line_trips K CLine) (tVarP 0)) (tNilP)))))) (tRetP (tConP (.bl false))) (tNextP)) (tRetP (tOpP (rEqI false) (tCallP (sp_valid_pairs K CLine) [] (tConsP (tVarP 0) (tConsP (tVarP 1) (tNilP)))) (tCBP rLen (tConsP (tVarP 1) (tNilP))))))
section
variable {K : PySem.W.Frag} {C : Addr} {args : List PV} {P : PV → Prop} {PR : PV → Ow → Prop} {PF : List PV → Prop} {o : Ow}
theorem len_is_pair (h : sp_is_pair K C args P) : args.length = 1 := by
 obtain ⟨_, rfl, _⟩ := h; rfl
theorem len_is_seat (h : sp_is_seat K C args P) : args.length = 2 := by
 obtain ⟨_, _, rfl, _⟩ := h; rfl
theorem len_names_trip_and_seat (h : sp_names_trip_and_seat K C args P) : args.length = 2 := by
 obtain ⟨_, _, _, rfl, _⟩ := h; rfl
theorem len_seats_left (h : sp_seats_left K C args PF) : args.length = 3 := by
 obtain ⟨_, _, _, rfl, _⟩ := h; rfl
theorem len_valid_pairs (h : sp_valid_pairs K C args P) : args.length = 2 := by
 obtain ⟨_, _, _, rfl, _⟩ := h; rfl
theorem len_is_plan (h : sp_is_plan K C args P) : args.length = 2 := by
 obtain ⟨_, _, _, rfl, _⟩ := h; rfl
end
theorem flVs_ints : ∀ ns : List Int, flVs (ns.map .int) = some (ns.map V.int)
 | [] => rfl
 | w :: ws => by rw [List.map_cons, flVs, flVs_ints ws]; rfl
theorem inV_ints (x : Int) : ∀ ns : List Int, inV (.int x) (ns.map V.int) = decide (x ∈ ns)
 | [] => rfl
 | w :: ws => by
  have e : inV (.int x) ((w :: ws).map V.int) = (decide (x = w) || inV (.int x) (ws.map V.int)) := by
   show (List.any _ _) = _
   rw [List.map_cons, List.any_cons]
   congr 1
   by_cases h : x = w
   ·subst h; simp [eqV]
   ·have h' : w ≠ x := fun z => h z.symm
    simp [eqV, h, h']
  rw [e, inV_ints x ws]
  by_cases h : x = w <;> simp [h]
theorem q_notInI {x : Int} {ws : List Int} {Q : PV → Prop} (h : Q (.bl (!decide (x ∈ ws)))) : rInL true (.int x) (.lst (ws.map .int)) Q := ⟨_, _, _, rfl, rfl, flVs_ints ws, by rw [if_pos rfl, inV_ints]; exact h⟩
def remR (m : Int) (ks : List Int) : Int := ks.foldl (· / ·) m
theorem digR_snoc (k : Int) : ∀ (ks : List Int) (m : Int), digR m (ks ++ [k]) = digR m ks ++ [remR m ks % k]
 | [], m => rfl
 | x :: ks, m => by
  show m % x :: digR (m / x) (ks ++ [k]) = m % x :: digR (m / x) ks ++ [remR (m / x) ks % k]
  rw [digR_snoc k ks (m / x)]; rfl
theorem remR_snoc (m k : Int) (ks : List Int) : remR m (ks ++ [k]) = remR m ks / k := by
 unfold remR
 rw [List.foldl_append]; rfl
theorem digR_len : ∀ (ks : List Int) (m : Int), (digR m ks).length = ks.length
 | [], _ => rfl
 | _ :: ks, m => by
  show (digR _ ks).length + 1 = ks.length + 1
  rw [digR_len ks]
theorem digR_bound : ∀ (ks : List Int) (m : Int) (i : Nat) (d k : Int), (digR m ks)[i]? = some d → ks[i]? = some k → 1 ≤ k → 0 ≤ d ∧ d < k
 | [], _, i, _, _, h, _, _ => by simp [digR] at h
 | x :: ks, m, 0, d, k, h, h2, h3 => by
  have e1 : m % x = d := by simpa [digR] using h
  have e2 : x = k := by simpa using h2
  subst e2; subst e1
  exact ⟨Int.emod_nonneg _ (by omega), Int.emod_lt_of_pos _ (by omega)⟩
 | x :: ks, m, i + 1, d, k, h, h2, h3 => digR_bound ks (m / x) i d k (by simpa [digR] using h) (by simpa using h2) h3
theorem digits_len (m : Int) (ks : List Int) : (digitsL m ks).length = ks.length := by
 unfold digitsL
 rw [List.length_reverse, digR_len, List.length_reverse]
theorem digits_bound {m : Int} {ks : List Int} {i : Nat} {d k : Int} (h : (digitsL m ks)[i]? = some d) (h2 : ks[i]? = some k) (h3 : 1 ≤ k) : 0 ≤ d ∧ d < k := by
 have hi : i < ks.length := (List.getElem?_eq_some_iff.mp h2).1
 unfold digitsL at h
 rw [List.getElem?_reverse (by rw [digR_len, List.length_reverse]; exact hi), digR_len, List.length_reverse] at h
 refine digR_bound ks.reverse m (ks.length - 1 - i) d k h ?_ h3
 rw [List.getElem?_reverse (by omega), show ks.length - 1 - (ks.length - 1 - i) = i by omega]
 exact h2
theorem upto_mem {n s : Int} : s ∈ upto n ↔ 1 ≤ s ∧ s ≤ n := by
 unfold upto
 rw [List.mem_map]
 constructor
 ·rintro ⟨i, hi, rfl⟩
  have := List.mem_range.mp hi
  omega
 ·rintro ⟨h1, h2⟩
  exact ⟨(s - 1).toNat, List.mem_range.mpr (by omega), by omega⟩
theorem upto_nodup (n : Int) : (upto n).Nodup := by
 unfold upto List.Nodup
 refine List.pairwise_map.mpr (List.nodup_range.imp fun {a b} h e => ?_)
 omega
theorem upto_len {n : Int} (h : 0 ≤ n) : ((upto n).length : Int) = n := by
 unfold upto
 rw [List.length_map, List.length_range]
 omega
theorem left_mem {n s : Int} {r : Trip} {sd : List Seat} : s ∈ leftL n r sd ↔ (1 ≤ s ∧ s ≤ n) ∧ s ∉ takenL r sd := by
 unfold leftL
 rw [List.mem_filter, upto_mem]
 simp
theorem drop1 (t : Int) (p : Int → Bool) : ∀ {l : List Int}, l.Nodup → (l.filter p).length ≤ (l.filter fun x => p x && !decide (x = t)).length + 1
 | [], _ => by simp
 | x :: l, h => by
  obtain ⟨h1, h2⟩ := List.nodup_cons.mp h
  have ih := drop1 t p h2
  by_cases e : x = t
  ·have same : (l.filter fun y => p y && !decide (y = t)) = l.filter p := List.filter_congr fun y hy => by
    have : y ≠ t := fun z => h1 (by rw [e, ← z]; exact hy)
    simp [this]
   rw [List.filter_cons, List.filter_cons, same, e]
   cases p t <;> simp
  ·rw [List.filter_cons, List.filter_cons]
   cases hp : p x with
   | true => simp only [hp, e, decide_false, Bool.not_false, Bool.and_true, if_true, List.length_cons]; omega
   | false => simpa [hp] using ih
theorem drops {l : List Int} (h : l.Nodup) : ∀ T : List Int, l.length ≤ (l.filter fun x => !decide (x ∈ T)).length + T.length
 | [] => by
  have : (l.filter fun x => !decide (x ∈ ([] : List Int))) = l := List.filter_eq_self.mpr fun x _ => by simp
  rw [this]; omega
 | t :: T => by
  have ih := drops h T
  have := drop1 t (fun x => !decide (x ∈ T)) h
  have e : (l.filter fun x => !decide (x ∈ t :: T)) = l.filter fun x => !decide (x ∈ T) && !decide (x = t) := List.filter_congr fun x _ => by
   by_cases a : x = t <;> by_cases b : x ∈ T <;> simp [a, b]
  rw [e, List.length_cons]
  omega
theorem left_len {n : Int} {r : Trip} {sd : List Seat} (h : 0 ≤ n) : n - ((sd.filter fun x => meetB r x.1).length : Int) ≤ ((leftL n r sd).length : Int) := by
 have h1 := drops (upto_nodup n) (takenL r sd)
 have h2 := upto_len h
 have h3 : (takenL r sd).length = (sd.filter fun x => meetB r x.1).length := by unfold takenL; rw [List.length_map]
 unfold leftL
 omega
theorem seatAll_snoc (n : Int) (r : Trip) (d : Int) : ∀ (q : List Trip) (ds : List Int) (sd : List Seat), q.length = ds.length → seatAll n (q ++ [r]) (ds ++ [d]) sd = seatAll n q ds sd ++ [(r, (leftL n r (seatAll n q ds sd)).getD d.toNat 0)]
 | [], [], sd, _ => rfl
 | x :: q, y :: ds, sd, h => seatAll_snoc n r d q ds _ (by simpa using h)
 | [], _ :: _, _, h => by simp at h
 | _ :: _, [], _, h => by simp at h
theorem seatAll_fst (n : Int) : ∀ (q : List Trip) (ds : List Int) (sd : List Seat), q.length = ds.length → (seatAll n q ds sd).map (·.1) = sd.map (·.1) ++ q
 | [], [], sd, _ => by simp [seatAll]
 | x :: q, y :: ds, sd, h => by
  have := seatAll_fst n q ds (sd ++ [(x, (leftL n x sd).getD y.toNat 0)]) (by simpa using h)
  show (seatAll n q ds _).map _ = _
  rw [this, List.map_append, List.append_assoc]; rfl
 | [], _ :: _, _, h => by simp at h
 | _ :: _, [], _, h => by simp at h
def GoodS (n : Int) (sd : List Seat) : Prop := (sd.Pairwise fun x y => meetB y.1 x.1 = true → x.2 ≠ y.2) ∧ ∀ x ∈ sd, 1 ≤ x.2 ∧ x.2 ≤ n
theorem good_snoc {n s : Int} {r : Trip} {sd : List Seat} (g : GoodS n sd) (h : s ∈ leftL n r sd) : GoodS n (sd ++ [(r, s)]) := by
 obtain ⟨h1, h2⟩ := left_mem.mp h
 refine ⟨List.pairwise_append.mpr ⟨g.1, List.pairwise_singleton _ _, fun x hx y hy => ?_⟩, fun x hx => ?_⟩
 ·rw [List.mem_singleton.mp hy]
  intro hm e
  exact h2 (by unfold takenL; exact List.mem_map.mpr ⟨x, List.mem_filter.mpr ⟨hx, hm⟩, e⟩)
 ·rcases List.mem_append.mp hx with z | z
  ·exact g.2 x z
  ·rw [List.mem_singleton.mp z]; exact h1
theorem sizes_get {n : Int} {q : List Trip} {i : Nat} (h : i < q.length) : (sizesI n q)[i]? = some (szAt n q i) := by
 unfold sizesI
 rw [List.getElem?_map, List.getElem?_range h]; rfl
theorem sizes_len (n : Int) (q : List Trip) : (sizesI n q).length = q.length := by
 unfold sizesI
 rw [List.length_map, List.length_range]
theorem seat_ix {n : Int} {q : List Trip} {ds : List Int} {i : Nat} {r : Trip} {d : Int} (n0 : 0 ≤ n) (hl : q.length = ds.length) (hr : q[i]? = some r) (hd : ds[i]? = some d) (d0 : 0 ≤ d) (d1 : d < szAt n q i) :
  d.toNat < (leftL n r (seatAll n (q.take i) (ds.take i) [])).length := by
 have h1 := left_len (r := r) (sd := seatAll n (q.take i) (ds.take i) []) n0
 have hf := seatAll_fst n (q.take i) (ds.take i) [] (by rw [List.length_take, List.length_take]; omega)
 have h2 : (((seatAll n (q.take i) (ds.take i) []).filter fun x => meetB r x.1).length : Int) = (((q.take i).filter (meetB r)).length : Int) := by
  have e : (((seatAll n (q.take i) (ds.take i) []).filter fun x => meetB r x.1).map (·.1)) = ((seatAll n (q.take i) (ds.take i) []).map (·.1)).filter (meetB r) := by
   rw [List.filter_map]; rfl
  rw [hf] at e
  have e2 := congrArg List.length e
  rw [List.length_map] at e2
  rw [e2]; rfl
 rw [szAt_eq hr] at d1
 omega
theorem seat_good {n : Int} {q : List Trip} {ds : List Int} (n0 : 0 ≤ n) (hl : q.length = ds.length) (hb : ∀ i d, ds[i]? = some d → 0 ≤ d ∧ d < szAt n q i) : ∀ i, i ≤ q.length → GoodS n (seatAll n (q.take i) (ds.take i) [])
 | 0, _ => by
  rw [List.take_zero, List.take_zero]
  exact ⟨.nil, fun _ z => by cases z⟩
 | i + 1, h => by
  have g := seat_good n0 hl hb i (by omega)
  have hr : q[i]? = some q[i] := List.getElem?_eq_getElem (by omega)
  have hd : ds[i]? = some ds[i] := List.getElem?_eq_getElem (by omega)
  obtain ⟨d0, d1⟩ := hb i _ hd
  have ix := seat_ix n0 hl hr hd d0 d1
  rw [List.take_succ, hr, List.take_succ, hd]
  rw [show (some q[i]).toList = [q[i]] from rfl, show (some ds[i]).toList = [ds[i]] from rfl, seatAll_snoc n _ _ _ _ _ (by rw [List.length_take, List.length_take]; omega)]
  refine good_snoc g ?_
  rw [List.getD_eq_getElem?_getD, List.getElem?_eq_getElem ix]
  exact List.getElem_mem ix
theorem getD_memS {α : Type} {l : List α} {i : Nat} {d : α} (h : i < l.length) : l.getD i d ∈ l := by
 rw [List.getD_eq_getElem?_getD, List.getElem?_eq_getElem h]
 exact List.getElem_mem h
theorem over_pos {n : Int} {rs : List Trip} (hw : Rw rs) (ho : overR n rs = none) : ∀ i, i < (queueT rs).length → 1 ≤ szAt n (queueT rs) i := fun i hil => by
 have hr : (queueT rs)[i]? = some (queueT rs)[i] := List.getElem?_eq_getElem hil
 generalize (queueT rs)[i] = r at hr
 rw [szAt_eq hr]
 have hm := List.mem_of_getElem? hr
 obtain ⟨_, _, rlt⟩ := hw.each r ((queue_perm rs).mem_iff.mp hm)
 have hno : ¬ n < loadN rs r.2.1 := by
  have := List.find?_eq_none.mp ho r hm
  simpa using this
 rw [load_queue] at hno
 obtain ⟨_, er⟩ := List.getElem?_eq_some_iff.mp hr
 have sp : queueT rs = (queueT rs).take i ++ r :: (queueT rs).drop (i + 1) := by rw [← er, List.getElem_cons_drop, List.take_append_drop]
 have up := queue_up rs
 rw [sp] at up
 have h3 : ∀ u ∈ (queueT rs).take i, meetB r u = true → passes r.2.1 u = true := fun u hu hmu => by
  have := (List.pairwise_append.mp up).2.2 u hu r List.mem_cons_self
  unfold meetB at hmu
  unfold passes
  rw [Bool.and_eq_true, decide_eq_true_iff, decide_eq_true_iff] at *
  exact ⟨this, hmu.1⟩
 have h4 : ((queueT rs).take i).countP (meetB r) ≤ ((queueT rs).take i).countP (passes r.2.1) := List.countP_mono_left h3
 rw [List.countP_eq_length_filter, List.countP_eq_length_filter] at h4
 have h5 : passes r.2.1 r = true := by
  unfold passes
  rw [decide_eq_true (Int.le_refl _), decide_eq_true rlt]; rfl
 have h6 : ((queueT rs).filter (passes r.2.1)).length = (((queueT rs).take i).filter (passes r.2.1)).length + (((queueT rs).drop (i + 1)).filter (passes r.2.1)).length + 1 := by
  conv => lhs; rw [sp, List.filter_append, List.filter_cons_of_pos h5, List.length_append, List.length_cons]
  omega
 omega
theorem digits_ok {n m : Int} {rs : List Trip} (hw : Rw rs) (ho : overR n rs = none) : ∀ i d, (digitsL m (sizesI n (queueT rs)))[i]? = some d → 0 ≤ d ∧ d < szAt n (queueT rs) i := fun i d h => by
 have hi : i < (queueT rs).length := by
  have := (List.getElem?_eq_some_iff.mp h).1
  rw [digits_len, sizes_len] at this
  exact this
 exact digits_bound h (sizes_get hi) (over_pos hw ho i hi)
section
variable {K : PySem.W.Frag} {C : Addr} {args : List PV} {P : PV → Prop} {PR : PV → Ow → Prop} {PF : List PV → Prop} {o : Ow}
theorem w_seqF {t : TSp} {u : TFp} {η : EP'} {Q : List PV → EP' → Prop} (h : t { nx := fun η' => u η' Q, rt := fun _ _ => False } η) : tSeqFP t u η Q := h
theorem w_lstS {te : TEp} {η : EP'} {Q : List PV → EP' → Prop} (h : te η fun x η1 => match x with | .lst xs => Q xs η1 | .scr ns => Q (ns.map .int) η1 | _ => False) : iListP te η Q := h
theorem w_gpS {a b : PV} {i j : Nat} {η : EP'} {R : EP' → Prop} (h : R ((η.set i (.va a)).set j (.va b))) : gTupP 2 (gConsP (gNameP i) (gConsP (gNameP j) (gNilP))) (.tup [a, b]) η R := ⟨rfl, rfl, h⟩
theorem w_rngS {te tb : TEp} {η : EP'} {Q : List PV → EP' → Prop} (h : te η fun x η1 => tb η1 fun y η2 => match x, y with
 | .int i, .int j => -(2 ^ 62) ≤ i ∧ i < 2 ^ 62 ∧ -(2 ^ 62) ≤ j ∧ j < 2 ^ 62 ∧ Q (rangeP i (j - i).toNat) η2
 | _, _ => False) : iRng2P te tb η Q := h
theorem w_revL {te : TEp} {η : EP'} {Q : PV → EP' → Prop} (h : te η fun x η1 => match x with
 | .lst xs => Q (.lst xs.reverse) η1
 | _ => False) : tRevLP te η Q := h
theorem w_zipT {t : TAp} {η : EP'} {Q : List PV → EP' → Prop} (h : t η fun zs η1 => match zs with
 | [.tup xs, .tup ys] => Q (zipP xs ys) η1
 | [.lst xs, .lst ys] => Q (zipP xs ys) η1
 | _ => False) : iZipP t η Q := h
theorem w_callFO {sp : SpF} {t : TAp} {i : Nat} {η : EP'} {Q : List PV → EP' → Prop} (h : t η fun args η1 => match η1[i]? with
 | some (.ow (.l xs)) => sp (args ++ [.lst xs]) fun ys => (∀ y ∈ ys, (flV y).isSome = true) ∧ Q ys η1
 | _ => False) : tCallFOP sp t i η Q := h
theorem flat_ints (ns : List Int) : ∀ y ∈ ns.map PV.int, (flV y).isSome = true := fun y hy => by
 obtain ⟨_, _, rfl⟩ := List.mem_map.mp hy
 rfl
theorem rd_is_pair (h : sp_is_pair K C args P) : ts_is_pair K C { nx := fun _ => P .non, rt := fun x _ => P x } (startP 1 args) := by
 obtain ⟨x, rfl, hk, hp⟩ := h
 have e : startP 1 [x] = [.va x] := rfl
 rw [e]
 refine w_ret (w_andV (w_cb (w_cons (w_var (x := x) rfl (w_cons (w_con (w_nil (isi_tuple hk ?_))))))))
 cases x with
 | tup xs => exact w_op (w_cb (w_cons (w_var (x := .tup xs) rfl (w_nil (q_lenT (w_con (q_eqN hp)))))))
 | _ => exact hp
theorem rd_is_seat (h : sp_is_seat K C args P) : ts_is_seat K C { nx := fun _ => P .non, rt := fun x _ => P x } (startP 2 args) := by
 obtain ⟨x, n, rfl, hk, hp⟩ := h
 have e : startP 2 [x, .int n] = [.va x, .va (.int n)] := rfl
 rw [e]
 refine w_ret (w_andV (w_call (w_cons (w_var (x := x) rfl (w_nil ⟨x, rfl, hk, ?_⟩)))))
 cases x with
 | int s =>
  refine w_chain (w_con (w_var (x := .int s) rfl (q_le ⟨_, rfl, ?_⟩)))
  replace hp : P (.bl (decide (1 ≤ s) && decide (s ≤ n))) := hp
  by_cases c : 1 ≤ s
  ·rw [decide_eq_true c] at hp ⊢
   rw [Bool.true_and] at hp
   exact q_iteT (w_var (x := .int n) rfl (q_le hp))
  ·rw [decide_eq_false c] at hp ⊢
   exact q_iteF hp
 | _ => exact hp
theorem named_has (rs : List Trip) {x : PV} (h : Kn K x) : isNon (namedP rs x) = some (!hasName rs x) := by
 cases x with
 | str w =>
  unfold namedP hasName
  dsimp only
  cases rs.find? fun r => decide (r.1 = w) <;> rfl
 | _ => rfl
theorem rd_names_trip_and_seat (h : sp_names_trip_and_seat K C args P) : ts_names_trip_and_seat K C { nx := fun _ => P .non, rt := fun x _ => P x } (startP 4 args) := by
 obtain ⟨n, rs, x, rfl, ⟨hk, hkp⟩, hp⟩ := h
 have e : startP 4 [lineP C n rs, x] = [.va (lineP C n rs), .va x, .no, .no] := rfl
 rw [e]
 refine w_seq (w_if (w_not (w_bl (w_call (w_cons (w_var (x := x) rfl (w_nil ⟨x, rfl, hk, ?_⟩)))))))
 cases hb : isPairB x with
 | false =>
  refine q_iteT (w_ret (w_con ?_))
  have : pairOkB n rs x = false := by
   unfold pairOkB
   split
   ·exact absurd hb (by simp [isPairB])
   ·rfl
  rw [this] at hp
  exact hp
 | true =>
  refine q_iteF (w_next ?_)
  obtain ⟨a, b, rfl⟩ : ∃ a b, x = .tup [a, b] := by
   cases x with
   | tup xs =>
    have hl : (xs.length : Int) = 2 := of_decide_eq_true hb
    match xs, hl with
    | [a, b], _ => exact ⟨a, b, rfl⟩
    | [], hl => simp at hl
    | [_], hl => simp at hl
    | _ :: _ :: _ :: _, hl => simp at hl; omega
   | _ => cases hb
  obtain ⟨ka, kb⟩ := hkp a b rfl
  dsimp only
  refine w_seq (w_asg (w_var (x := .tup [a, b]) rfl (w_gpS ?_)))
  simp only [List.set_cons_zero, List.set_cons_succ]
  refine w_ret (w_andV (w_op (w_call (w_cons (w_prop' (w_var (x := lineP C n rs) rfl ⟨⟨_, rfl⟩, n, rs, rfl, w_cons (w_var (x := a) rfl (w_nil ⟨rs, a, rfl, ka, w_con ⟨_, named_has rs ka, ?_⟩⟩))⟩))))))
  have hp' : P (.bl (hasName rs a && isSeatB n b)) := hp
  cases hn : hasName rs a with
  | false => rw [hn] at hp'; exact hp'
  | true =>
   rw [hn] at hp'
   exact w_call (w_cons (w_var (x := b) rfl (w_cons (w_prop' (w_var (x := lineP C n rs) rfl ⟨⟨_, rfl⟩, n, rs, rfl, w_nil ⟨b, n, rfl, kb, hp'⟩⟩)))))
theorem rd_seats_left (h : sp_seats_left K C args PF) : ts_seats_left K C (startP 6 args) (fun xs _ => PF xs) := by
 obtain ⟨n, r, sd, rfl, n0, n20, hl, hp⟩ := h
 have e : startP 6 [.int n, rowP r, .lst (sd.map seatP)] = [.va (.int n), .va (rowP r), .va (.lst (sd.map seatP)), .no, .no, .no] := rfl
 rw [e]
 have sz : 1000 < sizeLine := by decide
 refine w_seqF (w_set (w_val (w_lc (w_lstS (w_var (x := .lst (sd.map seatP)) rfl ?_)))))
 show ∃ Inv : Nat → List PV → EP' → Prop, _
 refine ⟨fun i acc η => acc = ((sd.take i).filter fun x => meetB r x.1).map (fun x => PV.int x.2) ∧ η = [.va (.int n), .va (rowP r), .va (.lst (sd.map seatP)), .no, .no, .no], ⟨rfl, rfl⟩, ?_, ?_⟩
 ·rintro i x acc η hi ⟨rfl, rfl⟩
  rw [List.getElem?_map] at hi
  obtain ⟨u, hu, rfl⟩ := Option.map_eq_some_iff.mp hi
  refine w_gpS (w_bl (w_call (w_cons (w_var (x := rowP r) rfl (w_cons (w_var (x := rowP u.1) rfl (w_nil ⟨r, u.1, rfl, ?_⟩)))))))
  cases hm : meetB r u.1 with
  | true =>
   refine q_iteT (w_var (x := .int u.2) rfl ⟨by rw [List.length_map]; exact filt_len hl, ?_, rfl⟩)
   rw [take_filterT hu hm, List.map_append]
   rfl
  | false => exact q_iteF ⟨by rw [take_filterF hu hm], rfl⟩
 ·rintro acc η ⟨rfl, rfl⟩
  rw [List.length_map, List.take_length]
  have et : ((sd.filter fun x => meetB r x.1).map (fun x => PV.int x.2)) = (takenL r sd).map .int := by unfold takenL; rw [List.map_map]; rfl
  rw [et]
  simp only [List.set_cons_zero, List.set_cons_succ]
  refine w_lc (w_rngS (w_con (w_op (w_var (x := .int n) rfl (w_con (q_add ?_))))))
  refine ⟨by decide, by decide, by omega, by omega, ?_⟩
  rw [show (n + 1 - 1).toNat = n.toNat by omega]
  refine ⟨fun i acc η => acc = (((upto n).take i).filter fun s => !decide (s ∈ takenL r sd)).map PV.int ∧ η = [.va (.int n), .va (rowP r), .va (.lst (sd.map seatP)), .va (.lst ((takenL r sd).map .int)), .no, .no], ⟨rfl, rfl⟩, ?_, ?_⟩
  ·rintro i x acc η hi ⟨rfl, rfl⟩
   obtain ⟨hin, rfl⟩ := rangeP_get hi
   have hu : (upto n)[i]? = some (1 + (i : Int)) := by
    unfold upto
    rw [List.getElem?_map, List.getElem?_range hin]; rfl
   refine w_gname (w_bl (w_op (w_var (x := .int (1 + (i : Int))) rfl (w_var (x := .lst ((takenL r sd).map .int)) rfl (q_notInI ?_)))))
   cases hb : (!decide ((1 + (i : Int)) ∈ takenL r sd)) with
   | true =>
    refine q_iteT (w_var (x := .int (1 + (i : Int))) rfl ⟨?_, ?_, rfl⟩)
    ·rw [List.length_map]
     have := List.length_filter_le (fun s => !decide (s ∈ takenL r sd)) ((upto n).take i)
     rw [List.length_take] at this
     omega
    ·rw [take_filterT hu hb, List.map_append]
     rfl
   | false => exact q_iteF ⟨by rw [take_filterF hu hb], rfl⟩
  ·rintro acc η ⟨rfl, rfl⟩
   rw [rangeP_len]
   have : (upto n).length = n.toNat := by unfold upto; rw [List.length_map, List.length_range]
   rw [← this, List.take_length]
   exact hp
theorem find_name {rs : List Trip} {r : Trip} (h : r ∈ rs) : hasName rs (.str r.1) = true := by
 unfold hasName
 rw [List.find?_isSome]
 exact ⟨r, h, decide_eq_true rfl⟩
theorem rd_valid_pairs (h : sp_valid_pairs K C args P) : ts_valid_pairs K C { nx := fun _ => P .non, rt := fun x _ => P x } (startP 5 args) := by
 obtain ⟨n, rs, xs, rfl, n1, n2, hw, hk, hp⟩ := h
 have e : startP 5 [lineP C n rs, .tup xs] = [.va (lineP C n rs), .va (.tup xs), .no, .no, .no] := rfl
 rw [e]
 have sz : 1000 < sizeLine := by decide
 have hl := hw.len
 refine w_seq (w_setF (by decide) (w_lstF (w_nil ⟨by show 0 ≤ sizeLine; omega, by show 2 < 5; decide, ?_⟩)))
 simp only [List.set_cons_zero, List.set_cons_succ]
 refine w_seq (w_for (w_zipT (w_cons (w_prop' (w_var (x := lineP C n rs) rfl ⟨⟨_, rfl⟩, n, rs, rfl, w_cons (w_var (x := .tup xs) rfl (w_nil ?_))⟩)))))
 show ∃ Inv : Nat → EP' → Prop, _
 refine ⟨fun i η => ∃ (sd : List Seat) (s3 s4 : Sl), sd.length = i ∧ validGo n rs xs [] = validGo n (rs.drop i) (xs.drop i) sd ∧ η = [.va (lineP C n rs), .va (.tup xs), .ow (.l (sd.map seatP)), s3, s4], ⟨[], _, _, rfl, rfl, rfl⟩, ?_, ?_⟩
 ·rintro i x η hi ⟨sd, s3, s4, sl, hv, rfl⟩
  obtain ⟨y, z, hy, hz, rfl⟩ := zipP_get hi
  rw [List.getElem?_map] at hy
  obtain ⟨r, hr, rfl⟩ := Option.map_eq_some_iff.mp hy
  have hil : i < rs.length := (List.getElem?_eq_some_iff.mp hr).1
  have hrm := List.mem_of_getElem? hr
  have hkz := hk z (List.mem_of_getElem? hz)
  have ed : rs.drop i = r :: rs.drop (i + 1) := by obtain ⟨h1, h2⟩ := List.getElem?_eq_some_iff.mp hr; rw [← h2, List.getElem_cons_drop]
  have ex : xs.drop i = z :: xs.drop (i + 1) := by obtain ⟨h1, h2⟩ := List.getElem?_eq_some_iff.mp hz; rw [← h2, List.getElem_cons_drop]
  have hv2 : validGo n rs xs [] = match seatV n r sd z with
   | some s => validGo n (rs.drop (i + 1)) (xs.drop (i + 1)) (sd ++ [(r, s)])
   | none => sd.length := by rw [hv, ed, ex]; rfl
  have out : seatV n r sd z = none → P (.int ((sd.map seatP).length : Int)) := fun h => by
   rw [h] at hv2
   rw [hv2] at hp
   rw [List.length_map]
   exact hp
  refine w_gpS ?_
  simp only [List.set_cons_zero, List.set_cons_succ]
  refine w_seq (w_if (w_or (w_not (w_bl (w_call (w_cons (w_var (x := lineP C n rs) rfl (w_cons (w_var (x := z) rfl (w_nil ⟨n, rs, z, rfl, hkz, ?_⟩))))))))))
  cases hpo : pairOkB n rs z with
  | false =>
   refine q_iteT (q_iteT (w_ret (w_cb (w_cons (w_varO (o := .l (sd.map seatP)) rfl (w_nil (q_len (out ?_))))))))
   unfold seatV
   split
   ·rename_i w s
    split
    ·rename_i hc
     obtain ⟨rfl, hs⟩ := hc
     obtain ⟨⟨s1, s2⟩, _⟩ := left_mem.mp hs
     have : pairOkB n rs (.tup [.str r.1, .int s]) = true := by
      show (hasName rs (.str r.1) && (decide (1 ≤ s) && decide (s ≤ n))) = true
      rw [find_name hrm, decide_eq_true s1, decide_eq_true s2]; rfl
     rw [this] at hpo; cases hpo
    ·rfl
   ·rfl
  | true =>
   obtain ⟨w, s, rfl⟩ : ∃ w s, z = .tup [.str w, .int s] := by
    unfold pairOkB at hpo
    split at hpo
    ·rename_i a b
     obtain ⟨h1, h2⟩ := Bool.and_eq_true_iff.mp hpo
     cases a <;> (try cases h1)
     cases b <;> (try cases h2)
     exact ⟨_, _, rfl⟩
    ·cases hpo
   refine q_iteF (w_bl (w_op (w_op (w_var (x := .tup [.str w, .int s]) rfl (w_con (q_ixT (x := .str w) rfl (w_op (w_var (x := rowP r) rfl (w_con (q_ixT (x := .str r.1) rfl (q_neI ?_)))))))))))
   refine q_cmp (fun ew => w_next ?_) fun ew => w_ret (w_cb (w_cons (w_varO (o := .l (sd.map seatP)) rfl (w_nil (q_len (out ?_))))))
   ·subst ew
    dsimp only
    refine w_seq (w_if (w_bl (w_op (w_op (w_var (x := .tup [.str r.1, .int s]) rfl (w_con (q_ixT (x := .int s) rfl (w_val (w_callFO (w_cons (w_prop' (w_var (x := lineP C n rs) rfl ⟨⟨_, rfl⟩, n, rs, rfl, w_cons (w_var (x := rowP r) rfl (w_nil ?_))⟩))))))))))))
    refine ⟨n, r, sd, rfl, by omega, n2, by omega, flat_ints _, q_notInI ?_⟩
    refine q_cmp (fun hs => w_next ?_) fun hs => w_ret (w_cb (w_cons (w_varO (o := .l (sd.map seatP)) rfl (w_nil (q_len (out ?_))))))
    ·dsimp only
     refine w_app (xs := sd.map seatP) rfl (w_tup (w_cons (w_var (x := rowP r) rfl (w_cons (w_op (w_var (x := .tup [.str r.1, .int s]) rfl (w_con (q_ixT (x := .int s) rfl ?_))))))))
     refine w_nil ⟨sz2, q_appM rfl (by rw [List.length_map]; omega) ?_⟩
     simp only [List.set_cons_zero, List.set_cons_succ]
     have hsv : seatV n r sd (.tup [.str r.1, .int s]) = some s := by
      show (if r.1 = r.1 ∧ s ∈ leftL n r sd then some s else none) = some s
      rw [if_pos ⟨rfl, hs⟩]
     rw [hsv] at hv2
     exact ⟨sd ++ [(r, s)], _, _, by rw [List.length_append, sl]; rfl, hv2, by rw [List.map_append]; rfl⟩
    ·show (if r.1 = r.1 ∧ s ∈ leftL n r sd then some s else none) = none
     rw [if_neg fun z => hs z.2]
   ·show (if w = r.1 ∧ s ∈ leftL n r sd then some s else none) = none
    rw [if_neg fun z => ew z.1]
 ·rintro η ⟨sd, s3, s4, sl, hv, rfl⟩
  have hend : validGo n (rs.drop (zipP (rs.map rowP) xs).length) (xs.drop (zipP (rs.map rowP) xs).length) sd = sd.length := by
   unfold zipP
   rw [List.length_zipWith, List.length_map]
   by_cases c : rs.length ≤ xs.length
   ·rw [Nat.min_eq_left c, List.drop_length]
    unfold validGo; rfl
   ·rw [Nat.min_eq_right (by omega), List.drop_length]
    cases rs.drop xs.length <;> (unfold validGo; rfl)
  rw [hv, hend] at hp
  dsimp only
  refine w_ret (w_cb (w_cons (w_varO (o := .l (sd.map seatP)) rfl (w_nil (q_len ?_)))))
  rw [List.length_map]
  exact hp
theorem rd_is_plan (h : sp_is_plan K C args P) : ts_is_plan K C { nx := fun _ => P .non, rt := fun x _ => P x } (startP 2 args) := by
 obtain ⟨n, rs, x, rfl, hC, n1, n2, hw, hkx, hk, hp⟩ := h
 have e : startP 2 [lineP C n rs, x] = [.va (lineP C n rs), .va x] := rfl
 rw [e]
 refine w_seq (w_drop (w_call (w_cons (w_var (x := lineP C n rs) rfl (w_nil ⟨n, rs, rfl, hC, ?_⟩)))))
 dsimp only
 refine w_seq (w_if (w_or (w_not (w_bl (w_cb (w_cons (w_var (x := x) rfl (w_cons (w_con (w_nil (isi_tuple hkx ?_)))))))))))
 cases x with
 | tup xs =>
  refine q_iteF (w_bl (w_op (w_cb (w_cons (w_var (x := .tup xs) rfl (w_nil (q_lenT (w_cb (w_cons (w_prop' (w_var (x := lineP C n rs) rfl ⟨⟨_, rfl⟩, n, rs, rfl, w_nil (q_lenT ?_)⟩)))))))))))
  rw [List.length_map]
  have hp' : P (.bl (decide ((xs.length : Int) = (rs.length : Int)) && decide ((validGo n rs xs [] : Int) = (xs.length : Int)))) := hp
  refine q_neN (q_cmp (fun c => w_next ?_) fun c => w_ret (w_con ?_))
  ·rw [decide_eq_true c, Bool.true_and] at hp'
   dsimp only
   exact w_ret (w_op (w_call (w_cons (w_var (x := lineP C n rs) rfl (w_cons (w_var (x := .tup xs) rfl (w_nil ⟨n, rs, xs, rfl, n1, n2, hw, hk xs rfl, w_cb (w_cons (w_var (x := .tup xs) rfl (w_nil (q_lenT (q_eqN hp')))))⟩)))))))
  ·rw [decide_eq_false c, Bool.false_and] at hp'
   exact hp'
 | _ => exact q_iteT (q_iteT (w_ret (w_con hp)))
end
theorem meet_commS (a b : Trip) : meetB a b = meetB b a := by
 unfold meetB
 rw [Bool.and_comm]
theorem name_inj {rs : List Trip} (hw : Rw rs) {a b : Trip} (ha : a ∈ rs) (hb : b ∈ rs) (e : a.1 = b.1) : a = b := by
 have h1 := named_in hw ha
 rw [e, named_in hw hb] at h1
 unfold rowP at h1
 injection h1 with h1
 injection h1 with h2 h3
 injection h3 with h3 h4
 injection h4 with h4 h5
 injection h2 with h2
 injection h3 with h3
 injection h4 with h4
 exact Prod.ext h2.symm (Prod.ext h3.symm h4.symm)
theorem perm_lift {α β : Type} (f : α → β) {l k : List β} (h : l.Perm k) : ∀ m : List α, m.map f = k → ∃ m' : List α, m'.Perm m ∧ m'.map f = l := by
 induction h with
 | nil => exact fun m e => ⟨m, .refl _, e⟩
 | cons x h ih =>
  intro m e
  cases m with
  | nil => cases e
  | cons a m =>
   rw [List.map_cons] at e
   injection e with e1 e2
   obtain ⟨m', p, q⟩ := ih m e2
   exact ⟨a :: m', p.cons a, by rw [List.map_cons, e1, q]⟩
 | swap x y l =>
  intro m e
  match m, e with
  | a :: b :: m, e =>
   rw [List.map_cons, List.map_cons] at e
   injection e with e1 e2
   injection e2 with e2 e3
   exact ⟨b :: a :: m, .swap a b m, by rw [List.map_cons, List.map_cons, e1, e2, e3]⟩
  | [], e => cases e
  | [_], e => rw [List.map_cons] at e; injection e with _ e; cases e
 | trans h1 h2 ih1 ih2 =>
  intro m e
  obtain ⟨m1, p1, q1⟩ := ih2 m e
  obtain ⟨m2, p2, q2⟩ := ih1 m1 q1
  exact ⟨m2, p2.trans p1, q2⟩
def PlanOk (n : Int) (rs : List Trip) (ps : List Pair) : Prop := ∃ sd : List Seat, sd.map (·.1) = rs ∧ sd.map seatPair = ps ∧ GoodS n sd
theorem good_perm {n : Int} {a b : List Seat} (p : a.Perm b) (g : GoodS n b) : GoodS n a :=
 ⟨(p.pairwise_iff fun {x y} h hm e => h (by rw [meet_commS]; exact hm) e.symm).mpr g.1, fun x hx => g.2 x (p.mem_iff.mp hx)⟩
theorem planok_of {n : Int} {rs : List Trip} {ps : List Pair} {sd0 : List Seat} (hw : Rw rs) (hf : (sd0.map (·.1)).Perm rs) (g : GoodS n sd0) (pp : ps.Perm (sd0.map seatPair)) (pa : AscP ps) : PlanOk n rs ps := by
 obtain ⟨sd, p, q⟩ := perm_lift seatPair pp sd0 rfl
 refine ⟨sd, perm_asc ((p.map _).trans hf) ?_ hw.asc, q, good_perm p g⟩
 rw [← q] at pa
 exact List.pairwise_map.mpr ((List.pairwise_map (f := seatPair) (R := fun a b : Pair => a.1.cps.toList < b.1.cps.toList)).mp pa)
theorem seatsN_ok {n m : Int} {rs : List Trip} (n1 : 1 ≤ n) (hw : Rw rs) (ho : overR n rs = none) : ((seatsN n rs m).map (·.1)).Perm rs ∧ GoodS n (seatsN n rs m) := by
 have dl : (queueT rs).length = (digitsL m (sizesI n (queueT rs))).length := by rw [digits_len, sizes_len]
 unfold seatsN
 constructor
 ·rw [seatAll_fst n _ _ [] dl]
  exact queue_perm rs
 ·have := seat_good (n := n) (by omega) dl (digits_ok hw ho) (queueT rs).length (Nat.le_refl _)
  rw [List.take_length, dl, List.take_length] at this
  exact this
def szGo (n : Int) : List Trip → List Trip → List Int
 | _, [] => []
 | ea, r :: q => (n - ((ea.filter (meetB r)).length : Int)) :: szGo n (ea ++ [r]) q
theorem szGo_eq (n : Int) : ∀ (q ea : List Trip), (List.range q.length).map (fun i => szAt n (ea ++ q) (ea.length + i)) = szGo n ea q
 | [], _ => rfl
 | r :: q, ea => by
  rw [List.length_cons, List.range_succ_eq_map, List.map_cons, List.map_map]
  have ih := szGo_eq n q (ea ++ [r])
  have h0 : szAt n (ea ++ r :: q) (ea.length + 0) = n - ((ea.filter (meetB r)).length : Int) := by
   rw [szAt_eq (r := r) (by rw [Nat.add_zero, List.getElem?_append_right (Nat.le_refl _)]; simp), Nat.add_zero, List.take_left']
   rfl
  show _ = (n - ((ea.filter (meetB r)).length : Int)) :: szGo n (ea ++ [r]) q
  rw [h0, ← ih]
  congr 1
  refine List.map_congr_left fun i _ => ?_
  show szAt n (ea ++ r :: q) (ea.length + (i + 1)) = _
  rw [List.append_assoc, List.length_append]
  show szAt n (ea ++ r :: q) (ea.length + (i + 1)) = szAt n (ea ++ ([r] ++ q)) (ea.length + 1 + i)
  rw [show ea.length + (i + 1) = ea.length + 1 + i by omega]
  rfl
theorem sizes_go (n : Int) (q : List Trip) : sizesI n q = szGo n [] q := by
 rw [← szGo_eq n q []]
 unfold sizesI
 refine List.map_congr_left fun i _ => ?_
 show szAt n q i = szAt n ([] ++ q) (0 + i)
 rw [Nat.zero_add]; rfl
theorem foldl_mulI : ∀ (l : List Int) (a : Int), l.foldl (· * ·) a = a * prodI l
 | [], a => by unfold prodI; rw [List.foldl_nil, List.foldl_nil, Int.mul_one]
 | x :: l, a => by
  unfold prodI
  rw [List.foldl_cons, List.foldl_cons, foldl_mulI l (a * x), foldl_mulI l (1 * x), Int.one_mul, Int.mul_assoc]
theorem prodI_cons (x : Int) (l : List Int) : prodI (x :: l) = x * prodI l := by
 show List.foldl _ (1 * x) l = _
 rw [foldl_mulI, Int.one_mul]
theorem prodI_pos : ∀ {l : List Int}, (∀ x ∈ l, 1 ≤ x) → 1 ≤ prodI l
 | [], _ => by decide
 | x :: l, h => by
  have h1 := h x List.mem_cons_self
  have h2 := prodI_pos fun y hy => h y (List.mem_cons_of_mem _ hy)
  rw [prodI_cons]
  have := Int.mul_le_mul h1 h2 (by decide) (by omega)
  omega
theorem prodI_le : ∀ {l : List Int}, (∀ x ∈ l, 1 ≤ x ∧ x ≤ 20) → prodI l ≤ 20 ^ l.length
 | [], _ => by decide
 | x :: l, h => by
  have h1 := h x List.mem_cons_self
  have h2 := prodI_le fun y hy => h y (List.mem_cons_of_mem _ hy)
  have h3 := prodI_pos fun y hy => (h y (List.mem_cons_of_mem _ hy)).1
  rw [prodI_cons, List.length_cons, Int.pow_succ, Int.mul_comm]
  exact Int.mul_le_mul h2 h1.2 (by omega) (Int.le_of_lt (Int.pow_pos (by decide)))
theorem sizes_one {n : Int} {rs : List Trip} (hw : Rw rs) (ho : overR n rs = none) : ∀ x ∈ szGo n [] (queueT rs), 1 ≤ x := fun x hx => by
 rw [← sizes_go] at hx
 obtain ⟨i, hi, rfl⟩ := List.mem_iff_getElem.mp hx
 rw [sizes_len] at hi
 have := sizes_get (n := n) hi
 rw [List.getElem?_eq_getElem (by rw [sizes_len]; exact hi)] at this
 rw [Option.some.inj this]
 exact over_pos hw ho i hi
theorem count_none {n : Int} {rs : List Trip} (ho : overR n rs = none) : countI n rs = prodI (szGo n [] (queueT rs)) := by
 unfold countI
 rw [ho]
 dsimp only
 rw [sizes_go]
theorem count_some {n : Int} {rs : List Trip} {r : Trip} (ho : overR n rs = some r) : countI n rs = 0 := by
 unfold countI
 rw [ho]
theorem count_bound {n : Int} {rs : List Trip} (n1 : 1 ≤ n) (n2 : n ≤ 20) (hw : Rw rs) : countI n rs < 10 ^ 40 := by
 cases ho : overR n rs with
 | none =>
  rw [count_none ho]
  have h1 := prodI_le (l := szGo n [] (queueT rs)) fun x hx => ⟨sizes_one hw ho x hx, by
   rw [← sizes_go] at hx
   obtain ⟨i, hi, rfl⟩ := List.mem_iff_getElem.mp hx
   rw [sizes_len] at hi
   have := sizes_get (n := n) hi
   rw [List.getElem?_eq_getElem (by rw [sizes_len]; exact hi)] at this
   rw [Option.some.inj this]
   have hl := hw.len
   have ql := queue_len rs
   exact (szAt_bound n1 n2 (by omega)).2⟩
  have hl : (szGo n [] (queueT rs)).length ≤ 24 := by
   rw [← sizes_go, sizes_len, queue_len]; exact hw.len
  have h2 : (20 : Int) ^ (szGo n [] (queueT rs)).length ≤ 20 ^ 24 := by
   have := Nat.pow_le_pow_right (show 0 < 20 by decide) hl
   exact_mod_cast this
  have h3 : (20 : Int) ^ 24 < 10 ^ 40 := by decide
  omega
 | some r => rw [count_some ho]; decide
theorem taken_nodup {n : Int} {r : Trip} {sd : List Seat} (g : GoodS n sd) (hp : ∀ x ∈ sd, x.1.2.1 ≤ r.2.1) : (takenL r sd).Nodup := by
 unfold takenL List.Nodup
 refine List.pairwise_map.mpr ((g.1.sublist List.filter_sublist).imp_of_mem fun {x y} hx hy h => h ?_)
 obtain ⟨x1, x2⟩ := List.mem_filter.mp hx
 obtain ⟨y1, y2⟩ := List.mem_filter.mp hy
 unfold meetB at x2 y2 ⊢
 rw [Bool.and_eq_true, decide_eq_true_iff, decide_eq_true_iff] at x2 y2 ⊢
 have := hp x x1
 have := hp y y1
 omega
theorem left_exact {n : Int} {r : Trip} {sd : List Seat} (h0 : 0 ≤ n) (g : GoodS n sd) (hp : ∀ x ∈ sd, x.1.2.1 ≤ r.2.1) : ((leftL n r sd).length : Int) = n - ((sd.filter fun x => meetB r x.1).length : Int) := by
 have h1 := left_len (r := r) (sd := sd) h0
 have h2 := upto_len h0
 have h3 : (takenL r sd).length = (sd.filter fun x => meetB r x.1).length := by unfold takenL; rw [List.length_map]
 have h4 := (taken_nodup g hp).length_le_of_subset (l₂ := (upto n).filter fun s => decide (s ∈ takenL r sd)) fun s hs => by
  refine List.mem_filter.mpr ⟨upto_mem.mpr ?_, decide_eq_true hs⟩
  unfold takenL at hs
  obtain ⟨x, hx, rfl⟩ := List.mem_map.mp hs
  exact g.2 x (List.mem_filter.mp hx).1
 have h5 := (List.filter_append_perm (fun s => decide (s ∈ takenL r sd)) (upto n)).length_eq
 rw [List.length_append] at h5
 have h6 : ((upto n).filter fun s => !decide (s ∈ takenL r sd)) = leftL n r sd := rfl
 rw [h6] at h5
 omega
def nameLe (a b : Pair) : Bool := decide (a.1.cps.toList ≤ b.1.cps.toList)
def planOf (t : List Seat) : List Pair := (t.map seatPair).mergeSort nameLe
def planN (n : Int) (rs : List Trip) (m : Int) : List Pair := planOf (seatsN n rs m)
theorem nameLe_trans (a b c : Pair) (h1 : nameLe a b = true) (h2 : nameLe b c = true) : nameLe a c = true := by
 unfold nameLe at *
 rw [decide_eq_true_iff] at *
 exact List.le_trans h1 h2
theorem nameLe_total (a b : Pair) : (nameLe a b || nameLe b a) = true := by
 unfold nameLe
 rw [Bool.or_eq_true, decide_eq_true_iff, decide_eq_true_iff]
 exact List.le_total _ _
theorem planOf_perm (t : List Seat) : (planOf t).Perm (t.map seatPair) := List.mergeSort_perm _ _
theorem str_ext {a b : Str} (h : a.cps.toList = b.cps.toList) : a = b := by
 have : a.cps = b.cps := Array.toList_inj.mp h
 cases a; cases b; simp at this; rw [this]
theorem planOf_asc {t : List Seat} (hn : (t.map fun x => x.1.1).Nodup) : AscP (planOf t) := by
 have hp := planOf_perm t
 have h1 : (planOf t).Pairwise fun a b => nameLe a b = true := List.pairwise_mergeSort nameLe_trans nameLe_total _
 have h2 : ((planOf t).map (·.1)).Nodup := by
  rw [(hp.map _).nodup_iff, List.map_map]; exact hn
 refine (h1.and (List.pairwise_map.mp h2)).imp fun {a b} p => ?_
 obtain ⟨p1, p2⟩ := p
 unfold nameLe at p1
 rw [decide_eq_true_iff] at p1
 refine Classical.byContradiction fun nb => p2 (str_ext (List.le_antisymm p1 (List.not_lt.mp nb)))
theorem ascP_uniq {a b : List Pair} (p : a.Perm b) (ha : AscP a) (hb : AscP b) : a = b :=
 p.eq_of_pairwise (le := fun a b : Pair => a.1.cps.toList < b.1.cps.toList) (fun x y _ _ h1 h2 => absurd h1 (List.lt_asymm h2)) ha hb
theorem fst_nodup {t : List Seat} {rs : List Trip} (hw : Rw rs) (p : (t.map (·.1)).Perm rs) : (t.map fun x => x.1.1).Nodup := by
 have e : (t.map fun x => x.1.1) = (t.map (·.1)).map (·.1) := by rw [List.map_map]; rfl
 rw [e, (p.map _).nodup_iff]; exact asc_nodup hw
end Z
set_option maxHeartbeats 2000000
namespace ZX
open PySem PySem.W PySem.Calls PyProof.Rows
structure BaseX (B i newId : String) (bmB : List Value) : Prop where
 FB : ExcBaseFacts B newId i bmB
 KF : KxsFacts B i
 SF : StoreFacts B bmB "object.__setattr__" "object"
section
variable {prog : Program} {w : World} {A : Around} {E : Value → Shared → Prop} {K : Frag} {C fI cc cda : Addr} {mg mb : Str → Option Value} {R : Result → Shared → Prop} {B i newId : String} {bmB : List Value}
structure XInit (prog : Program) (K : Frag) (C fI cc cda : Addr) (fld : Str) (B i newId : String) (bmB : List Value) (fd : FuncData) : Prop where
 lk : ∃ (oc : Value) (od : Option Addr) (osl : Array (Option Value)) (qual : Str) (params : Arguments) (m : Str) (j : Nat) (p0 p1 p2 p3 p4 p5 p6 p7 p8 p9 : Pos) (scope : Scope) (dV kV doc pm ct : Value) (an : Option Addr) (ar : Arg),
  fd = ksFn "__init__" qual params [.Expr (.Call (.Attribute (.Call (.Name "super" p0) [] [] p1) "__init__" p2) [.Constant (.str m) j p3] [] p4) p5, .Assign [.Attribute (.Name "self" p6) fld p7] (.Name fld p8) p9] scope dV kV doc pm an (.ref cda) ct cc ∧
  K.lookup fI = some ⟨oc, od, .func fd, osl⟩ ∧ codeIn K (.ref cda) qual = true ∧ (params.posonlyargs ++ params.args).head? = some ar ∧ ar.arg = "self" ∧
  scope.names.lookup ("super" : Str) = some .globalImplicit ∧ scope.names.lookup ("__class__" : Str) = some .free ∧ scope.names.lookup ("self" : Str) = some .local ∧ scope.names.lookup fld = some .local ∧ scope.kind = .function ∧ scope.isCoroutine = false ∧ scope.isGenerator = false ∧
  (∀ x ∈ scope.names, x.2 ≠ .cell) ∧ (∀ L : Addr, interactive (ksEnv qual scope L fI (.ref cda) cc) = false) ∧
  (∀ L : Addr, ∃ pl : Sem Bool, eval (.Call (.Attribute (.Call (.Name "super" p0) [] [] p1) "__init__" p2) [.Constant (.str m) j p3] [] p4) (ksEnv qual scope L fI (.ref cda) cc) = (do
   let ov ← attributeBase (.Call (.Name "super" p0) [] [] p1) "__init__" (ksEnv qual scope L fI (.ref cda) cc) (eval (.Call (.Name "super" p0) [] [] p1) (ksEnv qual scope L fI (.ref cda) cc))
   standAt p2.atName
   let (f, first) ← holding [ov] (getMethod ov "__init__" pl)
   callWith p4 f first (backTo p4 (starEach [.Constant (.str m) j p3] (ksEnv qual scope L fI (.ref cda) cc))) [])) ∧
  (∀ L : Addr, swapsWith (.Call (.Attribute (.Call (.Name "super" p0) [] [] p1) "__init__" p2) [.Constant (.str m) j p3] [] p4) none p5.line (ksEnv qual scope L fI (.ref cda) cc) = pure false) ∧
  (∀ L : Addr, swapsWith (.Name fld p8) (some (.Attribute (.Name "self" p6) fld p7)) p9.line (ksEnv qual scope L fI (.ref cda) cc) = pure false)
 bind : ∀ (s : Shared) (e u : Value), BindsTo s fd ⟨[e, u], []⟩ [("self", e), (fld, u)]
 cell : ∃ (cl : Value) (cld : Option Addr) (csl : Array (Option Value)), K.lookup cc = some ⟨cl, cld, .cell (some (.ref C)), csl⟩
 code : ∃ (ccl : Value) (cdd : Option Addr) (vs : Array Value) (ccs : Array (Option Value)) (file : Str) (tf : Tok), K.lookup cda = some ⟨ccl, cdd, .fields vs, ccs⟩ ∧ vs[2]? = some (.str file tf) ∧ ((prog.main.file : Str) == file) = true
 top : (prog.main.scope.names.lookup ("super" : Str)).isSome = false
 cls : ∃ cd, clsIn K C = some cd
 sub : mroIn K C (.ref C) = some true
 subB : subIn K (.ref C) (.type B) = some true
 opq : nsIn K cStatics "thirdparty.any" = some none
 sup : ks_superIn K C C "__init__" = some (some (.builtin i))
 ini : excInitIn K C bmB newId = true
 sa : findIn K (.ref C) "__setattr__" = some (some (.builtin "object.__setattr__"))
 ov : excOver K C bmB = true
 tk : takerIn K C fld = some none
 hd : hasDictIn K C = true
 nf : (fld == ("__debug__" : Str)) = false
 ns : fld ≠ "self"
end
end ZX
namespace ZX
open PySem PySem.Spec PyProof.Rows L2
section
variable {X : Cx} {C fI cc cda : Addr} {B i newId : String} {bmB : List Value} {fld : Str} {fd : FuncData}
structure XCl (K : PySem.W.Frag) (C fI : Addr) : Prop where
 iC : PySem.W.findIn K (.ref C) "__init__" = some (some (.ref fI))
 tI : PySem.W.typeIn K (.ref fI) = some (.type "function")
 exC : PySem.W.subIn K (.ref C) (.type "BaseException") = some true
 tyC : PySem.W.typeIn K (.ref C) = some (.type "type")
 kC : PySem.W.keepIn K (.ref C) = true
end
end ZX
namespace Z
open PySem PySem.Spec L2
open PyProof.Rows hiding St
structure ZSt (z TI TO i1 i2 l1 l2 S : Addr) (xs ys : Array Value) (i : Nat) (h : Heap) : Prop where
 ti : IsPair h TI (.ref i1) (.ref i2)
 h1 : h.IsListIter i1 l1 i
 h2 : h.IsListIter i2 l2 i
 l1 : h.IsList l1 xs
 l2 : h.IsList l2 ys
 to : ∃ o, h.get? TO = some o
 z : (IsZip h z TI TO .none ∧ ∃ a b, IsPair h TO a b) ∨ ∃ T f oT, IsZipHeld h z TI TO T f ∧ h.get? T = some oT ∧ T ≠ z ∧ T ≠ i1 ∧ T ≠ i2 ∧ T ≠ S
section
variable {prog : Program} {w : World} {A : Around} {E : Value → Shared → Prop} {s : Shared} {z TI TO i1 i2 l1 l2 S : Addr} {xs ys : Array Value} {i : Nat}
theorem ZSt.type (st : ZSt z TI TO i1 i2 l1 l2 S xs ys i s.heap) : s.TypeIs (.ref z) "zip" := by
 rcases st.z with ⟨hz, _⟩ | ⟨T, f, oT, hz, _⟩
 ·exact ⟨_, hz, rfl⟩
 ·exact ⟨_, hz, rfl⟩
theorem ZSt.frame {h h' : Heap} (st : ZSt z TI TO i1 i2 l1 l2 S xs ys i h) (dS : S ≠ z ∧ S ≠ TI ∧ S ≠ TO ∧ S ≠ i1 ∧ S ≠ i2 ∧ S ≠ l1 ∧ S ≠ l2) (hk : ∀ b o, b ≠ S → h.get? b = some o → h'.get? b = some o) : ZSt z TI TO i1 i2 l1 l2 S xs ys i h' := by
 obtain ⟨hTI, h1, h2, hl1, hl2, ⟨oTO, hto⟩, hz⟩ := st
 obtain ⟨dz, dTI, dTO, di1, di2, dl1, dl2⟩ := dS
 refine ⟨hk _ _ (Ne.symm dTI) hTI, h1.at fun o e => hk _ o (Ne.symm di1) e, h2.at fun o e => hk _ o (Ne.symm di2) e, hl1.at fun o e => hk _ o (Ne.symm dl1) e, hl2.at fun o e => hk _ o (Ne.symm dl2) e, ⟨oTO, hk _ _ (Ne.symm dTO) hto⟩, ?_⟩
 rcases hz with ⟨hz, a, b, hTO⟩ | ⟨T, f, oT, hz, hT, r1, r2, r3, r4⟩
 ·exact .inl ⟨hk _ _ (Ne.symm dz) hz, a, b, hk _ _ (Ne.symm dTO) hTO⟩
 ·exact .inr ⟨T, f, oT, hk _ _ (Ne.symm dz) hz, hk _ _ r4 hT, r1, r2, r3, r4⟩
theorem ZSt.item {x y : Value} {Q : Option Value → Shared → Prop} (st : ZSt z TI TO i1 i2 l1 l2 S xs ys i s.heap) (D : ZipApart z TI TO i1 i2 l1 l2) (hS : S < s.heap.objs.size) (ex : xs[i]? = some x) (ey : ys[i]? = some y)
  (hQ : ∀ h', IsPair h' s.heap.objs.size x y → ZSt z TI TO i1 i2 l1 l2 S xs ys (i + 1) h' → (∀ b o, b ∉ [z, TI, TO, i1, i2] → s.heap.get? b = some o → h'.get? b = some o) → Q (some (.ref s.heap.objs.size)) { s with heap := h' }) :
  wpAny (model prog w) A (pyNext (.ref z)) Q E s := by
 obtain ⟨hTI, h1, h2, hl1, hl2, ⟨oTO, hto⟩, hz⟩ := st
 have lt : ∀ {c o}, s.heap.get? c = some o → s.heap.objs.size ≠ c := fun e => Nat.ne_of_gt (Heap.lt_size e)
 have n1 : s.heap.objs.size ≠ i1 := let ⟨_, e, _⟩ := h1; lt e
 have n2 : s.heap.objs.size ≠ i2 := let ⟨_, e, _⟩ := h2; lt e
 rcases hz with ⟨hz, a, b, hTO⟩ | ⟨T, f, oT, hz, hT, r1, r2, r3, r4⟩
 ·refine wpAny_pyNext_zip_item D hz hTI hTO h1 h2 hl1 hl2 ex ey fun h' a1 a2 a3 a4 a5 a6 hk => ?_
  exact hQ h' a5 ⟨hk _ _ D.TIz D.TITO D.TIi1 D.TIi2 hTI, a3, a4, hl1.at fun o e => hk _ o D.l1z D.l1TO D.l1i1 D.l1i2 e, hl2.at fun o e => hk _ o D.l2z D.l2TO D.l2i1 D.l2i2 e, ⟨_, a2⟩,
    .inr ⟨s.heap.objs.size, false, _, a1, a5, lt hz, n1, n2, Nat.ne_of_gt hS⟩⟩
   fun c o hc e => hk c o (fun x => hc (by simp [x])) (fun x => hc (by simp [x])) (fun x => hc (by simp [x])) (fun x => hc (by simp [x])) e
 ·refine wpAny_pyNext_zip_item_held D hz hT hTI h1 h2 hl1 hl2 ex ey fun h' a1 a3 a4 a5 a6 hk => ?_
  exact hQ h' a5 ⟨hk _ _ D.TIz D.TIi1 D.TIi2 hTI, a3, a4, hl1.at fun o e => hk _ o D.l1z D.l1i1 D.l1i2 e, hl2.at fun o e => hk _ o D.l2z D.l2i1 D.l2i2 e, ⟨oTO, hk _ _ D.TOz D.TOi1 D.TOi2 hto⟩,
    .inr ⟨T, true, oT, a1, hk _ _ r1 r2 r3 hT, r1, r2, r3, r4⟩⟩
   fun c o hc e => hk c o (fun x => hc (by simp [x])) (fun x => hc (by simp [x])) (fun x => hc (by simp [x])) e
theorem ZSt.done {Q : Option Value → Shared → Prop} (st : ZSt z TI TO i1 i2 l1 l2 S xs ys i s.heap) (D : ZipApart z TI TO i1 i2 l1 l2) (hh : A.handled = none) (hend : xs[i]? = none ∨ ys[i]? = none)
  (hQ : ∀ h', (∀ b o, b ∉ [z, TI, TO, i1, i2] → s.heap.get? b = some o → h'.get? b = some o) → Q none { s with heap := h' }) :
  wpAny (model prog w) A (pyNext (.ref z)) Q E s := by
 obtain ⟨hTI, h1, h2, hl1, hl2, ⟨oTO, hto⟩, hz⟩ := st
 rcases hz with ⟨hz, a, b, hTO⟩ | ⟨T, f, oT, hz, hT, r1, r2, r3, r4⟩
 ·exact wpAny_pyNext_zip_end hh D hz hTI hTO h1 h2 hl1 hl2 hend fun h' hk => hQ h' fun c o hc e => hk c o (fun x => hc (by simp [x])) (fun x => hc (by simp [x])) (fun x => hc (by simp [x])) (fun x => hc (by simp [x])) e
 ·exact wpAny_pyNext_zip_end_held hh D hz hT hTI h1 h2 hl1 hl2 hend fun h' hk => hQ h' fun c o hc e => hk c o (fun x => hc (by simp [x])) (fun x => hc (by simp [x])) (fun x => hc (by simp [x])) e
end
end Z
namespace Z
open PySem PySem.Spec L2
open PyProof.Rows hiding St
section
variable {prog : Program} {w : World} {A : Around} {E : Value → Shared → Prop} {s : Shared}
theorem adjust_back (n : Nat) : Builtin.Slice.sliceAdjust none none (-1) (n : Int) = ((n : Int) - 1, -1) := by
 unfold Builtin.Slice.sliceAdjust
 simp
theorem places_back (n : Nat) : Builtin.Slice.slicePlaces ((n : Int) - 1) (-1) (-1) = n := by
 unfold Builtin.Slice.slicePlaces
 rw [if_neg (by decide)]
 have e1 : - (-1 : Int) = 1 := by decide
 rw [e1, Int.ediv_one]
 split <;> omega
theorem sliceApplied_back {sl : Addr} {vs : Value} {n : Nat} {Q : Int × Int × Nat → Shared → Prop} (hs : s.heap.IsSliceOf sl .none .none vs) (ps : IsPart vs (some (-1)))
  (h : Q ((n : Int) - 1, -1, n) s) : wpAny (model prog w) A (Builtin.Slice.sliceApplied (.ref sl) (pure (n : Int))) Q E s := by
 obtain ⟨os, hos, hcs, hds⟩ := id hs
 unfold Builtin.Slice.sliceApplied Builtin.Slice.sliceFields
 refine wpAny_bind (wpAny_bind (wpAny_field hos hds (x := .none) rfl (wpAny_bind (wpAny_field hos hds (x := .none) rfl (wpAny_bind (wpAny_field hos hds (x := vs) rfl (wpAny_pure ?_)))))))
 refine wpAny_bind (HT.slicePart_ ps ?_)
 show wpAny _ _ (if ((-1 : Int) == 0) = true then _ else _) _ _ s
 rw [if_neg (by decide)]
 refine wpAny_bind (slicePart_none (wpAny_bind (slicePart_none (wpAny_bind (wpAny_pure ?_)))))
 show wpAny _ _ (match Builtin.Slice.sliceAdjust none none (-1) (n : Int) with | (lo, hi) => pure (lo, (-1 : Int), Builtin.Slice.slicePlaces lo hi (-1))) _ _ s
 rw [adjust_back n]
 show wpAny _ _ (pure ((n : Int) - 1, (-1 : Int), Builtin.Slice.slicePlaces ((n : Int) - 1) (-1) (-1))) _ _ s
 rw [places_back]
 exact wpAny_pure h
theorem fm_some {α β : Type} (f : α → Option β) (g : α → β) : ∀ l : List α, (∀ m, m ∈ l → f m = some (g m)) → l.filterMap f = l.map g
 | [], _ => rfl
 | a :: l, h => by
  rw [List.filterMap_cons_some (h a List.mem_cons_self), fm_some f g l fun m hm => h m (List.mem_cons_of_mem _ hm), List.map_cons]
theorem pick_back (xs : Array Value) : ((List.range xs.size).filterMap fun (m : Nat) => xs[(((xs.size : Nat) : Int) - 1 + (m : Int) * (-1)).toNat]?).toArray = xs.toList.reverse.toArray := by
 congr 1
 rw [fm_some _ (fun m => xs.toList.reverse.getD m .none) _ fun m hm => ?_]
 ·refine List.ext_getElem? fun i => ?_
  by_cases hi : i < xs.size
  ·rw [List.getElem?_map, List.getElem?_range hi]
   have hl : i < xs.toList.reverse.length := by rw [List.length_reverse, Array.length_toList]; exact hi
   rw [List.getElem?_eq_getElem hl]
   show some (xs.toList.reverse.getD i .none) = _
   rw [List.getD_eq_getElem?_getD, List.getElem?_eq_getElem hl]
   rfl
  ·rw [List.getElem?_eq_none (by rw [List.length_map, List.length_range]; omega), List.getElem?_eq_none (by rw [List.length_reverse, Array.length_toList]; omega)]
 ·have hm := List.mem_range.mp hm
  have e1 : (((xs.size : Nat) : Int) - 1 + (m : Int) * (-1)).toNat = xs.size - 1 - m := by omega
  have hl : m < xs.toList.length := by rw [Array.length_toList]; exact hm
  have hj : xs.size - 1 - m < xs.size := by omega
  rw [e1, List.getD_eq_getElem?_getD, List.getElem?_reverse hl, Array.length_toList, Array.getElem?_toList, Array.getElem?_eq_getElem hj]
  rfl
theorem getItem_tuple_back {t sl : Addr} {items : Array Value} {vs : Value} {Q : Value → Shared → Prop} (ht : IsTup s.heap t items) (hs : s.heap.IsSliceOf sl .none .none vs) (ps : IsPart vs (some (-1)))
  (h : Q (.ref s.heap.objs.size) { s with heap := s.heap.push { cls := .type "tuple", data := .seq items.toList.reverse.toArray } })
  (hsz : items.size ≤ sizeLine) : wpAny (model prog w) A (getItem (.ref t) (.ref sl)) Q E s := by
 have htake : sizeOk (.seq items.toList.reverse.toArray) := by
  show items.toList.reverse.toArray.size ≤ sizeLine
  rw [List.size_toArray, List.length_reverse]
  exact hsz
 obtain ⟨os, hos, hcs, hds⟩ := id hs
 have hTs : s.TypeIs (.ref sl) "slice" := ⟨os, hos, hcs⟩
 unfold getItem
 try with_reducible refine wpAny_holding ?_
 first | refine wpAny_bind (wpAny_pure ?_) | skip
 refine wpAny_bind (wpAny_sequenceKey ht.typeIs (by decide) ?_)
 refine wpAny_bind (wpAny_callSpecial?_slot (name := Str.ofString "__getitem__") ht.typeIs PyProof.Rows.slot_tuple_getitem
  (wpAny_call_entry PyProof.Rows.slot_tuple_getitem ht.typeIs entry_tuple_getitem ?_ (args_tuple_getitem _ _)))
 show wpAny _ _ (Builtin.Tuple.tupleItemsOf (.ref t) >>= _) _ _ s
 refine wpAny_bind (tupleItemsOf_ ht ?_)
 refine wpAny_bind (wpAny_typeOf hTs ?_)
 rw [if_pos (by decide)]
 refine wpAny_bind (sliceApplied_back hs ps ?_)
 have hno : ¬ ((((items.size : Nat) : Int) - 1 == 0 && (-1 : Int) == 1 && items.size == items.size) = true) := by
  intro q
  rw [Bool.and_eq_true, Bool.and_eq_true] at q
  exact absurd q.1.2 (by decide)
 show wpAny _ _ (if (((items.size : Nat) : Int) - 1 == 0 && (-1 : Int) == 1 && items.size == items.size) = true then _ else _) _ _ s
 rw [if_neg hno, pick_back]
 first
  | exact wpAny_bind (m := Builtin.Tuple.tupleExact _) (wpAny_newObj_type (wpAny_pure ⟨_, rfl, wpAny_pure h⟩) htake)
  | exact wpAny_bind (m := Builtin.Tuple.tupleExact _) (wpAny_newObj_type (wpAny_bind (wpAny_pure (wpAny_pure ⟨_, rfl, wpAny_pure h⟩))) htake)
  | exact wpAny_bind (wpAny_bind (m := Builtin.Tuple.tupleExact _) (wpAny_newObj_type (wpAny_pure (wpAny_pure ⟨_, rfl, wpAny_pure h⟩)) htake))
  | exact wpAny_bind (wpAny_bind (m := Builtin.Tuple.tupleExact _) (wpAny_newObj_type (wpAny_pure ⟨_, rfl, wpAny_pure h⟩) htake))
end
section
variable {X : Cx} {T : List (Addr × Str)} {e : Expr} {te : TEp} {pos : Pos}
def tRevT (K : PySem.W.Frag) (te : TE) : TE := fun σ H Q => te σ H fun x H1 => ∃ a xs, x = .ref a ∧ SqT K H1 a xs ∧ ∀ p, H1 p = none → Q (.ref p) (upd H1 p (.tup xs.reverse))
theorem pe_revT {e : Expr} {te : TE} {k : Nat} {p1 p2 p3 pos : Pos} (he : PE X e te) : PE X (.Subscript e (.Slice none none (some (.UnaryOp .USub (.Constant (.int 1) k p1) p2)) p3) pos) (tRevT X.K te) := by
 refine ⟨fun pins s σ H Q I h => ?_⟩
 refine Subscript_ (thn (he.run pins s σ H _ I h) fun v s1 ⟨x, H1, I1, r1, q1⟩ => ?_)
 obtain ⟨a, xs, ex, hx, q⟩ := q1
 subst ex
 cases r1
 have hst : PO X (some (.UnaryOp .USub (.Constant (.int 1) k p1) p2)) (tPart (tUn (rU fun i => .int (-i)) (tC (.int 1)))) := po_some (pe_un un_neg pe_int)
 refine wpAny_Slice (thn (po_none.run pins s1 σ H1 (fun o H2 => o = none ∧ H2 = H1) I1 ⟨rfl, rfl⟩) fun vl s2 ⟨l, H2, I2, pl, el, e2⟩ => ?_)
 subst el e2
 refine thn (po_none.run pins s2 σ H2 (fun o H3 => o = none ∧ H3 = H2) I2 ⟨rfl, rfl⟩) fun vu s3 ⟨u, H3, I3, pu, eu, e3⟩ => ?_
 subst eu e3
 refine thn (hst.run pins s3 σ H3 (fun o H4 => o = some (-1) ∧ H4 = H3) I3 ⟨1, rfl, -1, rfl, rfl, rfl⟩) fun vs s4 ⟨o, H4, I4, ps, eo, e4⟩ => ?_
 subst eo e4
 cases pl
 cases pu
 have I5 : Inv X pins σ H4 { s4 with heap := s4.heap.push { cls := .type "slice", data := .fields #[.none, .none, vs] } } := I4.kept (t' := s4.toks) fun b ob q => Heap.get?_push_of_some _ q
 obtain ⟨its, r, ht, hz⟩ := I5.tuple hx
 show wpAny (model X.prog X.w) X.A (subscriptTail e (.Slice none none (some (.UnaryOp .USub (.Constant (.int 1) k p1) p2)) p3) (.ref a) (.ref s4.heap.objs.size)) (EP X pins σ Q) X.xe { s4 with heap := s4.heap.push { cls := .type "slice", data := .fields #[.none, .none, vs] } }
 refine tail_any (ops := [.ref a, .ref s4.heap.objs.size]) ht.typeIs (PyProof.Rows.slot_tuple_getitem.lookup) ?_ (by with_unfolding_all rfl)
 refine getItem_tuple_back ht (Heap.IsSliceOf.new _ .none .none vs) ps ?_ (by rw [List.size_toArray, ← r.length]; exact hz)
 refine ⟨.ref _, _, I5.laid (t' := s4.toks) (o := .tup xs.reverse) (fun b ob q => Heap.get?_push_of_some _ q) (Nat.le_refl _) ?_, rfl, q _ (I5.hok.fresh (Nat.le_refl _))⟩
 exact ⟨by rw [List.length_reverse]; exact hz, _, r.reverse, IsTup.new _ _⟩
def tRevTP (te : TEp) : TEp := fun η P => te η fun x η1 => match x with
 | .tup xs => P (.tup xs.reverse) η1
 | _ => False
theorem z_revT {k : Nat} {p1 p2 p3 pos : Pos} (he : PE X e (up X.K T te)) : PE X (.Subscript e (.Slice none none (some (.UnaryOp .USub (.Constant (.int 1) k p1) p2)) p3) pos) (up X.K T (tRevTP te)) := by
 refine PE.weak (pe_revT he) fun σ H Q q => ?_
 obtain ⟨F, η, P, R, h, k⟩ := q
 refine ⟨F, η, _, R, h, fun x η1 v H1 h1 e1 R1 r1 => ?_⟩
 split at h1
 ·obtain ⟨a, vs, rfl, q, rr⟩ := r1.tup_
  refine ⟨a, vs, rfl, q.sq, fun p hp => ?_⟩
  exact k _ η1 _ _ h1 (e1.trans (.same (Same.new hp))) (R1.same (Same.new hp)) (rep_newT R1.trO hp (reps_rev rr))
 ·cases h1
end
end Z
namespace Z
open PySem PySem.Spec L2
open PyProof.Rows hiding St
end Z
namespace Z
open PySem PySem.Spec L2
open PyProof.Rows hiding St
section
variable {X : Cx} {T : List (Addr × Str)} {e a b o : Expr} {es : List Expr} {te ta tb ti : TEp} {t : TAbp} {pos p : Pos} {i : Nat} {x : Str}
end
abbrev TOp' := EP' → (Ow → EP' → Prop) → Prop
section
variable {X : Cx} {T : List (Addr × Str)} {e : Expr} {st : Stmt} {rest : List Stmt} {t1 : TSp} {tf : TOp'} {pos : Pos} {i : Nat}
end
end Z
namespace Z
open PySem PySem.Spec L2
open PyProof.Rows hiding St
section
variable {K : PySem.W.Frag} {O : Addr → Prop} {H : Hp}
theorem RepD.get : ∀ {xs : List (Key × PV)} {vs : List (Key × V)} {j : Nat} {p : Key × PV}, RepD K O H xs vs → xs[j]? = some p → ∃ v, vs[j]? = some (p.1, v)
 | [], _, j, p, h, e => by simp at e
 | (n, x) :: xs, _, 0, p, h, e => by
  obtain ⟨v, us, rfl, r, t⟩ := h.inv
  simp at e
  exact ⟨v, by rw [← e]; rfl⟩
 | (n, x) :: xs, _, j + 1, p, h, e => by
  obtain ⟨v, us, rfl, r, t⟩ := h.inv
  simpa using t.get (by simpa using e)
end
end Z
namespace Z
open PySem PySem.Spec L2
end Z
namespace Z
open PySem PySem.Spec L2
open PyProof.Rows hiding St
end Z
namespace Z
open PySem PySem.Spec L2
open PyProof.Rows hiding St
end Z
namespace Z
open PySem PySem.Spec L2
open PyProof.Rows hiding St
end Z
namespace Z
open PySem PySem.Spec L2
open PyProof.Rows hiding St
end Z
namespace Z
open PySem PySem.Spec L2
open PyProof.Rows hiding St
variable {X : Cx}
def rMulL : R2p := fun x y P => match x, y with
 | .lst xs, .int k => -(2 ^ 63) ≤ k ∧ k < 2 ^ 63 ∧ xs.length * k.toNat ≤ sizeLine ∧ P (.lst (List.replicate k.toNat xs).flatten)
 | _, _ => False
theorem reps_rep {K : PySem.W.Frag} {O : Addr → Prop} {H : Hp} {xs : List PV} {vs : List V} (r : Reps K O H xs vs) : ∀ n : Nat, Reps K O H (List.replicate n xs).flatten (List.replicate n vs).flatten
 | 0 => .nil
 | n + 1 => by
  rw [List.replicate_succ, List.replicate_succ, List.flatten_cons, List.flatten_cons]
  exact r.app (reps_rep r n)
theorem zo_mulL : OpR X (binaryOp .Mult) (r2 X.K rMulL) := by
 refine OpR.weak (op_rep (X := X)) fun x y H Q h => ?_
 obtain ⟨O, px, py, P, tr, hx, hy, h, k⟩ := h
 unfold rMulL at h
 split at h
 ·obtain ⟨a, vs, e1, n1, h1, q1⟩ := hx.lst_
  exact ⟨a, _, vs, e1, hy.int_, h1, h.1, h.2.1, by rw [q1.len]; exact h.2.2.1, fun p hp => k.newL h.2.2.2 tr (reps_rep q1 _) hp⟩
 ·cases h
end Z
namespace Z
open PySem PySem.Spec L2
open PyProof.Rows hiding St
end Z
namespace Z
open PySem PySem.Spec L2
open PyProof.Rows hiding St
end Z
namespace Z
open PySem PySem.Spec L2 GenW
open PyProof.Rows hiding St
end Z
namespace Z
open PySem PySem.Spec L2 GenW
open PyProof.Rows hiding St
end Z
namespace Z
open PySem PySem.Spec L2
open PyProof.Rows hiding St
end Z
namespace Z
open PySem PySem.Spec L2
open PyProof.Rows hiding St
end Z
namespace Z
open PySem PySem.Spec L2
open PyProof.Rows hiding St
end Z
namespace Z
open PySem PySem.Spec L2
open PyProof.Rows hiding St
end Z
namespace Z
open PySem PySem.Spec L2
open PyProof.Rows hiding St
end Z
namespace Z
open PySem PySem.Spec L2
open PyProof.Rows hiding St
abbrev WZ := Addr → List (Str × PV) → EP' → Prop
abbrev WC := Addr → List (Str × PV) → Prop
def XAt (K : PySem.W.Frag) (O : Addr → Prop) (H : Hp) (d : Option Addr) (fs : List (Str × PV)) : Prop :=
 (fs = [] ∧ d = none) ∨ ∃ x ws, d = some x ∧ ¬ O x ∧ H x = some (.xd ws) ∧ RepF K O H fs ws
abbrev WXs := Value → Option Addr → St → Hp → Prop
def XCn (K : PySem.W.Frag) (T : List (Addr × Str)) (W : WXs) (F : Addr → Prop) (σ : St) (η : EP') (H : Hp) (Zw : WZ) : Prop :=
 ∀ C fs η' d σ' H', Zw C fs η' → Ext σ η σ' η' H H' → Rs K T F σ' η' H' → XAt K (Oof F σ' η') H' d fs → W (.ref C) d σ' H'
abbrev TXp := EP' → (PV → EP' → Prop) → WZ → Prop
abbrev TSX := EndsP → WZ → EP' → Prop
section
variable {X : Cx} {K : PySem.W.Frag} {T : List (Addr × Str)} {W : WXs} {F : Addr → Prop} {σ σ1 : St} {η η1 : EP'} {H H1 : Hp} {Zw : WZ} {e o : Expr} {es : List Expr} {te : TXp} {t : TAp} {pos : Pos} {st : Stmt} {rest : List Stmt} {t1 t2 : TSX} {u1 u2 : TSp}
theorem XCn.ext (c : XCn K T W F σ η H Zw) (e : Ext σ η σ1 η1 H H1) : XCn K T W F σ1 η1 H1 Zw := fun C fs η' d σ' H' z e2 R x => c C fs η' d σ' H' z (e.trans e2) R x
end
abbrev SpX := List PV → (PV → Prop) → WC → Prop
abbrev SpRX := Ow → List PV → (PV → Ow → Prop) → WC → Prop
section
variable {K : PySem.W.Frag} {T : List (Addr × Str)} {F : Addr → Prop} {H H' : Hp}
theorem XAt.mono {O O' : Addr → Prop} {d : Option Addr} {fs : List (Str × PV)} (h : ∀ a, O' a → O a) (x : XAt K O H d fs) : XAt K O' H d fs := by
 rcases x with x | ⟨a, ws, e, n, q, r⟩
 ·exact .inl x
 ·exact .inr ⟨a, ws, e, fun z => n (h a z), q, r.mono h⟩
end
end Z
namespace L2N
open PySem PySem.Spec PyProof.Rows L2
end L2N
namespace Z
open PySem PySem.Spec L2
open PyProof.Rows hiding St
section
variable {X : Cx} {T : List (Addr × Str)} {W : WXs} {e : Expr} {te : TEp} {pos p pos' : Pos} {C fI cc cda : Addr} {B i newId : String} {bmB : List Value} {fld x : Str} {fd : FuncData}
structure XOk (P : Program) (K : PySem.W.Frag) (mg : Str → Option Value) (x : Str) (C : Addr) (fld : Str) : Prop where
 ex : ∃ (fI cc cda : Addr) (B i newId : String) (bmB : List Value) (fd : FuncData), ZX.BaseX B i newId bmB ∧ ZX.XInit P K C fI cc cda fld B i newId bmB fd ∧ ZX.XCl K C fI
 g : mg x = some (.ref C)
end
end Z
namespace L2N
open PySem PySem.Spec PyProof.Rows L2
inductive NamesL (X : Cx) : List Expr → List Value → Prop
 | nil : NamesL X [] []
 | cons {x : Str} {p : Pos} {c : Value} {es : List Expr} {cs : List Value} : Names X x c → NamesL X es cs → NamesL X (.Name x p :: es) (c :: cs)
def TupM (P : Program) (w : World) (K : PySem.W.Frag) (cs : List Value) : Prop := ∀ {cls : Value} {tp e : Addr} {b : Bool} {h : Heap}, K.In h → PySem.W.Looks (model P w) h (typeOf (.ref e)) cls →
 h.get? tp = some { cls := .type "tuple", data := .seq cs.toArray } → PySem.W.exmAny K cls cs = some b → PySem.W.Looks (model P w) h (excMatches (.ref e) (.ref tp)) b
theorem flying_keep {B h h' : Heap} {l : List Env} {a : Addr} {Z : Obj → Prop} (k : ∀ b o, h.get? b = some o → h'.get? b = some o) (x : HandSPX.FlyingZ B l a Z h) : HandSPX.FlyingZ B l a Z h' := by
 obtain ⟨x1, x2, x3, oe, vs, T, oT, ts, e1, e2, e3, e4, e5, e6, e7, e8⟩ := x
 exact ⟨fun b o e => k b o (x1 b o e), x2, x3.of_keeps fun b o e _ => ⟨o, k b o e, rfl⟩, oe, vs, T, oT, ts, k _ _ e1, e2, e3, e4, e5, e6, k _ _ e7, e8⟩
theorem evalNames {X : Cx} {a : Addr} {q : Addr × Obj} {pn pins : List (Addr × Obj)} {σ : St} {H : Hp} {s : Shared} {np : Pos} {E : Value → Shared → Prop} (I : Inv (X.suite a (q :: pn)) pins σ H s) : ∀ {es : List Expr} {cs : List Value}, NamesL X es cs → ∀ {Q : List Value → Shared → Prop}, Q cs s →
  wpAny (model X.prog X.w) (X.A.mark (some (.ref a))) (spliced (backTo np (starEach es X.env))) Q E s
 | _, _, .nil, Q, q => spliced_none q
 | _, _, .cons (x := x) (p := p) (c := c) hc r, Q, qq => by
  refine spliced_more ?_
  obtain ⟨hg, hdbg, hm | ⟨hm, hv, hnn⟩⟩ := hc
  ·exact ld_glob (X := X.suite a (q :: pn)) I hg hm (evalNames I r qq) hdbg
  ·exact ld_blt (X := X.suite a (q :: pn)) I hg hm hv (evalNames I r qq) hnn hdbg
def wTup (K : PySem.W.Frag) (cs : List Value) (i : Nat) (ts : Addr → Value → Option Addr → TS) (Wout : WX) (D : Ends) : WX := fun cls d σ H =>
 ∃ b, PySem.W.exmAny K cls cs = some b ∧ (b = true → ∀ a, H a = none → ts a cls d { nx := fun σ' H' => D.nx (σ'.set i none) H', rt := D.rt, bk := fun σ' H' => D.bk (σ'.set i none) H', ct := fun σ' H' => D.ct (σ'.set i none) H' } (σ.set i (some (.ref a))) H) ∧
  (b = false → Wout cls d σ H)
def wTupO (K : PySem.W.Frag) (cs : List Value) (ts : Addr → Value → Option Addr → TS) (Wout : WX) (D : Ends) : WX := fun cls d σ H =>
 ∃ b, PySem.W.exmAny K cls cs = some b ∧ (b = true → ∀ a, H a = none → ts a cls d D σ H) ∧ (b = false → Wout cls d σ H)
end L2N
namespace Z
open PySem PySem.Spec L2
open PyProof.Rows hiding St
section
variable {X : Cx} {T : List (Addr × Str)} {W : WXs} {e : Expr} {te ta : TEp} {t : TAp} {pos pos' np : Pos} {b₀ : Stmt} {body suite : List Stmt} {tb : TSX} {i ek : Nat} {n : Str} {cs : List Value} {elts : List Expr}
theorem XAt.rep {K : PySem.W.Frag} {O : Addr → Prop} {H : Hp} {d : Option Addr} {fs : List (Str × PV)} (x : XAt K O H d fs) (a : Addr) : Rep K O H (.exn a d fs) (.ref a) := by
 unfold Rep
 rcases x with ⟨rfl, rfl⟩ | ⟨y, ws, rfl, n, q, r⟩
 ·exact ⟨rfl, [], (fun _ z => nomatch z), by unfold RepF; rfl⟩
 ·exact ⟨rfl, ws, (fun _ z => by cases z; exact ⟨n, q⟩), r⟩
theorem XAt.some {K : PySem.W.Frag} {O : Addr → Prop} {H : Hp} {d : Option Addr} {fs : List (Str × PV)} (x : XAt K O H d fs) : fs = [] ∨ d.isSome := by
 rcases x with ⟨rfl, rfl⟩ | ⟨y, ws, rfl, n, q, r⟩
 ·exact .inl rfl
 ·exact .inr rfl
end
section
variable {X : Cx} {T : List (Addr × Str)} {e : Expr} {te ta : TEp} {pos : Pos} {a : Addr} {cls : Value} {d : Option Addr}
structure XfN (K : PySem.W.Frag) (C : Addr) (f : Str) : Prop where
 t : XfC K C
 n : PySem.W.findIn K (.ref C) f = some none
end
structure XTxt (st : Stmt) (qual fld : Str) : Prop where
 ex : ∃ (m : Str) (j : Nat) (p0 p1 p2 p3 p4 p5 p6 p7 p8 p9 : Pos) (ar : Arg),
  defBody st = [.Expr (.Call (.Attribute (.Call (.Name "super" p0) [] [] p1) "__init__" p2) [.Constant (.str m) j p3] [] p4) p5, .Assign [.Attribute (.Name "self" p6) fld p7] (.Name fld p8) p9] ∧
  ((defArgs st).posonlyargs ++ (defArgs st).args).head? = some ar ∧ ar.arg = "self" ∧
  (∀ (L fI cda cc : Addr), interactive (PySem.W.ksEnv qual (defScope st) L fI (.ref cda) cc) = false) ∧
  (∀ (L fI cda cc : Addr), ∃ pl : Sem Bool, eval (.Call (.Attribute (.Call (.Name "super" p0) [] [] p1) "__init__" p2) [.Constant (.str m) j p3] [] p4) (PySem.W.ksEnv qual (defScope st) L fI (.ref cda) cc) = (do
   let ov ← attributeBase (.Call (.Name "super" p0) [] [] p1) "__init__" (PySem.W.ksEnv qual (defScope st) L fI (.ref cda) cc) (eval (.Call (.Name "super" p0) [] [] p1) (PySem.W.ksEnv qual (defScope st) L fI (.ref cda) cc))
   standAt p2.atName
   let (f, first) ← holding [ov] (getMethod ov "__init__" pl)
   callWith p4 f first (backTo p4 (starEach [.Constant (.str m) j p3] (PySem.W.ksEnv qual (defScope st) L fI (.ref cda) cc))) [])) ∧
  (∀ (L fI cda cc : Addr), swapsWith (.Call (.Attribute (.Call (.Name "super" p0) [] [] p1) "__init__" p2) [.Constant (.str m) j p3] [] p4) none p5.line (PySem.W.ksEnv qual (defScope st) L fI (.ref cda) cc) = pure false) ∧
  (∀ (L fI cda cc : Addr), swapsWith (.Name fld p8) (some (.Attribute (.Name "self" p6) fld p7)) p9.line (PySem.W.ksEnv qual (defScope st) L fI (.ref cda) cc) = pure false)
 n1 : (defScope st).names.lookup ("super" : Str) = some .globalImplicit
 n2 : (defScope st).names.lookup ("__class__" : Str) = some .free
 n3 : (defScope st).names.lookup ("self" : Str) = some .local
 n4 : (defScope st).names.lookup fld = some .local
 n5 : (defScope st).kind = .function
 n6 : (defScope st).isCoroutine = false
 n7 : (defScope st).isGenerator = false
 n8 : ∀ x ∈ (defScope st).names, x.2 ≠ .cell
 b : ∀ (kV doc pm : Value) (an : Option Addr) (cdv ct : Value) (cc : Addr) (e u : Value), bindArgs (PySem.W.ksFn "__init__" qual (defArgs st) (defBody st) (defScope st) .none kV doc pm an cdv ct cc) ⟨[e, u], []⟩ = pure [(("self" : Str), e), (fld, u)]
structure XAll (P : Program) (K : PySem.W.Frag) (mg : Str → Option Value) (x : Str) (C : Addr) (fld : Str) : Prop where
 ok : XOk P K mg x C fld
 is : L2.ExcC K C
 xf : XfN K C fld
end Z
namespace L2T
open PySem PySem.Spec PyProof.Rows L2
open L2N (NamesL TupM flying_keep evalNames wTup wTupO)
abbrev St := L2.St
open LamX
end L2T
namespace Z
open PySem PySem.Spec L2
open PyProof.Rows hiding St
abbrev SpZ := Addr → Value → Option Addr → SpP
structure FnZ (P : Program) (w : World) (K : PySem.W.Frag) (mg : Str → Option Value) (base : Heap) (k : Nat) (f : Addr) (fd : FuncData) (ps : List Str) (sp : Addr → Value → Option Addr → Sp) : Prop where
 len : ∀ a cls d vs H Q E, sp a cls d vs H Q E → vs.length = ps.length
 run : ∀ (A : Around) (outer : List Env) (s : Shared) (H : Hp) (args : Args) (us : List Value) (vs : List V) (Q : VK) (p : Addr × Obj) (cls : Value) (d : Option Addr), L2H.RoomH k A → L2.Zc cls d p.2 → (∃ xs, p.2.data = .fields xs) → L2H.PinOk outer H s p → Env0 P w K mg base A outer s H →
  BindsTo s fd args (ps.zip us) → Vals vs us → sp p.1 cls d vs H Q E0 → codeAny (model P w) A (.call (.ref f) args) (CR CX0 outer P w H s Q E0) s
def noSl : Sl → Sl
 | .va x => .va x
 | _ => .no
def noOwn (η : EP') : EP' := η.map noSl
section
variable {K : PySem.W.Frag} {T : List (Addr × Str)} {F : Addr → Prop} {σ : St} {η : EP'} {H H1 : Hp}
theorem noOwn_va {i : Nat} {x : PV} (h : (noOwn η)[i]? = some (.va x)) : η[i]? = some (.va x) := by
 unfold noOwn at h
 rw [List.getElem?_map] at h
 obtain ⟨s, hs, e⟩ := Option.map_eq_some_iff.mp h
 cases s <;> first | (cases e; exact hs) | cases e
theorem noOwn_ow {i : Nat} {o : Ow} (h : (noOwn η)[i]? = some (.ow o)) : False := by
 unfold noOwn at h
 rw [List.getElem?_map] at h
 obtain ⟨s, hs, e⟩ := Option.map_eq_some_iff.mp h
 cases s <;> cases e
theorem not_own {σ : St} {a : Addr} (h : IsOwn σ (noOwn η) a) : False := by
 obtain ⟨i, o, _, e⟩ := h
 exact noOwn_ow e
theorem Rs.none (R : Rs K T F σ η H) : Rs K T (Oof F σ η) σ (noOwn η) H := by
 refine ⟨by unfold noOwn; rw [List.length_map]; exact R.len, fun i x e => ?_, fun i o e => (noOwn_ow e).elim, fun i j o o' a e => (noOwn_ow e).elim, R.trO, R.tb⟩
 obtain ⟨v, h1, h2⟩ := R.va i x (noOwn_va e)
 exact ⟨v, h1, h2.mono fun b z => z.elim id fun z => (not_own z).elim⟩
theorem Gr.trans {H2 : Hp} (a : Gr H H1) (b : Gr H1 H2) : Gr H H2 := ⟨fun c o h t => b.keep c o (a.keep c o h t) t, fun c n => b.live c (a.live c n)⟩
end
def ηZ (f a : Addr) (d : Option Addr) (fs : List (Str × PV)) : EP' := [.va (.raw (.ref f)), .va (.exn a d fs)]
variable {X : Cx}
end Z
namespace Z
open PySem PySem.Spec L2
open PyProof.Rows hiding St
def KeysAre : List DictEntry → List Str → Prop
 | [], [] => True
 | e :: r, k :: ks => (∃ t, e.key = .str k t) ∧ KeysAre r ks
 | _, _ => False
theorem KeysAre.at_ : ∀ {es : List DictEntry} {ks : List Str}, KeysAre es ks → es.length = ks.length ∧ ∀ (i : Nat) (k : Str), ks[i]? = some k → ∃ en t, es[i]? = some en ∧ en.key = .str k t
 | [], [], _ => ⟨rfl, fun i k z => by simp at z⟩
 | e :: r, k :: ks, h => by
  obtain ⟨⟨t, ht⟩, h2⟩ := h
  obtain ⟨h3, h4⟩ := h2.at_
  refine ⟨by rw [List.length_cons, List.length_cons, h3], fun i k' z => ?_⟩
  cases i with
  | zero => simp at z; subst z; exact ⟨e, t, rfl, ht⟩
  | succ i => obtain ⟨en, t', a, b⟩ := h4 i k' (by simpa using z); exact ⟨en, t', by simpa using a, b⟩
 | [], _ :: _, h => h.elim
 | _ :: _, [], h => h.elim
section
variable {X : Cx} {T : List (Addr × Str)} {tg e w : Expr} {es : List Expr} {td : TE} {tw : TEp} {ta : TAp} {d : Addr} {ents : Array DictEntry} {n k i : Nat} {ks : List Str} {S x : Str} {p p1 p2 p3 p4 p5 p6 p7 pos : Pos}
structure HeldS (X : Cx) (k : Nat) (f : Addr) (sp : Sp) : Prop where
 ex : ∃ (fd : FuncData) (ps : List Str), FnOk X.prog X.w X.K X.mg X.base CX0 k f fd ps sp ∧ PySem.W.keepIn X.K (.ref f) = true ∧ Binds X.K fd ps []
end
end Z
namespace Z
open PySem PySem.Spec L2
open PyProof.Rows hiding St
end Z
namespace Z
open PySem PySem.Spec L2 GenW
open PyProof.Rows hiding St
section
variable {X : Cx} {T : List (Addr × Str)} {W : WXs} {a b e o : Expr} {es : List Expr} {te ta tb to : TEp} {t : TAp} {pos p apos : Pos} {k : Nat} {f C g : Addr} {fd : FuncData} {ps : List Str} {sp : SpX} {x m : Str}
end
end Z
namespace L2N
open PySem PySem.Spec PyProof.Rows L2
end L2N
namespace ZX
open PySem PySem.Spec PyProof.Rows L2
end ZX
namespace Z
open PySem PySem.Spec L2
open PyProof.Rows hiding St
section
variable {X : Cx} {T : List (Addr × Str)} {W : WXs} {a b e o : Expr} {es : List Expr} {te ta tb : TEp} {t : TAp} {tf : TFp} {pos pos' p apos cpos np : Pos} {k : Nat} {f C : Addr} {fd : FuncData} {ps : List Str} {sp : SpX} {sr : SpRX} {x m : Str}
end
structure FunC (K : PySem.W.Frag) (x qual : Str) (st : Stmt) (c f : Addr) (fd : FuncData) : Prop where
 ex : ∃ (oc : Value) (od : Option Addr) (kV doc pm : Value) (an : Option Addr) (ct : Value) (osl : Array (Option Value)),
  fd = PySem.W.fnOf x qual (defArgs st) (defBody st) (defScope st) .none kV doc pm an (.ref c) ct ∧ K.lookup f = some ⟨oc, od, .func fd, osl⟩ ∧ PySem.W.codeIn K (.ref c) qual = true
 kp : PySem.W.keepIn K (.ref f) = true
section
variable {P : Program} {w : World} {K : PySem.W.Frag} {mg : Str → Option Value} {base : Heap} {T : List (Addr × Str)}
theorem FunC.fn {x qual : Str} {st : Stmt} {c f : Addr} {fd : FuncData} (F : FunC K x qual st c f fd) : Fun K x qual st f fd := by
 obtain ⟨oc, od, kV, doc, pm, an, ct, osl, h1, h2, h3⟩ := F.ex
 exact ⟨⟨oc, od, kV, doc, pm, an, .ref c, ct, osl, h1, h2, h3⟩, F.kp⟩
end
def tWkP (te : TEp) : TEp := fun η P => te η fun x η1 => P (wkV x) η1
section
variable {X : Cx} {e : Expr} {T : List (Addr × Str)} {te : TEp}
theorem z_wk (h : PE X e (up X.K T te)) : PE X e (up X.K T (tWkP te)) := by
 refine PE.weak h fun σ H Q q => ?_
 obtain ⟨F, η, P, R, q1, k⟩ := q
 exact ⟨F, η, fun x η1 => P (wkV x) η1, R, q1, fun x η' v H' hx e R' r => k _ _ _ _ hx e R' r.wkV⟩
end
def keyD : Key → PyData
 | .inl i => .int i
 | .inr x => .str x
def toKv : List (Key × PV) → Option (List (PyData × PyData))
 | [] => some []
 | (k, x) :: r => match toD x, toKv r with
  | some d, some ds => some ((keyD k, d) :: ds)
  | _, _ => none
mutual
def toE : PV → Option PyData
 | .non => some .none
 | .bl b => some (.bool b)
 | .int i => some (.int i)
 | .str x => some (.str x)
 | .tup xs => (toEs xs).map .tuple
 | .lst xs => (toEs xs).map .list
 | .pln xs => (toEs xs).map .tuple
 | .dic kvs => (toKv kvs).map .dict
 | .scr _ => none
 | .ins _ _ => none
 | .raw _ => none
 | .exn _ _ _ => none
def toEs : List PV → Option (List PyData)
 | [] => some []
 | x :: xs => match toE x, toEs xs with
  | some d, some ds => some (d :: ds)
  | _, _ => none
end
theorem toEs_cons {x : PV} {xs : List PV} {ds : List PyData} (h : toEs (x :: xs) = some ds) : ∃ d r, ds = d :: r ∧ toE x = some d ∧ toEs xs = some r := by
 unfold toEs at h
 split at h
 ·rename_i d r h1 h2
  cases h
  exact ⟨d, r, rfl, h1, h2⟩
 ·cases h
theorem toKv_cons {k : Key} {x : PV} {xs : List (Key × PV)} {ds : List (PyData × PyData)} (h : toKv ((k, x) :: xs) = some ds) : ∃ d r, ds = (keyD k, d) :: r ∧ toD x = some d ∧ toKv xs = some r := by
 unfold toKv at h
 split at h
 ·rename_i d r h1 h2
  cases h
  exact ⟨d, r, rfl, h1, h2⟩
 ·cases h
mutual
theorem noDict_toD : ∀ (x : PV) (d : PyData), toD x = some d → d.hasDict = false
 | .non, _, e => by unfold toD at e; cases e; simp only [PyData.hasDict]
 | .bl _, _, e => by unfold toD at e; cases e; simp only [PyData.hasDict]
 | .int _, _, e => by unfold toD at e; cases e; simp only [PyData.hasDict]
 | .str _, _, e => by unfold toD at e; cases e; simp only [PyData.hasDict]
 | .tup xs, _, e => by
  unfold toD at e
  obtain ⟨ds, q, rfl⟩ := Option.map_eq_some_iff.mp e
  simp only [PyData.hasDict]; exact noDict_toDs xs ds q
 | .lst xs, _, e => by
  unfold toD at e
  obtain ⟨ds, q, rfl⟩ := Option.map_eq_some_iff.mp e
  simp only [PyData.hasDict]; exact noDict_toDs xs ds q
 | .pln xs, _, e => by
  unfold toD at e
  obtain ⟨ds, q, rfl⟩ := Option.map_eq_some_iff.mp e
  simp only [PyData.hasDict]; exact noDict_toDs xs ds q
 | .scr _, _, e => by unfold toD at e; cases e
 | .ins _ _, _, e => by unfold toD at e; cases e
 | .dic _, _, e => by unfold toD at e; cases e
 | .raw _, _, e => by unfold toD at e; cases e
 | .exn _ _ _, _, e => by unfold toD at e; cases e
theorem noDict_toDs : ∀ (xs : List PV) (ds : List PyData), toDs xs = some ds → PyData.hasDictAll ds = false
 | [], _, e => by unfold toDs at e; cases e; simp only [PyData.hasDictAll]
 | x :: xs, _, e => by
  obtain ⟨d, ds, rfl, h1, h2⟩ := toDs_cons e
  simp only [PyData.hasDictAll, noDict_toD x d h1, noDict_toDs xs ds h2, Bool.or_self]
end
structure Shown (P : Program) (w : World) (h : Heap) (u : Value) (d : PyData) : Prop where
 ex : ∃ as bs, Reads h u d as ∧ ReadAtMost h d.depth bs ∧ ReprK P w bs h d.depth u d.shown
structure ShownAll (P : Program) (w : World) (h : Heap) (us : List Value) (ds : List PyData) : Prop where
 ex : ∃ as bs, ReadsAll h us ds as ∧ ReadAtMost h (PyData.depthAll ds) bs ∧ ReprAllK P w bs h (PyData.depthAll ds) us (PyData.shownAll ds)
section
variable {P : Program} {w : World} {h : Heap}
theorem shown_flat {u : Value} {d : PyData} {as : List Addr} (r : Reads h u d as) (hd : d.hasDict = false) (hs : d.showable = true) (hz : d.shown.length ≤ sizeLine) : Shown P w h u d :=
 let ⟨bs, b1, b2⟩ := ReprK.of_reads (prog := P) (w := w) r hs (PyData.noDict_hsm hd) hz
 ⟨as, bs, r, b1, b2⟩
theorem ShownAll.cons {u : Value} {us : List Value} {d : PyData} {ds : List PyData} (a : Shown P w h u d) (b : ShownAll P w h us ds) : ShownAll P w h (u :: us) (d :: ds) := by
 obtain ⟨as, bs, r1, m1, k1⟩ := a.ex
 obtain ⟨cs, es, r2, m2, k2⟩ := b.ex
 have l1 : d.depth ≤ PyData.depthAll (d :: ds) := by simp only [PyData.depthAll]; omega
 have l2 : PyData.depthAll ds ≤ PyData.depthAll (d :: ds) := by simp only [PyData.depthAll]; omega
 refine ⟨as ++ cs, bs ++ es, .cons r1 r2, (m1.mono l1).append (m2.mono l2), ?_⟩
 rw [PyData.shownAll]
 exact .cons ((k1.more fun b z => List.mem_append.mpr (.inl z)).level_le l1) (k2.more_le (fun b z => List.mem_append.mpr (.inr z)) l2)
theorem shown_list {a : Addr} {o : Obj} {vs : List Value} {n : Nat} {ds : List PyData} (ho : h.get? a = some o) (hc : o.cls = .type "list") (hd : o.data = .seq vs.toArray n) (q : ShownAll P w h vs ds) : Shown P w h (.ref a) (.list ds) := by
 obtain ⟨as, bs, r, m, k⟩ := q.ex
 have rr : Reads h (.ref a) (.list ds) (a :: as) := .list ho hc hd r
 have lt : PyData.depthAll ds < (PyData.list ds).depth := by simp only [PyData.depth]; omega
 have nin := not_mem_of_deeper rr lt m
 refine ⟨_, a :: bs, rr, ReadAtMost.cons rr (Nat.le_of_lt lt) m, ?_⟩
 rw [PyData.depth, PyData.shown]
 cases vs with
 | nil =>
  cases r
  rw [PyData.shownAll, listText_nil]
  exact ReprK.listEmpty ho hc hd
 | cons v vs => exact ReprK.list ho hc hd nin (by rw [k.length_eq]; rfl) fun i y e => k.item i y (by simpa using e)
theorem shown_tup {a : Addr} {o : Obj} {vs : List Value} {n : Nat} {ds : List PyData} (ho : h.get? a = some o) (hc : o.cls = .type "tuple") (hd : o.data = .seq vs.toArray n) (q : ShownAll P w h vs ds) : Shown P w h (.ref a) (.tuple ds) := by
 obtain ⟨as, bs, r, m, k⟩ := q.ex
 have rr : Reads h (.ref a) (.tuple ds) as := .tuple ho hc hd r
 have lt : PyData.depthAll ds < (PyData.tuple ds).depth := by simp only [PyData.depth]; omega
 have nin := not_mem_of_deeper rr lt m
 refine ⟨_, a :: bs, rr, ReadAtMost.cons rr (Nat.le_of_lt lt) m, ?_⟩
 rw [PyData.depth, PyData.shown]
 exact ReprK.tuple ho hc hd nin k
end
structure DShow (P : Program) (w : World) (h : Heap) (es : List DictEntry) (kvs : List (PyData × PyData)) : Prop where
 ex : ∃ as bs cs, ReadsAll h (es.map (·.key)) (kvs.map (·.1)) as ∧ ReadsAll h (es.map (·.val)) (kvs.map (·.2)) bs ∧ ReadAtMost h (PyData.depthKv kvs) cs ∧ ReprEntriesK P w cs h (PyData.depthKv kvs) es (PyData.shownKv kvs)
section
variable {X : Cx} {pins : List (Addr × Obj)} {σ : L2.St} {H : Hp} {s : Shared} {O : Addr → Prop}
theorem kv_reads (I : Inv X pins σ H s) : ∀ {kvs : List (Key × PV)} {ws : List (Key × V)} {vs : List (Key × Value)} {es : List DictEntry} {ds : List (PyData × PyData)}, RepD X.K O H kvs ws → KV ws vs → Pairs (mixKind X.prog X.w) es vs → toKv kvs = some ds →
  ∃ as bs, ReadsAll s.heap (es.map (·.key)) (ds.map (·.1)) as ∧ ReadsAll s.heap (es.map (·.val)) (ds.map (·.2)) bs ∧ PyData.hasDictAll (ds.map (·.1)) = false ∧ PyData.hasDictAll (ds.map (·.2)) = false
 | [], _, _, _, _, r, k, p, e => by
  rw [r.inv0] at k
  cases k
  cases p
  unfold toKv at e
  cases e
  exact ⟨[], [], .nil, .nil, by simp only [List.map_nil, PyData.hasDictAll], by simp only [List.map_nil, PyData.hasDictAll]⟩
 | (n, x) :: kvs, _, _, _, _, r, k, p, e => by
  obtain ⟨v, us, rfl, r1, r2⟩ := r.inv
  obtain ⟨d, ds, rfl, h1, h2⟩ := toKv_cons e
  cases k with
  | cons hk k2 =>
   rename_i q vs
   cases p with
   | cons pk pv p2 =>
    rename_i en es
    obtain ⟨as, bs, q1, q2, q3, q4⟩ := kv_reads I r2 k2 p2 h2
    obtain ⟨cs, rd⟩ := Dp.reads I d v q.2 (Rep.dp _ _ _ r1 h1) hk.2
    have rk : Reads s.heap en.key (keyD n) [] := by
     have e1 : q.1 = n := hk.1.symm
     rw [e1] at pk
     rcases keyIs_shape pk with ⟨i, t, rfl, e2⟩ | ⟨y, t, rfl, e2⟩
     ·rw [e2]; exact .int _ _
     ·rw [e2]; exact .str _ _
    have nk : (keyD n).hasDict = false := by cases n <;> simp only [keyD, PyData.hasDict]
    refine ⟨_, _, ReadsAll.cons rk q1, ReadsAll.cons (by show Reads _ en.val _ _; rw [pv]; exact rd) q2, ?_, ?_⟩
    ·simp only [List.map_cons, PyData.hasDictAll, nk, q3, Bool.or_self]
    ·simp only [List.map_cons, PyData.hasDictAll, noDict_toD x d h1, q4, Bool.or_self]
theorem dshow (I : Inv X pins σ H s) {kvs : List (Key × PV)} {ws : List (Key × V)} {vs : List (Key × Value)} {es : List DictEntry} {ds : List (PyData × PyData)} (r : RepD X.K O H kvs ws) (k : KV ws vs) (p : Pairs (mixKind X.prog X.w) es vs) (e : toKv kvs = some ds)
  (hs : PyData.showableKv ds = true) (hz : (dictText (PyData.shownKv ds)).length ≤ sizeLine) : DShow X.prog X.w s.heap es ds := by
 obtain ⟨as, bs, r1, r2, n1, n2⟩ := kv_reads I r k p e
 obtain ⟨s1, s2⟩ := PyData.showableKv_split ds hs
 have z1 : ∀ t ∈ PyData.shownAll (ds.map (·.1)), t.length ≤ sizeLine := fun t ht => by
  obtain ⟨p, hp, hl⟩ := PyData.shownKv_key_le ds t ht
  exact Nat.le_trans hl (Nat.le_trans (dictText_mem_le hp) hz)
 have z2 : ∀ t ∈ PyData.shownAll (ds.map (·.2)), t.length ≤ sizeLine := fun t ht => by
  obtain ⟨p, hp, hl⟩ := PyData.shownKv_val_le ds t ht
  exact Nat.le_trans hl (Nat.le_trans (dictText_mem_le hp) hz)
 obtain ⟨b1, m1, k1⟩ := ReprAllK.of_readsAll (prog := X.prog) (w := X.w) r1 s1 (fun z => by rw [n1] at z; cases z) z1
 obtain ⟨b2, m2, k2⟩ := ReprAllK.of_readsAll (prog := X.prog) (w := X.w) r2 s2 (fun z => by rw [n2] at z; cases z) z2
 refine ⟨as, bs, b1 ++ b2, r1, r2, (m1.mono (PyData.depthAll_keys_le ds)).append (m2.mono (PyData.depthAll_vals_le ds)), ?_⟩
 rw [PyData.shownKv_eq]
 exact ReprEntriesK.of_two es _ _ (k1.more_le (fun b z => List.mem_append.mpr (.inl z)) (PyData.depthAll_keys_le ds)) (k2.more_le (fun b z => List.mem_append.mpr (.inr z)) (PyData.depthAll_vals_le ds))
theorem dic_obj (I : Inv X pins σ H s) {kvs : List (Key × PV)} {v : V} {u : Value} {ds : List (PyData × PyData)} (r : Rep X.K O H (.dic kvs) v) (ru : RelV v u) (e : toKv kvs = some ds) (hs : PyData.showableKv ds = true) (hz : (dictText (PyData.shownKv ds)).length ≤ sizeLine) :
  ∃ (a : Addr) (o : Obj) (es : Array DictEntry) (n : Nat), u = .ref a ∧ s.heap.get? a = some o ∧ o.cls = .type "dict" ∧ o.data = .dict es n ∧ (a == sysModules) = false ∧ DShow X.prog X.w s.heap es.toList ds := by
 obtain ⟨a, ws, rfl, _, ha, rd⟩ := r.dic_
 cases ru
 obtain ⟨_, hsys, vs, kv, o, es, ep, ho, hc, hd, _, hp, _⟩ := I.hok a _ ha
 exact ⟨a, o, es, ep, rfl, ho, hc.1, hd, hsys, dshow I rd kv hp e hs hz⟩
mutual
theorem Rep.shown (I : Inv X pins σ H s) : ∀ (x : PV) (v : V) (u : Value) (d : PyData), Rep X.K O H x v → RelV v u → toE x = some d → d.showable = true → d.shown.length ≤ sizeLine → Shown X.prog X.w s.heap u d
 | .non, v, u, _, r, ru, e, hs, hz => by
  unfold toE at e; cases e
  obtain ⟨as, rd⟩ := Dp.reads I _ v u (Rep.dp _ _ _ r (by unfold toD; rfl)) ru
  exact shown_flat rd (by simp only [PyData.hasDict]) hs hz
 | .bl _, v, u, _, r, ru, e, hs, hz => by
  unfold toE at e; cases e
  obtain ⟨as, rd⟩ := Dp.reads I _ v u (Rep.dp _ _ _ r (by unfold toD; rfl)) ru
  exact shown_flat rd (by simp only [PyData.hasDict]) hs hz
 | .int _, v, u, _, r, ru, e, hs, hz => by
  unfold toE at e; cases e
  obtain ⟨as, rd⟩ := Dp.reads I _ v u (Rep.dp _ _ _ r (by unfold toD; rfl)) ru
  exact shown_flat rd (by simp only [PyData.hasDict]) hs hz
 | .str _, v, u, _, r, ru, e, hs, hz => by
  unfold toE at e; cases e
  obtain ⟨as, rd⟩ := Dp.reads I _ v u (Rep.dp _ _ _ r (by unfold toD; rfl)) ru
  exact shown_flat rd (by simp only [PyData.hasDict]) hs hz
 | .lst xs, v, u, _, r, ru, e, hs, hz => by
  unfold toE at e
  obtain ⟨ds, q, rfl⟩ := Option.map_eq_some_iff.mp e
  obtain ⟨a, vs, rfl, n, t, rr⟩ := r.lst_
  cases ru
  obtain ⟨its, rv, ⟨o, n', ho, hc, _, hd⟩, _⟩ := I.list (SqL.of t)
  rw [PyData.shown] at hz
  exact shown_list ho hc hd (Reps.shown I xs vs its ds rr rv q (by simpa [PyData.showable] using hs) fun t ht => Nat.le_trans (listText_mem_le ht) hz)
 | .tup xs, v, u, _, r, ru, e, hs, hz => by
  unfold toE at e
  obtain ⟨ds, q, rfl⟩ := Option.map_eq_some_iff.mp e
  obtain ⟨a, vs, rfl, t, rr⟩ := r.tup_
  cases ru
  obtain ⟨its, rv, ⟨o, ho, hc, n', hd⟩, _⟩ := I.tuple t.sq
  rw [PyData.shown] at hz
  exact shown_tup ho hc hd (Reps.shown I xs vs its ds rr rv q (by simpa [PyData.showable] using hs) fun t ht => Nat.le_trans (tupleText_mem_le ht) hz)
 | .pln xs, v, u, _, r, ru, e, hs, hz => by
  unfold toE at e
  obtain ⟨ds, q, rfl⟩ := Option.map_eq_some_iff.mp e
  have h' := r.wkV
  unfold wkV at h'
  obtain ⟨a, vs, rfl, t, rr⟩ := h'.tup_
  cases ru
  obtain ⟨its, rv, ⟨o, ho, hc, n', hd⟩, _⟩ := I.tuple t.sq
  rw [PyData.shown] at hz
  exact shown_tup ho hc hd (Reps.shown I xs vs its ds rr rv q (by simpa [PyData.showable] using hs) fun t ht => Nat.le_trans (tupleText_mem_le ht) hz)
 | .dic kvs, v, u, _, r, ru, e, hs, hz => by
  unfold toE at e
  obtain ⟨ds, q, rfl⟩ := Option.map_eq_some_iff.mp e
  rw [PyData.shown] at hz
  obtain ⟨a, o, es, n, rfl, ho, hc, hd, hsys, ⟨as, bs, cs, r1, r2, m, k⟩⟩ := dic_obj I r ru q (by simpa [PyData.showable] using hs) hz
  have rr : Reads s.heap (.ref a) (.dict ds) _ := .dict ho hc hd r1 r2
  have lt : PyData.depthKv ds < (PyData.dict ds).depth := by simp only [PyData.depth]; omega
  refine ⟨_, a :: cs, rr, ReadAtMost.cons rr (Nat.le_of_lt lt) m, ?_⟩
  rw [PyData.depth, PyData.shown]
  exact ReprK.dict ho hc hd hsys (not_mem_of_deeper rr lt m) k
 | .scr _, _, _, _, _, _, e, _, _ => by unfold toE at e; cases e
 | .ins _ _, _, _, _, _, _, e, _, _ => by unfold toE at e; cases e
 | .raw _, _, _, _, _, _, e, _, _ => by unfold toE at e; cases e
 | .exn _ _ _, _, _, _, _, _, e, _, _ => by unfold toE at e; cases e
theorem Reps.shown (I : Inv X pins σ H s) : ∀ (xs : List PV) (vs : List V) (us : List Value) (ds : List PyData), Reps X.K O H xs vs → Vals vs us → toEs xs = some ds → PyData.showableAll ds = true → (∀ t ∈ PyData.shownAll ds, t.length ≤ sizeLine) → ShownAll X.prog X.w s.heap us ds
 | [], _, _, _, r, ru, e, _, _ => by
  rw [r.inv0] at ru
  cases ru
  unfold toEs at e; cases e
  exact ⟨[], [], .nil, (fun _ z => nomatch z), by rw [PyData.shownAll]; exact .nil⟩
 | x :: xs, _, _, _, r, ru, e, hs, hz => by
  obtain ⟨v, vs, rfl, r1, r2⟩ := r.inv
  obtain ⟨d, ds, rfl, h1, h2⟩ := toEs_cons e
  cases ru with
  | cons u1 u2 =>
   have hs' : d.showable = true ∧ PyData.showableAll ds = true := by simpa [PyData.showableAll] using hs
   rw [PyData.shownAll] at hz
   exact ShownAll.cons (Rep.shown I x v _ d r1 u1 h1 hs'.1 (hz _ List.mem_cons_self)) (Reps.shown I xs vs _ ds r2 u2 h2 hs'.2 fun t ht => hz t (List.mem_cons_of_mem _ ht))
end
end
section
variable {X : Cx}
def rReprE : R1p := fun ps P => match ps with
 | [x] => ∃ d, toE x = some d ∧ d.showable = true ∧ d.depth ≤ 60 ∧ d.shown.length ≤ sizeLine ∧ P (.str d.shown)
 | _ => False
theorem zc_reprE (hg : X.A.guards = some []) (hu : X.A.units + 64 < cLine) : CallR X (.builtin "repr") (r1 X.K rReprE) := by
 intro pins s σ H xs us Q I r h
 obtain ⟨O, ps, P, tr, hx, h, k⟩ := h
 unfold rReprE at h
 split at h
 case h_2 => cases h
 rename_i x
 obtain ⟨d, h1, h2, h4, h5, h⟩ := h
 obtain ⟨v, rfl, rp⟩ := hx.one
 obtain ⟨u, rfl, ru⟩ := vals1 r
 have q : Q (.str d.shown) H := k.str h
 have fin : ∀ h' tk tk', (∀ b o, s.heap.get? b = some o → h'.get? b = some o) → EP X pins σ Q (.str d.shown tk) { s with heap := h', toks := tk' } := fun h' tk tk' kp => ⟨.str d.shown, H, I.kept kp, ⟨_, rfl⟩, q⟩
 have flat : toD x = some d → d.hasDict = false → wpAny (model X.prog X.w) X.A (call (.builtin "repr") [u]) (EP X pins σ Q) X.xe s := fun td hn =>
  zc_repr hg hu pins s σ H [v] [u] Q I r ⟨O, [x], P, tr, hx, ⟨d, td, h2, hn, h4, h5, h⟩, k⟩
 cases x with
 | non => unfold toE at h1; cases h1; exact flat (by unfold toD; rfl) (by simp only [PyData.hasDict])
 | bl b => unfold toE at h1; cases h1; exact flat (by unfold toD; rfl) (by simp only [PyData.hasDict])
 | int b => unfold toE at h1; cases h1; exact flat (by unfold toD; rfl) (by simp only [PyData.hasDict])
 | str b => unfold toE at h1; cases h1; exact flat (by unfold toD; rfl) (by simp only [PyData.hasDict])
 | lst xs =>
  unfold toE at h1
  obtain ⟨ds, q1, rfl⟩ := Option.map_eq_some_iff.mp h1
  obtain ⟨a, vs, rfl, n, t, rr⟩ := rp.lst_
  cases ru
  obtain ⟨its, rv, ⟨o, n', ho, hc, _, hd⟩, _⟩ := I.list (SqL.of t)
  rw [PyData.shown] at h5
  simp only [PyData.shown] at fin
  rw [PyData.depth] at h4
  have sa := Reps.shown I xs vs its ds rr rv q1 (by simpa [PyData.showable] using h2) fun t ht => Nat.le_trans (listText_mem_le ht) h5
  obtain ⟨as, bs, r2, m, kk⟩ := sa.ex
  have rr2 : Reads s.heap (.ref a) (.list ds) (a :: as) := .list ho hc hd r2
  have lt : PyData.depthAll ds < (PyData.list ds).depth := by simp only [PyData.depth]; omega
  have nin := not_mem_of_deeper rr2 lt m
  refine call_repr_slot (by omega) ⟨o, ho, hc⟩ F.slot_list_repr.toG ?_
  cases its with
  | nil =>
   cases r2
   simp only [PyData.shownAll, listText_nil] at fin
   exact call_list_repr_empty ⟨o, ho, hc⟩ ho hd ⟨_, _, rfl, fin s.heap _ _ fun _ _ e => e⟩
  | cons y l =>
   exact call_list_reprK (A := X.A.in1) ho hc hd nin (by rw [kk.length_eq]; rfl) (fun i y e => kk.item i y (by simpa using e)) hg (fun b _ => Clear.nil b) (by show X.A.units + 1 + _ < cLine; omega) (fun _ _ e => e) (fun h' u tk hk => ⟨_, _, rfl, fin h' _ _ hk⟩) h5
 | tup xs =>
  unfold toE at h1
  obtain ⟨ds, q1, rfl⟩ := Option.map_eq_some_iff.mp h1
  obtain ⟨a, vs, rfl, t, rr⟩ := rp.tup_
  cases ru
  obtain ⟨its, rv, ⟨o, ho, hc, n', hd⟩, _⟩ := I.tuple t.sq
  rw [PyData.shown] at h5
  simp only [PyData.shown] at fin
  rw [PyData.depth] at h4
  have sa := Reps.shown I xs vs its ds rr rv q1 (by simpa [PyData.showable] using h2) fun t ht => Nat.le_trans (tupleText_mem_le ht) h5
  obtain ⟨as, bs, r2, m, kk⟩ := sa.ex
  have rr2 : Reads s.heap (.ref a) (.tuple ds) as := .tuple ho hc hd r2
  have lt : PyData.depthAll ds < (PyData.tuple ds).depth := by simp only [PyData.depth]; omega
  refine call_repr_slot (by omega) ⟨o, ho, hc⟩ F.slot_tuple_repr ?_
  exact call_tuple_reprK (A := X.A.in1) ho hc hd (not_mem_of_deeper rr2 lt m) kk hg (fun b _ => Clear.nil b) (by show X.A.units + 1 + _ < cLine; omega) (fun _ _ e => e) (fun h' u tk hk => ⟨_, _, rfl, fin h' _ _ hk⟩) h5
 | pln xs =>
  unfold toE at h1
  obtain ⟨ds, q1, rfl⟩ := Option.map_eq_some_iff.mp h1
  have h' := rp.wkV
  unfold wkV at h'
  obtain ⟨a, vs, rfl, t, rr⟩ := h'.tup_
  cases ru
  obtain ⟨its, rv, ⟨o, ho, hc, n', hd⟩, _⟩ := I.tuple t.sq
  rw [PyData.shown] at h5
  simp only [PyData.shown] at fin
  rw [PyData.depth] at h4
  have sa := Reps.shown I xs vs its ds rr rv q1 (by simpa [PyData.showable] using h2) fun t ht => Nat.le_trans (tupleText_mem_le ht) h5
  obtain ⟨as, bs, r2, m, kk⟩ := sa.ex
  have rr2 : Reads s.heap (.ref a) (.tuple ds) as := .tuple ho hc hd r2
  have lt : PyData.depthAll ds < (PyData.tuple ds).depth := by simp only [PyData.depth]; omega
  refine call_repr_slot (by omega) ⟨o, ho, hc⟩ F.slot_tuple_repr ?_
  exact call_tuple_reprK (A := X.A.in1) ho hc hd (not_mem_of_deeper rr2 lt m) kk hg (fun b _ => Clear.nil b) (by show X.A.units + 1 + _ < cLine; omega) (fun _ _ e => e) (fun h' u tk hk => ⟨_, _, rfl, fin h' _ _ hk⟩) h5
 | dic kvs =>
  unfold toE at h1
  obtain ⟨ds, q1, rfl⟩ := Option.map_eq_some_iff.mp h1
  rw [PyData.shown] at h5
  simp only [PyData.shown] at fin
  rw [PyData.depth] at h4
  obtain ⟨a, o, es, n, rfl, ho, hc, hd, hsys, ⟨as, bs, cs, r1, r2, m, kk⟩⟩ := dic_obj I rp ru q1 (by simpa [PyData.showable] using h2) h5
  have rr2 : Reads s.heap (.ref a) (.dict ds) _ := .dict ho hc hd r1 r2
  have lt : PyData.depthKv ds < (PyData.dict ds).depth := by simp only [PyData.depth]; omega
  refine call_repr_slot (by omega) ⟨o, ho, hc⟩ F.slot_dict_repr ?_
  exact call_dict_reprK (A := X.A.in1) ho hc hd hsys (not_mem_of_deeper rr2 lt m) kk hg (fun b _ => Clear.nil b) (by show X.A.units + 1 + _ < cLine; omega) (fun _ _ e => e) (fun h' u tk hk => ⟨_, _, rfl, fin h' _ _ hk⟩) h5
 | scr _ => unfold toE at h1; cases h1
 | ins _ _ => unfold toE at h1; cases h1
 | raw _ => unfold toE at h1; cases h1
 | exn _ _ _ => unfold toE at h1; cases h1
end
section
variable {prog : Program} {w : World} {A : Around} {E : Value → Shared → Prop} {s : Shared}
theorem dict_ne_str {a : Addr} {o : Obj} {b : Str} {u : Tok} {Q : Value → Shared → Prop} (ho : s.heap.get? a = some o) (hc : o.ExactDict) (hu : A.units < cLine) (hd : ∃ es ep, o.data = .dict es ep) (h : Q (.bool true) s) : wpAny (model prog w) A (compareOp .NotEq (.ref a) (.str b u)) Q E s := by
 have ty : s.TypeIs (.ref a) "dict" := ⟨o, ho, hc.1⟩
 refine SeqAt.rc_ne_decline_or (k := false) ty (typeIs_str s b u) (by decide) F.sub_str_dict F.slot_dict_ne F.slot_str_ne_refl (fun Q' hq => ?_) (fun Q' hq => ?_) (fun Q' hq => wpAny_of_eq (rfl : isSame (.ref a) (.str b u) = pure false) hq) (.inr hu) h
 ·refine wpAny_call_entry F.slot_dict_ne ty F.entry_dict_ne ?_ (F.args_dict_ne_2 _ _)
  show wpAny _ _ (Builtin.Dict.dictSlotArgs "__ne__" ⟨[.ref a, .str b u], []⟩ >>= _) _ _ s
  refine wpAny_bind ?_
  unfold Builtin.Dict.dictSlotArgs
  refine wpAny_bind (wpAny_notOrdered_dict ty ?_)
  show wpAny _ _ (pure (Value.ref a, Value.str b u)) _ _ s
  refine wpAny_pure ?_
  refine wpAny_bind (wpAny_isInstance (T := "str") (typeIs_str s b u) F.sub_str_dict ?_)
  simp only [Bool.not_false, if_true]
  refine wpAny_bind (wpAny_rule (wpAny_bind (wpAny_pure ?_)))
  exact wpAny_pure ⟨_, rfl, hq⟩
 ·obtain ⟨es, ep, hd⟩ := hd
  obtain ⟨cls, dd, dat, sl⟩ := o
  subst hd
  refine call_meets F.slot_str_ne_refl (typeIs_str s b u) F.entry_str_ne (F.args_str_ne_2 _ _) (S := fun _ R s => s.heap.get? a = some ⟨cls, dd, .dict es ep, sl⟩ ∧ R (.ok (.ret .notImplemented)) s)
   (.of_wp fun prog w A R s h => by
    obtain ⟨hp, g, d, tk, os⟩ := s
    obtain ⟨hl, h⟩ := h
    wp_walk using AutoSeq1.wpAny_loadPart' hl, wpAny_load hl
    exact ⟨_, rfl, h⟩) ⟨ho, hq⟩
end
def rNeDS : R2p := fun x y P => match x, y with
 | .dic _, .str _ => P (.bl true)
 | _, _ => False
section
variable {X : Cx}
theorem zo_neDS (hu : X.A.units < cLine) : OpR X (compareOp .NotEq) (r2 X.K rNeDS) := by
 intro pins s σ H x y v u Q I rx ry h
 obtain ⟨O, px, py, P, tr, hx, hy, h, k⟩ := h
 unfold rNeDS at h
 split at h
 ·obtain ⟨a, ws, rfl, n, q, rr⟩ := hx.dic_
  have e := hy.str_
  subst e
  obtain rfl : v = Value.ref a := rx
  obtain ⟨t, rfl⟩ := ry
  obtain ⟨_, _, vs, _, o, es, ep, ho, hc, hd, _⟩ := I.hok a _ q
  exact dict_ne_str ho hc hu ⟨es, ep, hd⟩ ⟨.bl true, H, I, rfl, k.bl h⟩
 ·cases h
end
section
variable {X : Cx} {T : List (Addr × Str)} {e : Expr} {t1 t2 : TTp}
def tEitT (t1 t2 : TTp) : TTp := fun η Q => t1 η Q ∨ t2 η Q
theorem zt_eit (h1 : PT X e (upB X.K T t1)) (h2 : PT X e (upB X.K T t2)) : PT X e (upB X.K T (tEitT t1 t2)) := ⟨fun pins s σ H Q I q => by
 obtain ⟨F, η, P, R, h, k⟩ := q
 rcases h with h | h
 ·exact h1.run pins s σ H Q I ⟨F, η, P, R, h, k⟩
 ·exact h2.run pins s σ H Q I ⟨F, η, P, R, h, k⟩⟩
end
structure ShE (x : PV) (m k : Nat) : Prop where
 ex : ∃ d, toE x = some d ∧ d.showable = true ∧ d.leavesShort 61 = true ∧ d.bulk ≤ m ∧ d.depth ≤ k
structure ShEs (xs : List PV) (m k : Nat) : Prop where
 ex : ∃ ds, toEs xs = some ds ∧ PyData.showableAll ds = true ∧ PyData.leavesShortAll 61 ds = true ∧ PyData.bulkAll ds ≤ m ∧ PyData.depthAll ds ≤ k
theorem ShE.mono {x : PV} {m k m' k' : Nat} (h : ShE x m k) (hm : m ≤ m') (hk : k ≤ k') : ShE x m' k' := by
 obtain ⟨d, h1, h2, h3, h4, h5⟩ := h.ex
 exact ⟨d, h1, h2, h3, by omega, by omega⟩
theorem she_non : ShE .non 0 0 := ⟨.none, rfl, rfl, rfl, Nat.le_refl _, Nat.le_refl _⟩
theorem she_bl (b : Bool) : ShE (.bl b) 0 0 := ⟨.bool b, rfl, rfl, rfl, Nat.le_refl _, Nat.le_refl _⟩
theorem she_int {i : Int} (h0 : 0 ≤ i) (h : i < 10 ^ 60) : ShE (.int i) 0 0 :=
 ⟨.int i, rfl, by rw [PyData.showable]; exact decide_eq_true (log_of60 h0 h), leavesI h0 h, Nat.le_refl _, Nat.le_refl _⟩
theorem she_m1 : ShE (.int (-1)) 0 0 := ⟨.int (-1), rfl, by decide +kernel, by decide +kernel, Nat.le_refl _, Nat.le_refl _⟩
theorem she_str {z : Str} {m : Nat} (h : ∀ c ∈ z.cps.toList, c < 16 ^ 8) (hl : z.length ≤ m) : ShE (.str z) m 0 :=
 ⟨.str z, rfl, rfl, by rw [PyData.leavesShort]; exact List.all_eq_true.mpr fun c hc => decide_eq_true (h c hc), by rw [PyData.bulk]; exact hl, Nat.le_refl _⟩
theorem shes_of {m k : Nat} : ∀ {xs : List PV} {l : Nat}, (∀ x ∈ xs, ShE x m k) → xs.length ≤ l → ShEs xs (l * (m + 1)) k
 | [], l, _, _ => ⟨[], rfl, rfl, rfl, by rw [PyData.bulkAll]; omega, by rw [PyData.depthAll]; omega⟩
 | x :: xs, l, h, hl => by
  obtain ⟨d, a1, a2, a3, a4, a5⟩ := (h x List.mem_cons_self).ex
  rw [List.length_cons] at hl
  obtain ⟨l', rfl⟩ : ∃ l', l = l' + 1 := ⟨l - 1, by omega⟩
  obtain ⟨ds, b1, b2, b3, b4, b5⟩ := (shes_of (l := l') (fun y hy => h y (List.mem_cons_of_mem _ hy)) (by omega)).ex
  refine ⟨d :: ds, by rw [toEs, a1, b1], by rw [PyData.showableAll, a2, b2]; rfl, by rw [PyData.leavesShortAll, a3, b3]; rfl, ?_, by rw [PyData.depthAll]; omega⟩
  rw [PyData.bulkAll]
  have : (l' + 1) * (m + 1) = l' * (m + 1) + (m + 1) := by rw [Nat.add_mul, Nat.one_mul]
  omega
theorem she_tup {xs : List PV} {m k l : Nat} (h : ∀ x ∈ xs, ShE x m k) (hl : xs.length ≤ l) : ShE (.tup xs) (l * (m + 1)) (k + 1) := by
 obtain ⟨ds, b1, b2, b3, b4, b5⟩ := (shes_of h hl).ex
 exact ⟨.tuple ds, by rw [toE, b1]; rfl, by rw [PyData.showable]; exact b2, by rw [PyData.leavesShort]; exact b3, by rw [PyData.bulk]; exact b4, by rw [PyData.depth]; omega⟩
theorem she_lst {xs : List PV} {m k l : Nat} (h : ∀ x ∈ xs, ShE x m k) (hl : xs.length ≤ l) : ShE (.lst xs) (l * (m + 1)) (k + 1) := by
 obtain ⟨ds, b1, b2, b3, b4, b5⟩ := (shes_of h hl).ex
 exact ⟨.list ds, by rw [toE, b1]; rfl, by rw [PyData.showable]; exact b2, by rw [PyData.leavesShort]; exact b3, by rw [PyData.bulk]; exact b4, by rw [PyData.depth]; omega⟩
theorem kv_show {m : Nat} : ∀ {kvs : List (Str × Int)} {l : Nat}, (∀ p ∈ kvs, (∀ c ∈ p.1.cps.toList, c < 16 ^ 8) ∧ p.1.length ≤ m ∧ 0 ≤ p.2 ∧ p.2 < 10 ^ 60) → kvs.length ≤ l →
  ∃ ds, toKv (kvs.map fun p => (Sum.inr p.1, PV.int p.2)) = some ds ∧ PyData.showableKv ds = true ∧ PyData.leavesShortKv 61 ds = true ∧ PyData.bulkKv ds ≤ l * (m + 2) ∧ PyData.depthKv ds ≤ 0
 | [], l, _, _ => ⟨[], rfl, rfl, rfl, by rw [PyData.bulkKv]; omega, by rw [PyData.depthKv]; omega⟩
 | p :: kvs, l, h, hl => by
  obtain ⟨a1, a2, a3, a4⟩ := h p List.mem_cons_self
  rw [List.length_cons] at hl
  obtain ⟨l', rfl⟩ : ∃ l', l = l' + 1 := ⟨l - 1, by omega⟩
  obtain ⟨ds, b1, b2, b3, b4, b5⟩ := kv_show (l := l') (fun y hy => h y (List.mem_cons_of_mem _ hy)) (by omega)
  have c1 : PyData.leavesShort 61 (.str p.1) = true := by rw [PyData.leavesShort]; exact List.all_eq_true.mpr fun c hc => decide_eq_true (a1 c hc)
  have c2 : PyData.showable (.int p.2) = true := by rw [PyData.showable]; exact decide_eq_true (log_of60 a3 a4)
  refine ⟨(.str p.1, .int p.2) :: ds, by rw [List.map_cons, toKv, b1]; rfl, by rw [PyData.showableKv, PyData.showable, c2, b2]; rfl, by rw [PyData.leavesShortKv, c1, leavesI a3 a4, b3]; rfl, ?_, by rw [PyData.depthKv, PyData.depth, PyData.depth]; omega⟩
  rw [PyData.bulkKv, PyData.bulk, PyData.bulk]
  have : (l' + 1) * (m + 2) = l' * (m + 2) + (m + 2) := by rw [Nat.add_mul, Nat.one_mul]
  have a2 : p.1.cps.size ≤ m := a2
  omega
theorem she_dic {kvs : List (Str × Int)} {m l : Nat} (h : ∀ p ∈ kvs, (∀ c ∈ p.1.cps.toList, c < 16 ^ 8) ∧ p.1.length ≤ m ∧ 0 ≤ p.2 ∧ p.2 < 10 ^ 60) (hl : kvs.length ≤ l) : ShE (.dic (kvs.map fun p => (Sum.inr p.1, PV.int p.2))) (l * (m + 2)) 1 := by
 obtain ⟨ds, b1, b2, b3, b4, b5⟩ := kv_show h hl
 exact ⟨.dict ds, by rw [toE, b1]; rfl, by rw [PyData.showable]; exact b2, by rw [PyData.leavesShort]; exact b3, by rw [PyData.bulk]; exact b4, by rw [PyData.depth]; omega⟩
theorem she_dic0 : ShE (.dic []) 0 1 := by
 obtain ⟨d, h⟩ := (she_dic (kvs := []) (m := 0) (l := 0) (fun _ z => (List.not_mem_nil z).elim) (Nat.le_refl _)).ex
 exact ⟨d, h⟩
theorem q_reprE {x : PV} {m k : Nat} {P : PV → Prop} (h : ShE x m k) (hm : 63 * m + 61 ≤ sizeLine) (hk : k ≤ 60) (hp : ∀ d, toE x = some d → P (.str d.shown)) : rReprE [x] P := by
 obtain ⟨d, h1, h2, h3, h4, h5⟩ := h.ex
 refine ⟨d, h1, h2, by omega, ?_, hp d h1⟩
 have := PyData.shown_le_bulk 61 (by decide) d h3
 have e : (61 + 2) * d.bulk ≤ 63 * m := Nat.mul_le_mul_left _ h4
 omega
def wholeL (l : List Int) : Int := l.foldl (fun a x => a * max 0 x) 1
def wholeI (n : Int) (rs : List Trip) : Int := wholeL (sizesI n (queueT rs))
def dicS (sd : List Seat) : List (Key × PV) := sd.map fun x => (Sum.inr x.1.1, PV.int x.2)
def planK (ps : List Pair) : PV := .pln (ps.map pairS)
def seatW (sd : List Seat) (w : Str) : Int := match valP (dicS sd) (.inr w) with
 | some (.int s) => s
 | _ => 0
structure SdOk (n : Int) (sd : List Seat) : Prop where
 n1 : 1 ≤ n
 n2 : n ≤ 20
 w : Rw (sd.map (·.1))
 g : GoodS n sd
def planS (sd : List Seat) : PV := planK (sd.map seatPair)
def sp_law_meet : PrP := fun K C args P => ∃ a b, args = [rowP a, rowP b] ∧ P (.bl (meetB a b))
def SeqR (rs : List Trip) (x : PV) : Prop := x = .lst (rs.map rowP) ∨ x = rowsP rs
def sp_law_loadS : PrP := fun K C args P => ∃ rs x st, args = [x, .int st] ∧ SeqR rs x ∧ rs.length ≤ 24 ∧ P (.int (loadN rs st))
def sp_law_peakS : PrP := fun K C args P => ∃ rs x, args = [x] ∧ SeqR rs x ∧ rs.length ≤ 24 ∧ P (.int (peakI rs))
def sp_law_product : PrP := fun K C args P => ∃ n rs, args = [.int n, rowsP rs] ∧ 1 ≤ n ∧ n ≤ 20 ∧ Rw rs ∧ P (.int (wholeI n rs))
def sp_law_long_case : PrR := fun K C o args P => Pool o ∧ args = [] ∧ ∀ n rs o', Pool o' → 1 ≤ n → n ≤ 20 → Rw rs → Near rs → P (.lst [.int n, rowsP rs]) o'
def sp_law_choices : PrF := fun K C args P => ∃ n rs sd r, args = [.int n, rowsP rs, .dic (dicS sd), rowP r] ∧ 0 ≤ n ∧ n ≤ 20 ∧ Rw rs ∧ (∀ x ∈ sd, x.1 ∈ rs) ∧ (sd.map (·.1)).Nodup ∧ P ((leftL n r sd).map .int)
def sp_law_flat : PrP := fun K C args P => ∃ sd, args = [.dic (dicS sd)] ∧ (sd.map fun x => x.1.1).Nodup ∧ sd.length ≤ 24 ∧ P (planK (planOf sd))
def sp_law_sizes : PrP := fun K C args P => ∃ n rs, args = [.int n, rowsP rs] ∧ 1 ≤ n ∧ n ≤ 20 ∧ Rw rs ∧ P (.lst ((sizesI n (queueT rs)).map fun x => .int (max 0 x)))
def sp_law_spots_at : PrP := fun K C args P => ∃ n rs m, args = [.int n, rowsP rs, .int m] ∧ 1 ≤ n ∧ n ≤ 20 ∧ Rw rs ∧ overR n rs = none ∧ 0 ≤ m ∧ m < 10 ^ 70 ∧ P (planK (planN n rs m))
def KnF (K : PySem.W.Frag) (y : PV) : Prop := KnP K y ∧ ∀ a b, y = .tup [a, b] → (∃ d, toD a = some d ∧ SeqAt.shaped d = true) ∨ ∃ kvs, a = .dic kvs
def FltX (K : PySem.W.Frag) (x : PV) : Prop := Kn K x ∧ ∀ xs, x = .tup xs → xs.length ≤ 200 ∧ ∀ y ∈ xs, KnF K y
def OddP (K : PySem.W.Frag) (x : PV) : Prop := FltX K x ∧ ShE x 30000 8
structure PsOk (ps : List Pair) : Prop where
 l : ps.length ≤ 24
 p : ∀ p ∈ ps, isNm (.str p.1) = true ∧ 1 ≤ p.2 ∧ p.2 ≤ 20
 n : (ps.map (·.1)).Nodup
def sp_law_drawnN : PrR := fun K C o args P => ∃ n rs, Pool o ∧ args = [.int n, rowsP rs] ∧ 1 ≤ n ∧ n ≤ 20 ∧ Rw rs ∧ (overR n rs ≠ none → ∀ o', Pool o' → P .non o') ∧ ∀ sd o', Pool o' → sd.map (·.1) = rs → GoodS n sd → P (planS sd) o'
def sp_law_some_planN : PrR := fun K C o args P => ∃ n rs, Pool o ∧ args = [.int n, rowsP rs] ∧ 1 ≤ n ∧ n ≤ 20 ∧ Rw rs ∧ (overR n rs ≠ none → ∀ o', Pool o' → P .non o') ∧ ∀ sd o', Pool o' → sd.map (·.1) = rs → GoodS n sd → P (planS sd) o'
def sp_law_fault : PrP := fun K C args P => ∃ n rs x, args = [.int n, rowsP rs, x] ∧ 1 ≤ n ∧ n ≤ 20 ∧ Rw rs ∧ FltX K x ∧ (isPlanB n rs x = true → P (.lst [])) ∧ (isPlanB n rs x = false → ∀ v, v = .non ∨ (∃ k : Nat, v = .int (k : Int)) → P (.lst [v]))
def sp_law_no_plan : PrR := fun K C o args P => ∃ n rs ps, Pool o ∧ args = [.int n, rowsP rs, planK ps] ∧ 1 ≤ n ∧ n ≤ 20 ∧ Rw rs ∧ PsOk ps ∧ ∀ y o', Pool o' → OddP K (wkV y) → P y o'
def sp_law_told : PrP := fun K C args P => ∃ n rs x, args = [lineP C n rs, .int n, rowsP rs, x] ∧ ClsT K C ∧ 1 ≤ n ∧ n ≤ 20 ∧ Rw rs ∧ OddP K (wkV x) ∧ P (.bl true)
def sp_law_others : PrR := fun K C o args P => ∃ n rs, Pool o ∧ args = [.int n, rowsP rs] ∧ 1 ≤ n ∧ n ≤ 20 ∧ Rw rs ∧ ∀ (bs : List (Int × List Trip)) o', Pool o' → bs.length = 4 → (∀ b ∈ bs, 1 ≤ b.1 ∧ b.1 ≤ 20 ∧ Rw b.2) → P (.lst (bs.map fun b : Int × List Trip => .lst [.int b.1, rowsP b.2])) o'
def sp_law_right11 : PrR := fun K C o args P => Pool o ∧ args = [] ∧ ClsT K C ∧ ∀ o', Pool o' → P (.bl true) o'
def sp_law : PrP := fun K C args P => ∃ ns : List Int, args = [.scr ns] ∧ ns.length ≤ 63 ∧ ClsT K C ∧ P (.bl true)
def ts_law_meet (K : PySem.W.Frag) (CLine : Addr) : TSp := tRetP (tAndVP (tOpP rLt (tOpP rIxP (tVarP 0) (tConP (.int 1))) (tOpP rIxP (tVarP 1) (tConP (.int 2)))) (tOpP rLt (tOpP rIxP (tVarP 1) (tConP (.int 1))) (tOpP rIxP (tVarP 0) (tConP (.int 2)))))
def ts_law_loadS (K : PySem.W.Frag) (CLine : Addr) : TSp := tRetP (tCBP rLen (tConsP (tValP (tLcP (iSeqP 0) (gNameP 2) (tBlP (tChainP rLe rLt (tOpP rIxP (tVarP 2) (tConP (.int 1))) (tVarP 1) (tOpP rIxP (tVarP 2) (tConP (.int 2))))) (tVarP 2) [2])) (tNilP)))
def ts_law_peakS (K : PySem.W.Frag) (CLine : Addr) : TSp := tRetP (tCBP rMaxL (tConsP (tOpP rAdd (tValP (tLcP (iSeqP 0) (gNameP 1) (tYesP) (tCallP (sp_law_loadS K CLine) [] (tConsP (tVarP 0) (tConsP (tOpP rIxP (tVarP 1) (tConP (.int 1))) (tNilP)))) [1])) (tLstP (tConsP (tConP (.int 0)) (tNilP)))) (tNilP)))
def ts_law_product (K : PySem.W.Frag) (CLine : Addr) : TSp := tSeqP (tAsgP (tTupP (tConsP (tCallP (sp_law_by_start K CLine) [] (tConsP (tVarP 1) (tNilP))) (tConsP (tConP (.int 1)) (tNilP)))) (gTupP 2 (gConsP (gNameP 2) (gConsP (gNameP 3) (gNilP))))) (tSeqP (tForP (iRng1P (tCBP rLen (tConsP (tVarP 2) (tNilP)))) (gNameP 4) (tSetP 3 (tOpP rMulA (tVarP 3) (tCBP rMax2 (tConsP (tConP (.int 0)) (tConsP (tOpP rSub (tVarP 0) (tCBP rLen (tConsP (tValP (tLcP (iListP (tSliceP (tVarP 2) (tNoPartP) (tPartP (tVarP 4)))) (gNameP 5) (tBlP (tCallP (sp_law_meet K CLine) [] (tConsP (tVarP 5) (tConsP (tOpP rIxP (tVarP 2) (tVarP 4)) (tNilP))))) (tVarP 5) [5])) (tNilP)))) (tNilP))))))) (tRetP (tVarP 3)))
def ts_law_long_case (K : PySem.W.Frag) (CLine : Addr) : TSp := tSeqP (tParP [1, 2] (tConsV (tCallRP 0 (sp_law_draw K CLine) (tConsP (tConP (.int 25)) (tNilP))) (tConsV (tOpP rAdd (tConP (.int 1)) (tCallRP 0 (sp_law_draw K CLine) (tConsP (tConP (.int 30)) (tNilP)))) (tNilAr)))) (tSeqP (tSetP 3 (tCallRP 0 (sp_law_rides K CLine) (tConsP (tCallRP 0 (sp_law_words K CLine) (tConsP (tVarP 1) (tNilP))) (tConsP (tVarP 2) (tNilP))))) (tSeqP (tSetP 4 (tOpP rAdd (tCallP (sp_law_peakS K CLine) [] (tConsP (tVarP 3) (tNilP))) (tOpP rIxP (tLstP (tConsP (tConP (.int 0)) (tConsP (tConP (.int 0)) (tConsP (tConP (.int 1)) (tConsP (tConP (.int 3)) (tNilP)))))) (tCallRP 0 (sp_law_draw K CLine) (tConsP (tConP (.int 4)) (tNilP)))))) (tSeqP (tIfSP (tBlP (tOpP (rEqI false) (tCallRP 0 (sp_law_draw K CLine) (tConsP (tConP (.int 6)) (tNilP))) (tConP (.int 0)))) (tSetP 4 (tOpP rAdd (tConP (.int 1)) (tCallRP 0 (sp_law_draw K CLine) (tConsP (tConP (.int 20)) (tNilP))))) (tNextP)) (tRetP (tLstP (tConsP (tCBP rMax2 (tConsP (tConP (.int 1)) (tConsP (tCBP rMin2 (tConsP (tConP (.int 20)) (tConsP (tVarP 4) (tNilP)))) (tNilP)))) (tConsP (tVarP 3) (tNilP))))))))
def ts_law_choices (K : PySem.W.Frag) (CLine : Addr) : TFp := tSeqFP (tSetP 4 (tValP (tLcP (iTupP (tVarP 1)) (gNameP 5) (tAndP (tBlP (tOpP (rInD false) (tOpP rIxP (tVarP 5) (tConP (.int 0))) (tVarP 2))) (tBlP (tCallP (sp_law_meet K CLine) [] (tConsP (tVarP 5) (tConsP (tVarP 3) (tNilP)))))) (tDGetP (tVarP 2) (tOpP rIxP (tVarP 5) (tConP (.int 0)))) [5]))) (tLcP (iRng2P (tConP (.int 1)) (tOpP rAdd (tVarP 0) (tConP (.int 1)))) (gNameP 6) (tBlP (tOpP (rInL true) (tVarP 6) (tVarP 4))) (tVarP 6) [6])
def ts_law_flat (K : PySem.W.Frag) (CLine : Addr) : TSp := tRetP (tCBP rTupleK (tConsP (tValP (tLcP (iListP (tCBP rSortK (tConsP (tVarP 0) (tNilP)))) (gNameP 1) (tYesP) (tTupP (tConsP (tVarP 1) (tConsP (tDGetP (tVarP 0) (tVarP 1)) (tNilP)))) [1])) (tNilP)))
def ts_law_drawnN (K : PySem.W.Frag) (CLine : Addr) : TSp := tSeqP (tSetFDP 3 (tDicFD)) (tSeqP (tForP (iListP (tCallP (sp_law_by_start K CLine) [] (tConsP (tVarP 2) (tNilP)))) (gNameP 4) (tSeqP (tSetP 5 (tValP (tCallFBP (sp_law_choices K CLine) (tConsBv (tVarP 1) (tConsBv (tVarP 2) (tConsBb 3 (tConsBv (tVarP 4) (tNilB)))))))) (tSeqP (tIfSP (tBlP (tOpP (rEqP false) (tVarP 5) (tLstP (tNilP)))) (tRetP (tConP .non)) (tNextP)) (tDPutP 3 (tOpP rIxP (tVarP 4) (tConP (.int 0))) (tOpP rIxP (tVarP 5) (tCallRP 0 (sp_law_draw K CLine) (tConsP (tCBP rLen (tConsP (tVarP 5) (tNilP))) (tNilP)))))))) (tRetP (tCallBP (sp_law_flat K CLine) (tConsBb 3 (tNilB)))))
def ts_law_sizes (K : PySem.W.Frag) (CLine : Addr) : TSp := tSeqP (tSetP 2 (tCallP (sp_law_by_start K CLine) [] (tConsP (tVarP 1) (tNilP)))) (tSeqP (tSetFP 3 (tLstFP (tNilP))) (tSeqP (tForP (iRng1P (tCBP rLen (tConsP (tVarP 2) (tNilP)))) (gNameP 4) (tAppP 3 (tCBP rMax2 (tConsP (tConP (.int 0)) (tConsP (tOpP rSub (tVarP 0) (tCBP rLen (tConsP (tValP (tLcP (iListP (tSliceP (tVarP 2) (tNoPartP) (tPartP (tVarP 4)))) (gNameP 5) (tBlP (tCallP (sp_law_meet K CLine) [] (tConsP (tVarP 5) (tConsP (tOpP rIxP (tVarP 2) (tVarP 4)) (tNilP))))) (tVarP 5) [5])) (tNilP)))) (tNilP)))))) (tRetP (tVarP 3))))
def ts_law_spots_at (K : PySem.W.Frag) (CLine : Addr) : TSp := tSeqP (tParP [3, 4] (tConsF (tLstFP (tNilP)) (tConsFD (tDicFD) (tNilAr)))) (tSeqP (tForP (iListP (tRevLP (tCallP (sp_law_sizes K CLine) [] (tConsP (tVarP 0) (tConsP (tVarP 1) (tNilP)))))) (gNameP 5) (tSeqP (tAsgP (tCBP rDivmodW (tConsP (tVarP 2) (tConsP (tVarP 5) (tNilP)))) (gTupP 2 (gConsP (gNameP 2) (gConsP (gNameP 6) (gNilP))))) (tAppP 3 (tVarP 6)))) (tSeqP (tForP (iZipP (tConsP (tCallP (sp_law_by_start K CLine) [] (tConsP (tVarP 1) (tNilP))) (tConsP (tRevLP (tVarP 3)) (tNilP)))) (gTupP 2 (gConsP (gNameP 7) (gConsP (gNameP 6) (gNilP)))) (tDPutP 4 (tOpP rIxP (tVarP 7) (tConP (.int 0))) (tOpP rIxP (tValP (tCallFBP (sp_law_choices K CLine) (tConsBv (tVarP 0) (tConsBv (tVarP 1) (tConsBb 4 (tConsBv (tVarP 7) (tNilB))))))) (tVarP 6)))) (tRetP (tCallBP (sp_law_flat K CLine) (tConsBb 4 (tNilB))))))
def ts_law_some_planN (K : PySem.W.Frag) (CLine : Addr) : TSp := tSeqP (tIfSP (tBlP (tOpP (rEqI false) (tCallRP 0 (sp_law_draw K CLine) (tConsP (tConP (.int 2)) (tNilP))) (tConP (.int 0)))) (tRetP (tCallRP 0 (sp_law_drawnN K CLine) (tConsP (tVarP 1) (tConsP (tVarP 2) (tNilP))))) (tNextP)) (tSeqP (tSetP 3 (tCallP (sp_law_product K CLine) [] (tConsP (tVarP 1) (tConsP (tVarP 2) (tNilP))))) (tRetP (tIfP (tBlP (tOpP rGt (tVarP 3) (tConP (.int 0)))) (tCallP (sp_law_spots_at K CLine) [] (tConsP (tVarP 1) (tConsP (tVarP 2) (tConsP (tCallRP 0 (sp_law_draw K CLine) (tConsP (tVarP 3) (tNilP))) (tNilP))))) (tConP .non))))
def ts_law_fault (K : PySem.W.Frag) (CLine : Addr) : TSp := tSeqP (tIfSP (tNotP (tBlP (tCBP (rIsI K) (tConsP (tVarP 2) (tConsP (tConP (.raw (.ty "tuple"))) (tNilP)))))) (tRetP (tLstP (tConsP (tConP .non) (tNilP)))) (tNextP)) (tSeqP (tForP (iRng1P (tCBP rLen (tConsP (tVarP 2) (tNilP)))) (gNameP 3) (tSeqP (tSetP 4 (tOpP rIxP (tVarP 2) (tVarP 3))) (tSeqP (tIfSP (tOrP (tBlP (tOpP rGe (tVarP 3) (tCBP rLen (tConsP (tVarP 1) (tNilP))))) (tOrP (tNotP (tBlP (tCBP (rIsI K) (tConsP (tVarP 4) (tConsP (tConP (.raw (.ty "tuple"))) (tNilP)))))) (tOrP (tBlP (tOpP (rEqI true) (tCBP rLen (tConsP (tVarP 4) (tNilP))) (tConP (.int 2)))) (tEitT (tBlP (tOpP (rEqP true) (tOpP rIxP (tVarP 4) (tConP (.int 0))) (tOpP rIxP (tOpP rIxP (tVarP 1) (tVarP 3)) (tConP (.int 0))))) (tBlP (tOpP rNeDS (tOpP rIxP (tVarP 4) (tConP (.int 0))) (tOpP rIxP (tOpP rIxP (tVarP 1) (tVarP 3)) (tConP (.int 0))))))))) (tRetP (tLstP (tConsP (tVarP 3) (tNilP)))) (tNextP)) (tSeqP (tIfSP (tOrP (tNotP (tBlP (tCBP (rIsI K) (tConsP (tOpP rIxP (tVarP 4) (tConP (.int 1))) (tConsP (tConP (.raw (.ty "int"))) (tNilP)))))) (tOrP (tBlP (tCBP (rIsI K) (tConsP (tOpP rIxP (tVarP 4) (tConP (.int 1))) (tConsP (tConP (.raw (.ty "bool"))) (tNilP))))) (tNotP (tBlP (tChainP rLt rLe (tConP (.int 0)) (tOpP rIxP (tVarP 4) (tConP (.int 1))) (tVarP 0)))))) (tRetP (tLstP (tConsP (tVarP 3) (tNilP)))) (tNextP)) (tForP (iRng1P (tVarP 3)) (gNameP 5) (tIfSP (tAndP (tBlP (tOpP (rEqI false) (tOpP rIxP (tOpP rIxP (tVarP 2) (tVarP 5)) (tConP (.int 1))) (tOpP rIxP (tVarP 4) (tConP (.int 1))))) (tBlP (tCallP (sp_law_meet K CLine) [] (tConsP (tOpP rIxP (tVarP 1) (tVarP 5)) (tConsP (tOpP rIxP (tVarP 1) (tVarP 3)) (tNilP)))))) (tRetP (tLstP (tConsP (tVarP 3) (tNilP)))) (tNextP))))))) (tRetP (tIfP (tBlP (tOpP (rEqI false) (tCBP rLen (tConsP (tVarP 2) (tNilP))) (tCBP rLen (tConsP (tVarP 1) (tNilP))))) (tLstP (tNilP)) (tLstP (tConsP (tCBP rLen (tConsP (tVarP 2) (tNilP))) (tNilP))))))
def ts_law_no_plan (K : PySem.W.Frag) (CLine : Addr) : TSp := tSeqP (tSetP 4 (tOpP rAdd (tValP (tLcP (iTupP (tVarP 2)) (gNameP 12) (tYesP) (tOpP rIxP (tVarP 12) (tConP (.int 0))) [12])) (tLstP (tConsP (tConP (.str ("zzzzzzzzz" : Str))) (tNilP))))) (tSeqP (tSetP 5 (tOpP rIxP (tVarP 4) (tCallRP 0 (sp_law_draw K CLine) (tConsP (tCBP rLen (tConsP (tVarP 4) (tNilP))) (tNilP))))) (tSeqP (tParP [6, 7] (tConsV (tCallRP 0 (sp_law_draw K CLine) (tConsP (tOpP rAdd (tCBP rLen (tConsP (tVarKP 3) (tNilP))) (tConP (.int 1))) (tNilP))) (tConsV (tCallRP 0 (sp_law_draw K CLine) (tConsP (tOpP rAdd (tCBP rLen (tConsP (tVarKP 3) (tNilP))) (tConP (.int 1))) (tNilP))) (tNilAr)))) (tSeqP (tSetP 8 (tLstP (tConsP (tConP .non) (tConsP (tConP (.int 0)) (tConsP (tConP (.bl true)) (tConsP (tConP (.str ("" : Str))) (tConsP (tVarP 5) (tConsP (tTupP (tNilP)) (tConsP (tLstP (tNilP)) (tConsP (tDic0P) (tConsP (tTupP (tConsP (tVarP 5) (tNilP))) (tConsP (tLstP (tConsP (tVarP 5) (tConsP (tConP (.int 1)) (tNilP)))) (tConsP (tTupP (tConsP (tVarP 5) (tConsP (tConP (.int 1)) (tConsP (tConP (.int 1)) (tNilP))))) (tConsP (tTupP (tConsP (tVarP 5) (tConsP (tConP (.int 0)) (tNilP)))) (tNilP))))))))))))))) (tSeqP (tSetP 8 (tOpP rAdd (tVarP 8) (tLstP (tConsP (tTupP (tConsP (tVarP 5) (tConsP (tOpP rAdd (tVarP 1) (tConP (.int 1))) (tNilP)))) (tConsP (tTupP (tConsP (tVarP 5) (tConsP (tNegP (tConP (.int 1))) (tNilP)))) (tConsP (tTupP (tConsP (tVarP 5) (tConsP (tConP (.bl true)) (tNilP)))) (tConsP (tTupP (tConsP (tVarP 5) (tConsP (tConP (.str ("1" : Str))) (tNilP)))) (tConsP (tTupP (tConsP (tVarP 5) (tConsP (tConP .non) (tNilP)))) (tConsP (tTupP (tConsP (tVarP 5) (tConsP (tLstP (tConsP (tConP (.int 1)) (tNilP))) (tNilP)))) (tNilP)))))))))) (tSeqP (tSetP 8 (tOpP rAdd (tVarP 8) (tLstP (tConsP (tTupP (tConsP (tVarP 5) (tConsP (tDic0P) (tNilP)))) (tConsP (tTupP (tConsP (tLstP (tConsP (tVarP 5) (tNilP))) (tConsP (tConP (.int 1)) (tNilP)))) (tConsP (tTupP (tConsP (tDic0P) (tConsP (tConP (.int 1)) (tNilP)))) (tConsP (tTupP (tConsP (tConP (.int 1)) (tConsP (tVarP 5) (tNilP)))) (tConsP (tTupP (tConsP (tConP .non) (tConsP (tConP (.int 1)) (tNilP)))) (tConsP (tTupP (tConsP (tVarP 5) (tConsP (tOpP rPow (tConP (.int 10)) (tConP (.int 30))) (tNilP)))) (tNilP)))))))))) (tSeqP (tSetP 8 (tOpP rAdd (tVarP 8) (tLstP (tConsP (tTupP (tConsP (tVarP 5) (tConsP (tOpP rAdd (tConP (.int 1)) (tCallRP 0 (sp_law_draw K CLine) (tConsP (tVarP 1) (tNilP)))) (tNilP)))) (tNilP))))) (tSeqP (tSetP 9 (tOpP rAddA (tOpP rAddA (tSliceAP (tVarKP 3) (tNoPartP) (tPartP (tVarP 6))) (tTupP (tConsP (tOpP rIxP (tVarP 8) (tCallRP 0 (sp_law_draw K CLine) (tConsP (tConP (.int 25)) (tNilP)))) (tNilP)))) (tSliceAP (tVarKP 3) (tPartP (tOpP rAdd (tVarP 6) (tConP (.int 1)))) (tNoPartP)))) (tSeqP (tSetP 10 (tOpP rAddA (tOpP rAddA (tSliceAP (tVarP 9) (tNoPartP) (tPartP (tVarP 7))) (tTupP (tConsP (tOpP rIxP (tVarP 8) (tCallRP 0 (sp_law_draw K CLine) (tConsP (tConP (.int 25)) (tNilP)))) (tNilP)))) (tSliceAP (tVarP 9) (tPartP (tOpP rAdd (tVarP 7) (tConP (.int 1)))) (tNoPartP)))) (tSeqP (tSetP 11 (tLstP (tConsP (tVarP 9) (tConsP (tVarP 9) (tConsP (tVarP 9) (tConsP (tVarP 10) (tConsP (tVarP 10) (tConsP (tCBP rList (tConsP (tVarKP 3) (tNilP))) (tConsP (tConP .non) (tConsP (tConP (.int 0)) (tConsP (tConP (.str ("" : Str))) (tConsP (tDic0P) (tConsP (tOpP rAddA (tVarKP 3) (tTupP (tConsP (tTupP (tConsP (tVarP 5) (tConsP (tConP (.int 1)) (tNilP)))) (tNilP)))) (tConsP (tSliceAP (tVarKP 3) (tPartP (tConP (.int 1))) (tNoPartP)) (tConsP (tSliceAP (tVarKP 3) (tNoPartP) (tPartP (tNegP (tConP (.int 1))))) (tNilP)))))))))))))))) (tSeqP (tSetP 11 (tOpP rAdd (tVarP 11) (tLstP (tConsP (tRevTP (tVarKP 3)) (tConsP (tOpP rAddA (tVarKP 3) (tTupP (tConsP (tConP .non) (tNilP)))) (tConsP (tOpP rAddA (tSliceAP (tVarKP 3) (tNoPartP) (tPartP (tVarP 6))) (tSliceAP (tVarKP 3) (tPartP (tOpP rAdd (tVarP 6) (tConP (.int 1)))) (tNoPartP))) (tConsP (tValDP (tCBD rDictK (tConsP (tVarP 3) (tNilP)))) (tNilP)))))))) (tRetP (tOpP rIxP (tVarP 11) (tCallRP 0 (sp_law_draw K CLine) (tConsP (tConP (.int 17)) (tNilP)))))))))))))))
def ts_law_told (K : PySem.W.Frag) (CLine : Addr) : TSp := tSeqP (tSetP 4 (tCBP rReprE (tConsP (tVarKP 3) (tNilP)))) (tSeqP (tSetP 5 (tOpP (rEqP false) (tCallP (sp_law_fault K CLine) [] (tConsP (tVarP 1) (tConsP (tVarP 2) (tConsP (tVarKP 3) (tNilP))))) (tLstP (tNilP)))) (tSeqP (tSetP 6 (tLstP (tConsP (tCallP (sp_is_plan K CLine) [] (tConsP (tVarP 0) (tConsP (tVarKP 3) (tNilP)))) (tConsP (tCallKP (sp_is_plan K CLine) 0 2 [1, 0] (tNilP) (tConsP (tVarKP 3) (tConsP (tVarP 0) (tNilP)))) (tNilP))))) (tRetP (tAndVP (tOpP (rEqI false) (tCBP rRepr (tConsP (tVarP 6) (tNilP))) (tCBP rRepr (tConsP (tOpP rMulL (tLstP (tConsP (tVarP 5) (tNilP))) (tConP (.int 2))) (tNilP)))) (tOpP (rEqI false) (tCBP rReprE (tConsP (tVarKP 3) (tNilP))) (tVarP 4))))))
def ts_law_others (K : PySem.W.Frag) (CLine : Addr) : TSp := tSeqP (tSetP 3 (tValP (tLcP (iTupP (tVarP 2)) (gNameP 5) (tYesP) (tOpP rIxP (tVarP 5) (tConP (.int 0))) [5]))) (tSeqP (tSetP 4 (tCallRP 0 (sp_law_rides K CLine) (tConsP (tVarP 3) (tConsP (tOpP rAdd (tConP (.int 1)) (tCallRP 0 (sp_law_draw K CLine) (tConsP (tConP (.int 30)) (tNilP)))) (tNilP))))) (tRetP (tLstP (tConsP (tLstP (tConsP (tVarP 1) (tConsP (tVarP 2) (tNilP)))) (tConsP (tLstP (tConsP (tCBP rMax2 (tConsP (tConP (.int 1)) (tConsP (tOpP rSub (tVarP 1) (tConP (.int 1))) (tNilP)))) (tConsP (tVarP 2) (tNilP)))) (tConsP (tLstP (tConsP (tVarP 1) (tConsP (tVarP 4) (tNilP)))) (tConsP (tLstP (tConsP (tVarP 1) (tConsP (tVarP 2) (tNilP)))) (tNilP))))))))
def ts_law_right11 (K : PySem.W.Frag) (CLine : Addr) : TSp := tSeqP (tAsgP (tCallRP 0 (sp_law_long_case K CLine) (tNilP)) (gLstP 2 (gConsP (gNameP 1) (gConsP (gNameP 2) (gNilP))))) (tSeqP (tSetP 3 (tCallRP 0 (sp_law_some_planN K CLine) (tConsP (tVarP 1) (tConsP (tVarP 2) (tNilP))))) (tSeqP (tIfSP (tBlP (tOpP (rIsN false) (tVarP 3) (tConP .non))) (tSetP 3 (tCBP rTupleK (tConsP (tValP (tLcP (iTupP (tVarP 2)) (gNameP 9) (tYesP) (tTupP (tConsP (tOpP rIxP (tVarP 9) (tConP (.int 0))) (tConsP (tOpP rAdd (tConP (.int 1)) (tCallRP 0 (sp_law_draw K CLine) (tConsP (tVarP 1) (tNilP)))) (tNilP)))) [9])) (tNilP)))) (tNextP)) (tSeqP (tSetP 4 (tCBP rTuple (tConsP (tValP (tLcP (iTupP (tWkP (tVarP 3))) (gTupP 2 (gConsP (gNameP 10) (gConsP (gNameP 11) (gNilP)))) (tYesP) (tTupP (tConsP (tVarP 10) (tConsP (tOpP rIxP (tLstP (tConsP (tVarP 11) (tConsP (tConP (.bl true)) (tNilP)))) (tCBP rInt1 (tConsP (tOpP (rEqI false) (tVarP 11) (tConP (.int 1))) (tNilP)))) (tNilP)))) [10, 11])) (tNilP)))) (tSeqP (tSetP 5 (tOpP rAdd (tLstP (tConsP (tVarP 3) (tConsP (tVarP 4) (tConsP (tVarP 3) (tNilP))))) (tValP (tLcP (iRng1P (tConP (.int 8))) (gNameP 12) (tYesP) (tCallRP 0 (sp_law_no_plan K CLine) (tConsP (tVarP 1) (tConsP (tVarP 2) (tConsP (tVarP 3) (tNilP))))) [12])))) (tSeqP (tForP (iListP (tCallRP 0 (sp_law_others K CLine) (tConsP (tVarP 1) (tConsP (tVarP 2) (tNilP))))) (gLstP 2 (gConsP (gNameP 6) (gConsP (gNameP 7) (gNilP)))) (tSeqP (tSetP 8 (tNewP CLine (sp_Line_init K CLine) [] (tConsP (tVarP 6) (tConsP (tVarP 7) (tNilP))))) (tIfSP (tNotP (tBlP (tCBP rAllP (tConsP (tValP (tLcP (iListP (tVarP 5)) (gNameP 13) (tYesP) (tCallP (sp_law_told K CLine) [] (tConsP (tVarP 8) (tConsP (tVarP 6) (tConsP (tVarP 7) (tConsP (tVarP 13) (tNilP)))))) [13])) (tNilP))))) (tRetP (tConP (.bl false))) (tNextP)))) (tRetP (tConP (.bl true))))))))
def ts_law (K : PySem.W.Frag) (CLine : Addr) : TSp := tSeqP (tSetP 1 (tNewP CLine (sp_Line_init K CLine) [] (tConsP (tConP (.int 2)) (tConsP (tTupP (tConsP (tTupP (tConsP (tConP (.str ("a" : Str))) (tConsP (tConP (.int 0)) (tConsP (tConP (.int 3)) (tNilP))))) (tConsP (tTupP (tConsP (tConP (.str ("b" : Str))) (tConsP (tConP (.int 2)) (tConsP (tConP (.int 5)) (tNilP))))) (tNilP)))) (tNilP))))) (tSeqP (tSetP 2 (tLstP (tConsP (tCallP (sp_is_plan K CLine) [] (tConsP (tVarP 1) (tConsP (tTupP (tConsP (tTupP (tConsP (tConP (.str ("a" : Str))) (tConsP (tConP (.int 1)) (tNilP)))) (tConsP (tTupP (tConsP (tConP (.str ("b" : Str))) (tConsP (tConP (.int 2)) (tNilP)))) (tNilP)))) (tNilP)))) (tConsP (tCallP (sp_is_plan K CLine) [] (tConsP (tVarP 1) (tConsP (tTupP (tConsP (tTupP (tConsP (tConP (.str ("a" : Str))) (tConsP (tConP (.int 2)) (tNilP)))) (tConsP (tTupP (tConsP (tConP (.str ("b" : Str))) (tConsP (tConP (.int 2)) (tNilP)))) (tNilP)))) (tNilP)))) (tConsP (tCallP (sp_is_plan K CLine) [] (tConsP (tVarP 1) (tConsP (tTupP (tNilP)) (tNilP)))) (tNilP)))))) (tSeqP (tIfSP (tOrP (tBlP (tOpP (rEqP true) (tVarP 2) (tLstP (tConsP (tConP (.bl true)) (tConsP (tConP (.bl false)) (tConsP (tConP (.bl false)) (tNilP))))))) (tBlP (tOpP (rIsT true) (tCallP (sp_is_plan K CLine) [] (tConsP (tNewP CLine (sp_Line_init K CLine) [.tup []] (tConsP (tConP (.int 1)) (tNilP))) (tConsP (tTupP (tNilP)) (tNilP)))) (tConP (.bl true))))) (tRetP (tConP (.bl false))) (tNextP)) (tRetP (tCBP rAllP (tConsP (tValP (tLcP (iRng1P (tCBP rMax2 (tConsP (tConP (.int 2)) (tConsP (tCBP rMin2 (tConsP (tCBP rLen (tConsP (tVarP 0) (tNilP))) (tConsP (tConP (.int 6)) (tNilP)))) (tNilP))))) (gNameP 3) (tYesP) (tCallRFP (tCallFP (sp_law_pool K CLine) (tConsP (tCallP (sp_law_cell K CLine) [] (tConsP (tVarP 0) (tConsP (tVarP 3) (tNilP)))) (tNilP))) (sp_law_right11 K CLine) (tNilP)) [3])) (tNilP))))))
def ts_law_right11_3 (K : PySem.W.Frag) (CLine : Addr) : TSp := tSeqP (tSetP 4 (tCBP rTuple (tConsP (tValP (tLcP (iTupP (tWkP (tVarP 3))) (gTupP 2 (gConsP (gNameP 10) (gConsP (gNameP 11) (gNilP)))) (tYesP) (tTupP (tConsP (tVarP 10) (tConsP (tOpP rIxP (tLstP (tConsP (tVarP 11) (tConsP (tConP (.bl true)) (tNilP)))) (tCBP rInt1 (tConsP (tOpP (rEqI false) (tVarP 11) (tConP (.int 1))) (tNilP)))) (tNilP)))) [10, 11])) (tNilP)))) (tSeqP (tSetP 5 (tOpP rAdd (tLstP (tConsP (tVarP 3) (tConsP (tVarP 4) (tConsP (tVarP 3) (tNilP))))) (tValP (tLcP (iRng1P (tConP (.int 8))) (gNameP 12) (tYesP) (tCallRP 0 (sp_law_no_plan K CLine) (tConsP (tVarP 1) (tConsP (tVarP 2) (tConsP (tVarP 3) (tNilP))))) [12])))) (tSeqP (tForP (iListP (tCallRP 0 (sp_law_others K CLine) (tConsP (tVarP 1) (tConsP (tVarP 2) (tNilP))))) (gLstP 2 (gConsP (gNameP 6) (gConsP (gNameP 7) (gNilP)))) (tSeqP (tSetP 8 (tNewP CLine (sp_Line_init K CLine) [] (tConsP (tVarP 6) (tConsP (tVarP 7) (tNilP))))) (tIfSP (tNotP (tBlP (tCBP rAllP (tConsP (tValP (tLcP (iListP (tVarP 5)) (gNameP 13) (tYesP) (tCallP (sp_law_told K CLine) [] (tConsP (tVarP 8) (tConsP (tVarP 6) (tConsP (tVarP 7) (tConsP (tVarP 13) (tNilP)))))) [13])) (tNilP))))) (tRetP (tConP (.bl false))) (tNextP)))) (tRetP (tConP (.bl true)))))
section
variable {K : PySem.W.Frag} {C : Addr} {args : List PV} {P : PV → Prop} {PF : List PV → Prop} {PR : PV → Ow → Prop} {o : Ow}
theorem len_law_meet (h : sp_law_meet K C args P) : args.length = 2 := by
 obtain ⟨_, _, rfl, _⟩ := h; rfl
theorem len_law_loadS (h : sp_law_loadS K C args P) : args.length = 2 := by
 obtain ⟨_, _, _, rfl, _⟩ := h; rfl
theorem len_law_peakS (h : sp_law_peakS K C args P) : args.length = 1 := by
 obtain ⟨_, _, rfl, _⟩ := h; rfl
theorem len_law_product (h : sp_law_product K C args P) : args.length = 2 := by
 obtain ⟨_, _, rfl, _⟩ := h; rfl
theorem len_law_long_case (h : sp_law_long_case K C o args PR) : args.length = 0 := by
 obtain ⟨_, rfl, _⟩ := h; rfl
theorem len_law_choices (h : sp_law_choices K C args PF) : args.length = 4 := by
 obtain ⟨_, _, _, _, rfl, _⟩ := h; rfl
theorem len_law_flat (h : sp_law_flat K C args P) : args.length = 1 := by
 obtain ⟨_, rfl, _⟩ := h; rfl
theorem len_law_sizes (h : sp_law_sizes K C args P) : args.length = 2 := by
 obtain ⟨_, _, rfl, _⟩ := h; rfl
theorem len_law_spots_at (h : sp_law_spots_at K C args P) : args.length = 3 := by
 obtain ⟨_, _, _, rfl, _⟩ := h; rfl
theorem len_law_drawnN (h : sp_law_drawnN K C o args PR) : args.length = 2 := by obtain ⟨_, _, _, rfl, _⟩ := h; rfl
theorem len_law_some_planN (h : sp_law_some_planN K C o args PR) : args.length = 2 := by obtain ⟨_, _, _, rfl, _⟩ := h; rfl
theorem len_law_fault (h : sp_law_fault K C args P) : args.length = 3 := by obtain ⟨_, _, _, rfl, _⟩ := h; rfl
theorem len_law_no_plan (h : sp_law_no_plan K C o args PR) : args.length = 3 := by obtain ⟨_, _, _, _, rfl, _⟩ := h; rfl
theorem len_law_told (h : sp_law_told K C args P) : args.length = 4 := by obtain ⟨_, _, _, rfl, _⟩ := h; rfl
theorem len_law_others (h : sp_law_others K C o args PR) : args.length = 2 := by obtain ⟨_, _, _, rfl, _⟩ := h; rfl
theorem len_law_right11 (h : sp_law_right11 K C o args PR) : args.length = 0 := by obtain ⟨_, rfl, _⟩ := h; rfl
theorem len_law (h : sp_law K C args P) : args.length = 1 := by obtain ⟨_, rfl, _⟩ := h; rfl
end
theorem fac_pos (l : List Int) (h : ∀ x ∈ l, 1 ≤ x) : ∀ a, l.foldl (fun a x => a * max 0 x) a = l.foldl (· * ·) a := by
 induction l with
 | nil => exact fun _ => rfl
 | cons x l ih =>
  intro a
  have hx := h x List.mem_cons_self
  rw [List.foldl_cons, List.foldl_cons, show max 0 x = x by omega]
  exact ih (fun y hy => h y (List.mem_cons_of_mem _ hy)) _
theorem fac_nil (l : List Int) : l.foldl (fun a x => a * max 0 x) 0 = 0 := by
 induction l with
 | nil => rfl
 | cons x l ih => rw [List.foldl_cons, Int.zero_mul]; exact ih
theorem fac_zero (l : List Int) (h : ∃ x ∈ l, x ≤ 0) : ∀ a, l.foldl (fun a x => a * max 0 x) a = 0 := by
 induction l with
 | nil => obtain ⟨x, hx, _⟩ := h; cases hx
 | cons y l ih =>
  intro a
  rw [List.foldl_cons]
  obtain ⟨x, hx, h0⟩ := h
  rcases List.mem_cons.mp hx with rfl | hx
  ·rw [show max 0 x = 0 by omega, Int.mul_zero]
   exact fac_nil l
  ·exact ih ⟨x, hx, h0⟩ _
theorem whole_take {n : Int} {l : List Int} {i : Nat} {x : Int} (h : l[i]? = some x) : wholeL (l.take (i + 1)) = wholeL (l.take i) * max 0 x := by
 unfold wholeL
 rw [List.take_succ, h, List.foldl_append]
 rfl
theorem size_pos {n : Int} {rs : List Trip} (hw : Rw rs) (ho : overR n rs = none) : ∀ x ∈ sizesI n (queueT rs), 1 ≤ x := by
 intro x hx
 unfold sizesI at hx
 obtain ⟨i, hi, rfl⟩ := List.mem_map.mp hx
 have hil := List.mem_range.mp hi
 have hr : (queueT rs)[i]? = some (queueT rs)[i] := List.getElem?_eq_getElem hil
 generalize (queueT rs)[i] = r at hr
 rw [szAt_eq hr]
 have hm := List.mem_of_getElem? hr
 obtain ⟨_, _, rlt⟩ := hw.each r ((queue_perm rs).mem_iff.mp hm)
 have hno : ¬ n < loadN rs r.2.1 := by
  have := List.find?_eq_none.mp ho r hm
  simpa using this
 rw [load_queue] at hno
 obtain ⟨_, er⟩ := List.getElem?_eq_some_iff.mp hr
 have sp : queueT rs = (queueT rs).take i ++ r :: (queueT rs).drop (i + 1) := by rw [← er, List.getElem_cons_drop, List.take_append_drop]
 have up := queue_up rs
 rw [sp] at up
 have h3 : ∀ u ∈ (queueT rs).take i, meetB r u = true → passes r.2.1 u = true := fun u hu hmu => by
  have := (List.pairwise_append.mp up).2.2 u hu r List.mem_cons_self
  unfold meetB at hmu
  unfold passes
  rw [Bool.and_eq_true, decide_eq_true_iff, decide_eq_true_iff] at *
  exact ⟨this, hmu.1⟩
 have h4 : ((queueT rs).take i).countP (meetB r) ≤ ((queueT rs).take i).countP (passes r.2.1) := List.countP_mono_left h3
 rw [List.countP_eq_length_filter, List.countP_eq_length_filter] at h4
 have h5 : passes r.2.1 r = true := by
  unfold passes
  rw [decide_eq_true (Int.le_refl _), decide_eq_true rlt]; rfl
 have h6 : ((queueT rs).filter (passes r.2.1)).length = (((queueT rs).take i).filter (passes r.2.1)).length + (((queueT rs).drop (i + 1)).filter (passes r.2.1)).length + 1 := by
  conv => lhs; rw [sp, List.filter_append, List.filter_cons_of_pos h5, List.length_append, List.length_cons]
  omega
 omega
theorem tw_imp {α : Type} {p : α → Bool} {a : α} : ∀ {l : List α}, a ∈ l.takeWhile p → p a = true
 | [], h => by cases h
 | b :: l, h => by
  rw [List.takeWhile_cons] at h
  split at h
  ·rename_i hb
   rcases List.mem_cons.mp h with rfl | h
   ·exact hb
   ·exact tw_imp h
  ·cases h
theorem size_none {n : Int} {rs : List Trip} (hw : Rw rs) {r : Trip} (ho : overR n rs = some r) : ∃ x ∈ sizesI n (queueT rs), x ≤ 0 := by
 have hm := List.mem_of_find?_eq_some ho
 have hgt : n < loadN rs r.2.1 := by simpa using List.find?_some ho
 obtain ⟨_, _, rlt⟩ := hw.each r ((queue_perm rs).mem_iff.mp hm)
 rw [load_queue] at hgt
 have up := queue_up rs
 -- the trips up to this start, the last of them
 obtain ⟨A, B, sp, hA, hB⟩ : ∃ A B, queueT rs = A ++ B ∧ (∀ u ∈ A, u.2.1 ≤ r.2.1) ∧ ∀ u ∈ B, r.2.1 < u.2.1 := by
  refine ⟨(queueT rs).takeWhile fun u => decide (u.2.1 ≤ r.2.1), (queueT rs).dropWhile fun u => decide (u.2.1 ≤ r.2.1), List.takeWhile_append_dropWhile.symm, fun u hu => ?_, fun u hu => ?_⟩
  ·simpa using tw_imp hu
  ·cases e : (queueT rs).dropWhile (fun u => decide (u.2.1 ≤ r.2.1)) with
   | nil => rw [e] at hu; cases hu
   | cons v l =>
    have hv : ¬ v.2.1 ≤ r.2.1 := by
     have := List.head?_dropWhile_not (fun u : Trip => decide (u.2.1 ≤ r.2.1)) (queueT rs)
     rw [e] at this
     simpa using this
    rw [← List.takeWhile_append_dropWhile (p := fun u : Trip => decide (u.2.1 ≤ r.2.1)) (l := queueT rs), e] at up
    rw [e] at hu
    rcases List.mem_cons.mp hu with rfl | hu
    ·omega
    ·have := (List.pairwise_cons.mp (List.pairwise_append.mp up).2.1).1 u hu
     omega
 have hrA : r ∈ A := by
  rw [sp] at hm
  rcases List.mem_append.mp hm with z | z
  ·exact z
  ·exact absurd (hB r z) (Int.lt_irrefl _)
 have hne : A ≠ [] := fun z => by rw [z] at hrA; cases hrA
 obtain ⟨D, t, eA⟩ : ∃ D t, A = D ++ [t] := ⟨A.dropLast, A.getLast hne, (List.dropLast_concat_getLast hne).symm⟩
 subst eA
 have ht : t.2.1 = r.2.1 := by
  have h1 := hA t (List.mem_append_right _ List.mem_cons_self)
  rw [sp] at up
  have up2 := (List.pairwise_append.mp up).1
  rcases List.mem_append.mp hrA with z | z
  ·have := (List.pairwise_append.mp up2).2.2 r z t List.mem_cons_self
   omega
  ·have : r = t := by simpa using z
   rw [this]
 have hfB : B.filter (passes r.2.1) = [] := List.filter_eq_nil_iff.mpr fun u hu z => by
  have := hB u hu
  unfold passes at z
  rw [Bool.and_eq_true, decide_eq_true_iff] at z
  omega
 have htm : t ∈ queueT rs := by rw [sp]; exact List.mem_append_left _ (List.mem_append_right _ List.mem_cons_self)
 obtain ⟨_, _, tlt⟩ := hw.each t ((queue_perm rs).mem_iff.mp htm)
 have hc : (D.filter (passes r.2.1)).length ≤ (D.filter (meetB t)).length := by
  rw [← List.countP_eq_length_filter, ← List.countP_eq_length_filter]
  refine List.countP_mono_left fun u hu hpu => ?_
  unfold passes at hpu
  unfold meetB
  rw [Bool.and_eq_true, decide_eq_true_iff, decide_eq_true_iff] at *
  omega
 have hl : ((queueT rs).filter (passes r.2.1)).length ≤ (D.filter (passes r.2.1)).length + 1 := by
  rw [sp, List.filter_append, hfB, List.append_nil, List.filter_append, List.length_append]
  have := List.length_filter_le (passes r.2.1) [t]
  rw [List.length_singleton] at this
  omega
 have hi : (queueT rs)[D.length]? = some t := by
  rw [sp, List.append_assoc, List.getElem?_append_right (Nat.le_refl _), Nat.sub_self]; rfl
 refine ⟨szAt n (queueT rs) D.length, List.mem_map.mpr ⟨D.length, List.mem_range.mpr (List.getElem?_eq_some_iff.mp hi).1, rfl⟩, ?_⟩
 rw [szAt_eq hi]
 have : (queueT rs).take D.length = D := by rw [sp, List.append_assoc, List.take_left]
 rw [this]
 omega
theorem count_whole {n : Int} {rs : List Trip} (hw : Rw rs) : countI n rs = wholeI n rs := by
 unfold countI wholeI wholeL
 cases ho : overR n rs with
 | none =>
  rw [fac_pos _ (size_pos hw ho)]
  rfl
 | some r => rw [fac_zero _ (size_none hw ho)]
theorem cut_map {α : Type} {f : α → PV} {xs : List α} {m : Int} (h0 : 0 ≤ m) : cutP (xs.map f) none (some m) = (xs.take m.toNat).map f := by
 unfold cutP
 have e0 : HT.sIx (xs.map f).length 0 none = 0 := rfl
 have e1 : HT.sIx (xs.map f).length (xs.map f).length (some m) = min m.toNat (xs.map f).length := by
  simp only [HT.sIx]
  rw [if_neg (by omega)]
 rw [e0, e1, Nat.sub_zero, List.drop_zero, ← List.map_take]
 congr 1
 rw [List.length_map, List.take_eq_take_iff]
 omega
theorem all_true60 : ∀ n : Nat, blsOf (List.replicate n (.bl true)) = some (List.replicate n true)
 | 0 => rfl
 | n + 1 => by rw [List.replicate_succ, List.replicate_succ, blsOf, all_true60 n]; rfl
theorem val_dicS {sd : List Seat} {w : Str} : valP (dicS sd) (.inr w) = (sd.find? fun x => decide (x.1.1 = w)).map fun x => PV.int x.2 := by
 unfold dicS
 induction sd with
 | nil => rfl
 | cons x sd ih =>
  rw [List.map_cons, List.find?_cons]
  unfold valP
  by_cases h : x.1.1 = w
  ·rw [if_pos (by rw [h]), decide_eq_true h]; rfl
  ·rw [if_neg (fun z => h (Sum.inr.inj z)), decide_eq_false h]; exact ih
theorem val_some {sd : List Seat} {x : Seat} (hn : (sd.map fun x => x.1.1).Nodup) (hx : x ∈ sd) : valP (dicS sd) (.inr x.1.1) = some (.int x.2) := by
 rw [val_dicS]
 have : (sd.find? fun y => decide (y.1.1 = x.1.1)) = some x := by
  induction sd with
  | nil => cases hx
  | cons y sd ih =>
   rw [List.find?_cons]
   rw [List.map_cons, List.nodup_cons] at hn
   rcases List.mem_cons.mp hx with h | h
   ·subst h; rw [decide_eq_true rfl]
   ·have ne : y.1.1 ≠ x.1.1 := fun e => hn.1 (by rw [e]; exact List.mem_map.mpr ⟨x, h, rfl⟩)
    rw [decide_eq_false ne]
    exact ih hn.2 h
 rw [this]; rfl
theorem put_dicS {sd : List Seat} {r : Trip} {s : Int} (h : ∀ x ∈ sd, x.1.1 ≠ r.1) : putP (dicS sd) (.inr r.1) (.int s) = dicS (sd ++ [(r, s)]) := by
 unfold putP
 have : ((dicS sd).any fun kv => decide (kv.1 = Sum.inr r.1)) = false := by
  rw [List.any_eq_false]
  intro kv hk
  obtain ⟨x, hx, rfl⟩ := List.mem_map.mp hk
  have := h x hx
  simpa using this
 rw [this, if_neg Bool.false_ne_true]
 unfold dicS
 rw [List.map_append]; rfl
theorem name_of_fst {rs : List Trip} {sd : List Seat} (hw : Rw rs) (hi : ∀ x ∈ sd, x.1 ∈ rs) (hn : (sd.map (·.1)).Nodup) : (sd.map fun x => x.1.1).Nodup := by
 have e : (sd.map fun x => x.1.1) = (sd.map (·.1)).map (·.1) := by rw [List.map_map]; rfl
 rw [e]
 refine List.pairwise_map.mpr (hn.imp_of_mem fun {a b} ha hb hab e => hab ?_)
 obtain ⟨x, hx, rfl⟩ := List.mem_map.mp ha
 obtain ⟨y, hy, rfl⟩ := List.mem_map.mp hb
 exact name_inj hw (hi x hx) (hi y hy) e
theorem nodup_of_names {rs : List Trip} (h : (rs.map (·.1)).Nodup) : rs.Nodup := (List.pairwise_map.mp h).imp fun {a b} q e => q (by rw [e])
theorem left_le {n : Int} {r : Trip} {sd : List Seat} : (leftL n r sd).length ≤ n.toNat := by
 have := List.length_filter_le (fun s => !decide (s ∈ takenL r sd)) (upto n)
 have e : (upto n).length = n.toNat := by unfold upto; rw [List.length_map, List.length_range]
 unfold leftL; omega
theorem rising_all : ∀ (p : Str) (l : List Str), risingS p l = true → (p :: l).Pairwise fun a b => a.cps.toList ≤ b.cps.toList
 | p, [], _ => List.pairwise_singleton _ _
 | p, x :: r, h => by
  unfold risingS at h
  rw [Bool.and_eq_true, ltCps_eq] at h
  have h1 : p.cps.toList ≤ x.cps.toList := by
   have := h.1
   refine List.not_lt.mp fun z => ?_
   rw [decide_eq_true z] at this; cases this
  have ih := rising_all x r h.2
  refine List.pairwise_cons.mpr ⟨fun y hy => ?_, ih⟩
  rcases List.mem_cons.mp hy with e | e
  ·subst e; exact h1
  ·exact List.le_trans h1 ((List.pairwise_cons.mp ih).1 y e)
theorem sorted_all : ∀ l : List Str, sortedS l = true → l.Pairwise fun a b => a.cps.toList ≤ b.cps.toList
 | [], _ => .nil
 | x :: r, h => rising_all x r h
theorem seatW_of {sd : List Seat} {x : Seat} (hn : (sd.map fun x => x.1.1).Nodup) (hx : x ∈ sd) : seatW sd x.1.1 = x.2 := by
 unfold seatW; rw [val_some hn hx]
theorem val_seatW {sd : List Seat} {w : Str} (h : (valP (dicS sd) (.inr w)).isSome = true) : valP (dicS sd) (.inr w) = some (.int (seatW sd w)) := by
 unfold seatW
 rw [val_dicS] at h ⊢
 cases e : sd.find? fun x => decide (x.1.1 = w) with
 | none => rw [e] at h; cases h
 | some x => rfl
theorem flat_plan {sd : List Seat} {ys : List Str} (hn : (sd.map fun x => x.1.1).Nodup) (hp : ys.Perm (sd.map fun x => x.1.1)) (hs : sortedS ys = true) : ys.map (fun w => ((w, seatW sd w) : Pair)) = planOf sd := by
 have p1 : (ys.map (fun w => ((w, seatW sd w) : Pair))).Perm (sd.map seatPair) := by
  have := hp.map (fun w => ((w, seatW sd w) : Pair))
  rw [List.map_map] at this
  refine this.trans (.of_eq ?_)
  refine List.map_congr_left fun x hx => ?_
  show (x.1.1, seatW sd x.1.1) = (x.1.1, x.2)
  rw [seatW_of hn hx]
 refine ascP_uniq (p1.trans (planOf_perm sd).symm) ?_ (planOf_asc hn)
 have nd : ys.Nodup := hp.nodup_iff.mpr hn
 refine List.pairwise_map.mpr (((sorted_all ys hs).and nd).imp fun {a b} h => ?_)
 exact Classical.byContradiction fun nb => h.2 (str_ext (List.le_antisymm h.1 (List.not_lt.mp nb)))
theorem keys_dicS (sd : List Seat) : (dicS sd).map (·.1) = (sd.map fun x => x.1.1).map Sum.inr := by
 unfold dicS; rw [List.map_map, List.map_map]; rfl
section
variable {η : EP'} {Q : PV → EP' → Prop} {QA : List PV → EP' → Prop} {QB : List Ab → EP' → Prop} {D : EndsP} {td ti te ta tb : TEp} {t : TAp} {tB : TAbp} {tr : TArp} {tf : TFDp} {i : Nat}
theorem w_dgetV {s : Nat} {kvs : List (Key × PV)} (e : η[s]? = some (.va (.dic kvs))) (h : ti η fun y η2 => ∃ k z, dkey y = some k ∧ valP kvs k = some z ∧ Q z η2) : tDGetP (tVarP s) ti η Q := by
 show tVarP s η _
 exact w_var e h
theorem q_inD {x : PV} {k : Key} {kvs : List (Key × PV)} {P : PV → Prop} (e : dkey x = some k) (h : P (.bl (valP kvs k).isSome)) : rInD false x (.dic kvs) P := ⟨k, e, by rw [if_neg Bool.false_ne_true]; exact h⟩
theorem w_setFD (h0 : (0 : Nat) ≠ i) (h : tf η fun kvs η1 => i < η1.length ∧ D.nx (η1.set i (.ow (.d kvs)))) : tSetFDP i tf D η := ⟨h0, h⟩
theorem w_cbd {r : R1d} {QD : List (Key × PV) → EP' → Prop} (h : t η fun xs η1 => r xs fun kvs => QD kvs η1) : tCBD r t η QD := h
def putM (s : Nat) (y x : PV) (η : EP') (R : EP' → Prop) : Prop := match η[s]? with
 | some (.ow (.d kvs)) => ∃ k, dkey y = some k ∧ kvs.length < sizeLine ∧ R (η.set s (.ow (.d (putP kvs k x))))
 | _ => False
theorem w_dput (h : te η fun x η1 => (∃ o, η1[i]? = some (Sl.ow o)) ∧ ti η1 fun y η2 => putM i y x η2 D.nx) : tDPutP i ti te D η := h
theorem q_putM {s : Nat} {x y : PV} {k : Key} {η : EP'} {R : EP' → Prop} {kvs : List (Key × PV)} (e : η[s]? = some (.ow (.d kvs))) (ek : dkey y = some k) (l : kvs.length < sizeLine) (h : R (η.set s (.ow (.d (putP kvs k x))))) : putM s y x η R := by unfold putM; rw [e]; exact ⟨k, ek, l, h⟩
theorem w_arFD {QR : List Ar → EP' → Prop} (h : tf η fun kvs η1 => tr η1 fun ars η2 => QR (.fo (.d kvs) :: ars) η2) : tConsFD tf tr η QR := h
theorem w_iseq {x : PV} {rs : List Trip} {s : Nat} (e : η[s]? = some (.va x)) (hx : SeqR rs x) (h : QA (rs.map rowP) η) : iSeqP s η QA := by
 unfold iSeqP
 rw [e]
 rcases hx with rfl | rfl <;> exact h
theorem w_dicF {QD : List (Key × PV) → EP' → Prop} (h : QD [] η) : tDicFD η QD := h
theorem w_nilB (h : QB [] η) : tNilB η QB := h
theorem w_bv (h : te η fun x η1 => tB η1 fun abs η2 => QB (.v x :: abs) η2) : tConsBv te tB η QB := h
theorem w_bb {o : Ow} (e : η[i]? = some (.ow o)) (h : tB η fun abs η1 => QB (.b i :: abs) η1) : tConsBb i tB η QB := ⟨⟨o, e⟩, h⟩
theorem w_callB {sp : SpP} (h : tB η fun abs η1 => ∃ args, fillB η1 abs = some args ∧ sp args fun z => tpV z = true ∧ Q z η1) : tCallBP sp tB η Q := h
theorem w_callFB {sp : SpF} (h : tB η fun abs η1 => ∃ args, fillB η1 abs = some args ∧ sp args fun ys => tpVs ys = true ∧ QA ys η1) : tCallFBP sp tB η QA := h
end
theorem tp_ints : ∀ ns : List Int, tpVs (ns.map .int) = true
 | [] => rfl
 | n :: ns => by rw [List.map_cons, tpVs, tp_ints ns]; rfl
theorem q_tuplK {xs : List PV} {Q : PV → Prop} (h : Q (.pln xs)) : rTupleK [.lst xs] Q := h
theorem tp_planK (ps : List Pair) : tpV (planK ps) = true := by
 unfold planK
 rw [tpV]
 induction ps with
 | nil => rfl
 | cons p ps ih => rw [List.map_cons, tpVs, ih]; rfl
section
variable {K : PySem.W.Frag} {C : Addr} {args : List PV} {P : PV → Prop} {PF : List PV → Prop} {PR : PV → Ow → Prop} {o : Ow}
theorem rd_law_meet (h : sp_law_meet K C args P) : ts_law_meet K C { nx := fun _ => P .non, rt := fun x _ => P x } (startP 2 args) := by
 obtain ⟨a, b, rfl, hp⟩ := h
 have e : startP 2 [rowP a, rowP b] = [.va (rowP a), .va (rowP b)] := rfl
 rw [e]
 refine w_ret (w_andV (w_op (w_op (w_var (x := rowP a) rfl (w_con (q_ixT (x := .int a.2.1) rfl (w_op (w_var (x := rowP b) rfl (w_con (q_ixT (x := .int b.2.2) rfl (q_lt ?_)))))))))))
 unfold meetB at hp
 by_cases c1 : a.2.1 < b.2.2
 ·rw [decide_eq_true c1] at hp ⊢
  refine w_op (w_op (w_var (x := rowP b) rfl (w_con (q_ixT (x := .int b.2.1) rfl (w_op (w_var (x := rowP a) rfl (w_con (q_ixT (x := .int a.2.2) rfl (q_lt ?_)))))))))
  rw [Bool.true_and] at hp
  exact hp
 ·rw [decide_eq_false c1] at hp ⊢
  exact hp
theorem rd_law_loadS (h : sp_law_loadS K C args P) : ts_law_loadS K C { nx := fun _ => P .non, rt := fun x _ => P x } (startP 3 args) := by
 obtain ⟨rs, x0, st, rfl, hx0, hl, hp⟩ := h
 have e : startP 3 [x0, .int st] = [.va x0, .va (.int st), .no] := rfl
 rw [e]
 refine w_ret (w_cb (w_cons (w_val (w_lc (w_iseq rfl hx0 ?_)))))
 refine ⟨fun i acc η => acc = ((rs.take i).filter (passes st)).map rowP ∧ η = [.va x0, .va (.int st), .no], ⟨rfl, rfl⟩, ?_, ?_⟩
 ·rintro i x acc η hi ⟨rfl, rfl⟩
  rw [List.getElem?_map] at hi
  obtain ⟨r, hr, rfl⟩ := Option.map_eq_some_iff.mp hi
  refine w_gname (w_bl (w_chain (w_op (w_var (x := rowP r) rfl (w_con (q_ixT (x := .int r.2.1) rfl (w_var (x := .int st) rfl (q_le ⟨_, rfl, ?_⟩))))))))
  refine q_ite (fun a1 => w_op (w_var (x := rowP r) rfl (w_con (q_ixT (x := .int r.2.2) rfl (q_lt (q_ite (fun a2 => ?_) fun a2 => ?_)))))) fun a1 => q_iteF ?_
  ·have pp : passes st r = true := by unfold passes; rw [decide_eq_true a1, decide_eq_true a2]; rfl
   refine w_var (x := rowP r) rfl ⟨by rw [List.length_map]; exact filt_len hl, ?_, rfl⟩
   rw [take_filterT hr pp, List.map_append]
   rfl
  ·have pp : passes st r = false := by unfold passes; rw [decide_eq_true a1, decide_eq_false a2]; rfl
   exact ⟨by rw [take_filterF hr pp], rfl⟩
  ·have pp : passes st r = false := by unfold passes; rw [decide_eq_false a1]; rfl
   exact ⟨by rw [take_filterF hr pp], rfl⟩
 ·rintro acc η ⟨rfl, rfl⟩
  rw [List.length_map, List.take_length]
  refine w_nil (q_len ?_)
  rw [List.length_map]
  exact hp
theorem rd_law_peakS (h : sp_law_peakS K C args P) : ts_law_peakS K C { nx := fun _ => P .non, rt := fun x _ => P x } (startP 2 args) := by
 obtain ⟨rs, x0, rfl, hx0, hl, hp⟩ := h
 have e : startP 2 [x0] = [.va x0, .no] := rfl
 rw [e]
 have sz : 1000 < sizeLine := by decide
 refine w_ret (w_cb (w_cons (w_op (w_val (w_lc (w_iseq rfl hx0 ?_))))))
 refine ⟨fun i acc η => acc = ((rs.take i).map fun r => loadN rs r.2.1).map .int ∧ η = [.va x0, .no], ⟨rfl, rfl⟩, ?_, ?_⟩
 ·rintro i x acc η hi ⟨rfl, rfl⟩
  rw [List.getElem?_map] at hi
  obtain ⟨r, hr, rfl⟩ := Option.map_eq_some_iff.mp hi
  refine w_gname (w_yes (q_iteT ?_))
  refine w_call (w_cons (w_var (x := x0) rfl (w_cons (w_op (w_var (x := rowP r) rfl (w_con (q_ixT (x := .int r.2.1) rfl (w_nil ⟨rs, x0, r.2.1, rfl, hx0, hl, ?_, ?_, rfl⟩))))))))
  ·rw [List.length_map, List.length_map, List.length_take]
   omega
  ·rw [take_map hr, List.map_append]
   rfl
 ·rintro acc η ⟨rfl, rfl⟩
  rw [List.length_map, List.take_length]
  refine w_lst (w_cons (w_con (w_nil ⟨sz1, q_addLL ?_ ?_⟩)))
  ·rw [List.length_map, List.length_map]; show rs.length + 1 ≤ sizeLine; omega
  ·obtain ⟨h1, h2⟩ := peak_mem rs
   have e2 : (rs.map fun (r : Trip) => loadN rs r.2.1).map PV.int ++ [PV.int 0] = (rs.map (fun (r : Trip) => loadN rs r.2.1) ++ [0]).map PV.int := by rw [List.map_append]; rfl
   rw [e2]
   exact w_nil (q_maxL h1 h2 hp)
def takenR (rs : List Trip) (sd : List Seat) (r : Trip) : List Int := (rs.filter fun u => (valP (dicS sd) (.inr u.1)).isSome && meetB u r).map fun u => seatW sd u.1
theorem takenR_mem {rs : List Trip} {sd : List Seat} {r : Trip} (hw : Rw rs) (hi : ∀ x ∈ sd, x.1 ∈ rs) (hn : (sd.map (·.1)).Nodup) (s : Int) : s ∈ takenR rs sd r ↔ s ∈ takenL r sd := by
 have hnm := name_of_fst hw hi hn
 unfold takenR takenL
 rw [List.mem_map, List.mem_map]
 constructor
 ·rintro ⟨u, hu, rfl⟩
  obtain ⟨h1, h2⟩ := List.mem_filter.mp hu
  rw [Bool.and_eq_true] at h2
  have h3 := h2.1
  rw [val_dicS, Option.isSome_map] at h3
  obtain ⟨x, hx⟩ := Option.isSome_iff_exists.mp h3
  have hxm := List.mem_of_find?_eq_some hx
  have hxe : x.1.1 = u.1 := by
   have := List.find?_some hx
   simpa using this
  have e : x.1 = u := name_inj hw (hi x hxm) h1 hxe
  refine ⟨x, List.mem_filter.mpr ⟨hxm, ?_⟩, ?_⟩
  ·rw [e, meet_commS]; exact h2.2
  ·rw [← hxe, seatW_of hnm hxm]
 ·rintro ⟨x, hx, rfl⟩
  obtain ⟨h1, h2⟩ := List.mem_filter.mp hx
  refine ⟨x.1, List.mem_filter.mpr ⟨hi x h1, ?_⟩, seatW_of hnm h1⟩
  rw [val_some hnm h1, meet_commS, h2]; rfl
theorem left_takenR {n : Int} {rs : List Trip} {sd : List Seat} {r : Trip} (hw : Rw rs) (hi : ∀ x ∈ sd, x.1 ∈ rs) (hn : (sd.map (·.1)).Nodup) : ((upto n).filter fun s => !decide (s ∈ takenR rs sd r)) = leftL n r sd := by
 unfold leftL
 refine List.filter_congr fun s _ => ?_
 rw [decide_eq_decide.mpr (takenR_mem hw hi hn s)]
theorem rd_law_choices (h : sp_law_choices K C args PF) : ts_law_choices K C (startP 7 args) (fun xs _ => PF xs) := by
 obtain ⟨n, rs, sd, r, rfl, n0, n20, hw, hi, hn, hp⟩ := h
 have e : startP 7 [.int n, rowsP rs, .dic (dicS sd), rowP r] = [.va (.int n), .va (rowsP rs), .va (.dic (dicS sd)), .va (rowP r), .no, .no, .no] := rfl
 rw [e]
 have sz : 1000 < sizeLine := by decide
 have hl := hw.len
 refine w_seqF (w_set (w_val (w_lc (w_itup (w_var (x := rowsP rs) rfl ?_)))))
 show ∃ Inv : Nat → List PV → EP' → Prop, _
 refine ⟨fun i acc η => acc = ((rs.take i).filter fun u => (valP (dicS sd) (.inr u.1)).isSome && meetB u r).map (fun u => PV.int (seatW sd u.1)) ∧ η = [.va (.int n), .va (rowsP rs), .va (.dic (dicS sd)), .va (rowP r), .no, .no, .no], ⟨rfl, rfl⟩, ?_, ?_⟩
 ·rintro i x acc η hx ⟨rfl, rfl⟩
  rw [List.getElem?_map] at hx
  obtain ⟨u, hu, rfl⟩ := Option.map_eq_some_iff.mp hx
  refine w_gname (w_and (w_bl (w_op (w_op (w_var (x := rowP u) rfl (w_con (q_ixT (x := .str u.1) rfl (w_var (x := .dic (dicS sd)) rfl (q_inD rfl ?_)))))))))
  cases hv : (valP (dicS sd) (.inr u.1)).isSome with
  | false =>
   refine q_iteF (q_iteF ⟨?_, rfl⟩)
   rw [take_filterF hu (by rw [hv]; rfl)]
  | true =>
   refine q_iteT (w_bl (w_call (w_cons (w_var (x := rowP u) rfl (w_cons (w_var (x := rowP r) rfl (w_nil ⟨u, r, rfl, ?_⟩)))))))
   cases hm : meetB u r with
   | false =>
    refine q_iteF ⟨?_, rfl⟩
    rw [take_filterF hu (by rw [hv, hm]; rfl)]
   | true =>
    refine q_iteT (w_dgetV rfl (w_op (w_var (x := rowP u) rfl (w_con (q_ixT (x := .str u.1) rfl ⟨_, _, rfl, val_seatW hv, ?_, ?_, rfl⟩)))))
    ·rw [List.length_map]; exact filt_len hl
    ·rw [take_filterT hu (by rw [hv, hm]; rfl), List.map_append]; rfl
 ·rintro acc η ⟨rfl, rfl⟩
  rw [List.length_map, List.take_length]
  have et : ((rs.filter fun u => (valP (dicS sd) (.inr u.1)).isSome && meetB u r).map (fun u => PV.int (seatW sd u.1))) = (takenR rs sd r).map .int := by unfold takenR; rw [List.map_map]; rfl
  rw [et]
  rw [← left_takenR hw hi hn] at hp
  generalize takenR rs sd r = T at hp
  simp only [List.set_cons_zero, List.set_cons_succ]
  refine w_lc (w_rngS (w_con (w_op (w_var (x := .int n) rfl (w_con (q_add ?_))))))
  refine ⟨by decide, by decide, by omega, by omega, ?_⟩
  rw [show (n + 1 - 1).toNat = n.toNat by omega]
  refine ⟨fun i acc η => acc = (((upto n).take i).filter fun s => !decide (s ∈ T)).map PV.int ∧ η = [.va (.int n), .va (rowsP rs), .va (.dic (dicS sd)), .va (rowP r), .va (.lst (T.map .int)), .no, .no], ⟨rfl, rfl⟩, ?_, ?_⟩
  ·rintro i x acc η hi ⟨rfl, rfl⟩
   obtain ⟨hin, rfl⟩ := rangeP_get hi
   have hu : (upto n)[i]? = some (1 + (i : Int)) := by
    unfold upto
    rw [List.getElem?_map, List.getElem?_range hin]; rfl
   refine w_gname (w_bl (w_op (w_var (x := .int (1 + (i : Int))) rfl (w_var (x := .lst (T.map .int)) rfl (q_notInI ?_)))))
   cases hb : (!decide ((1 + (i : Int)) ∈ T)) with
   | true =>
    refine q_iteT (w_var (x := .int (1 + (i : Int))) rfl ⟨?_, ?_, rfl⟩)
    ·rw [List.length_map]
     have := List.length_filter_le (fun s => !decide (s ∈ T)) ((upto n).take i)
     rw [List.length_take] at this
     omega
    ·rw [take_filterT hu hb, List.map_append]
     rfl
   | false => exact q_iteF ⟨by rw [take_filterF hu hb], rfl⟩
  ·rintro acc η ⟨rfl, rfl⟩
   rw [rangeP_len]
   have : (upto n).length = n.toNat := by unfold upto; rw [List.length_map, List.length_range]
   rw [← this, List.take_length]
   exact hp
theorem rd_law_flat (h : sp_law_flat K C args P) : ts_law_flat K C { nx := fun _ => P .non, rt := fun x _ => P x } (startP 2 args) := by
 obtain ⟨sd, rfl, hn, hl, hp⟩ := h
 have e : startP 2 [.dic (dicS sd)] = [.va (.dic (dicS sd)), .no] := rfl
 rw [e]
 have sz : 1000 < sizeLine := by decide
 refine w_ret (w_cb (w_cons (w_val (w_lc (w_lstP (w_cb (w_cons (w_var (x := .dic (dicS sd)) rfl (w_nil ⟨sd.map fun x => x.1.1, keys_dicS sd, by rw [List.length_map]; omega, fun ys hy hs => ?_⟩)))))))))
 have yl : ys.length = sd.length := by rw [hy.length_eq, List.length_map]
 show ∃ Inv : Nat → List PV → EP' → Prop, _
 refine ⟨fun i acc η => acc = (ys.take i).map (fun w => pairS (w, seatW sd w)) ∧ η = [.va (.dic (dicS sd)), .no], ⟨rfl, rfl⟩, ?_, ?_⟩
 ·rintro i x acc η hx ⟨rfl, rfl⟩
  rw [List.getElem?_map] at hx
  obtain ⟨w, hw, rfl⟩ := Option.map_eq_some_iff.mp hx
  have hm : w ∈ sd.map fun x => x.1.1 := hy.mem_iff.mp (List.mem_of_getElem? hw)
  obtain ⟨u, hu, rfl⟩ := List.mem_map.mp hm
  refine w_gname (w_yes (q_iteT (w_tup (w_cons (w_var (x := .str u.1.1) rfl (w_cons (w_dgetV rfl (w_var (x := .str u.1.1) rfl ⟨_, _, rfl, val_some hn hu, w_nil ⟨sz2, ?_, ?_, rfl⟩⟩))))))))
  ·rw [List.length_map, List.length_take]; omega
  ·rw [take_map hw, seatW_of hn hu]; rfl
 ·rintro acc η ⟨rfl, rfl⟩
  rw [List.length_map, List.take_length]
  refine w_nil (q_tuplK ?_)
  have := flat_plan hn hy hs
  rw [← this] at hp
  unfold planK at hp
  rw [List.map_map] at hp
  exact hp
end
theorem names_ok {rs : List Trip} (hw : Rw rs) : Nms (rs.map (·.1)) := ⟨fun w h => by
 obtain ⟨r, hr, rfl⟩ := List.mem_map.mp h
 exact (hw.each r hr).1, asc_nodup hw⟩
structure ShowP (p : Pair) : Prop where
 l : p.1.length ≤ 8
 low : LowS p.1
 s0 : 0 ≤ p.2
 s1 : p.2 < 10 ^ 60
section
variable {K : PySem.W.Frag} {C : Addr} {args : List PV} {P : PV → Prop} {PF : List PV → Prop} {PR : PV → Ow → Prop} {o : Ow}
theorem rd_law_product (h : sp_law_product K C args P) : ts_law_product K C { nx := fun _ => P .non, rt := fun x _ => P x } (startP 6 args) := by
 obtain ⟨n, rs, rfl, n1, n2, hw, hp⟩ := h
 have e : startP 6 [.int n, rowsP rs] = [.va (.int n), .va (rowsP rs), .no, .no, .no, .no] := rfl
 rw [e]
 have sz : 1000 < sizeLine := by decide
 have hl := hw.len
 have ql := queue_len rs
 refine w_seq (w_asg (w_tup (w_cons (w_call (w_cons (w_var (x := rowsP rs) rfl (w_nil ⟨rs, rfl, hw, w_cons (w_con (w_nil ⟨sz2, ?_⟩))⟩)))))))
 refine w_gpS ?_
 simp only [List.set_cons_zero, List.set_cons_succ]
 refine w_seq (w_for (w_rng1 (w_cb (w_cons (w_var (x := .lst ((queueT rs).map rowP)) rfl (w_nil (q_len ?_)))))))
 rw [List.length_map]
 refine ⟨by omega, by omega, fun i η => ∃ s4, η = [.va (.int n), .va (rowsP rs), .va (.lst ((queueT rs).map rowP)), .va (.int (wholeL ((sizesI n (queueT rs)).take i))), s4, .no], ⟨_, rfl⟩, ?_, ?_⟩
 ·rintro i x η hi ⟨s4, rfl⟩
  obtain ⟨hin, rfl⟩ := rangeP_get hi
  have hil : i < (queueT rs).length := by omega
  have hr : (queueT rs)[i]? = some (queueT rs)[i] := List.getElem?_eq_getElem hil
  generalize (queueT rs)[i] = r at hr
  have hs : (sizesI n (queueT rs))[i]? = some (szAt n (queueT rs) i) := by
   unfold sizesI
   rw [List.getElem?_map, List.getElem?_range hil]
   rfl
  rw [show ((0 : Int) + (i : Int)) = (i : Int) from Int.zero_add _]
  have hb := szAt_bound (i := i) n1 n2 (show (queueT rs).length ≤ 24 by omega)
  refine w_gname ?_
  simp only [List.set_cons_zero, List.set_cons_succ]
  refine w_set (w_op (w_var (x := .int (wholeL ((sizesI n (queueT rs)).take i))) rfl (w_cb (w_cons (w_con (w_cons (w_op (w_var (x := .int n) rfl ?_))))))))
  refine w_cb (w_cons (w_val (w_lc (w_slice (w_var (x := .lst ((queueT rs).map rowP)) rfl (w_nop (w_part (w_var (x := .int (i : Int)) rfl (q_slL ?_)))))))))
  rw [cut_map (Int.natCast_nonneg i), Int.toNat_natCast]
  refine ⟨fun j acc η => acc = ((((queueT rs).take i).take j).filter (meetB r)).map rowP ∧ η = [.va (.int n), .va (rowsP rs), .va (.lst ((queueT rs).map rowP)), .va (.int (wholeL ((sizesI n (queueT rs)).take i))), .va (.int (i : Int)), .no], ⟨rfl, rfl⟩, ?_, ?_⟩
  ·rintro j x acc η hj ⟨rfl, rfl⟩
   rw [List.getElem?_map] at hj
   obtain ⟨u, hu, rfl⟩ := Option.map_eq_some_iff.mp hj
   refine w_gname (w_bl (w_call (w_cons (w_var (x := rowP u) rfl (w_cons (w_op (w_var (x := .lst ((queueT rs).map rowP)) rfl (w_var (x := .int (i : Int)) rfl (q_ix (x := rowP r) (atI_nat (by rw [List.getElem?_map, hr]; rfl)) (w_nil ⟨u, r, rfl, ?_⟩))))))))))
   have fl : ((((queueT rs).take i).take j).filter (meetB r)).length < sizeLine := by
    have h1 := List.length_filter_le (meetB r) (((queueT rs).take i).take j)
    rw [List.length_take, List.length_take] at h1
    omega
   rw [meet_commS u r]
   cases hm : meetB r u with
   | true =>
    refine q_iteT (w_var (x := rowP u) rfl ⟨by rw [List.length_map]; exact fl, ?_, rfl⟩)
    rw [take_filterT hu hm, List.map_append]
    rfl
   | false => exact q_iteF ⟨by rw [take_filterF hu hm], rfl⟩
  ·rintro acc η ⟨rfl, rfl⟩
   rw [List.length_map, List.take_length]
   refine w_nil (q_len ?_)
   rw [List.length_map]
   refine q_sub (w_nil (q_max ?_))
   rw [← szAt_eq hr, show (if szAt n (queueT rs) i > 0 then szAt n (queueT rs) i else 0) = max 0 (szAt n (queueT rs) i) by split <;> omega]
   refine q_mul (.inr ⟨by omega, by omega⟩) ?_
   simp only [List.set_cons_zero, List.set_cons_succ]
   refine ⟨.va (.int (i : Int)), ?_⟩
   rw [whole_take (n := n) hs]
 ·rintro η ⟨s4, rfl⟩
  rw [rangeP_len]
  have e2 : ((queueT rs).length : Int).toNat = (sizesI n (queueT rs)).length := by
   unfold sizesI
   rw [List.length_map, List.length_range]
   omega
  rw [e2, List.take_length]
  dsimp only
  exact w_ret (w_var (x := .int (wholeL (sizesI n (queueT rs)))) rfl hp)
theorem rd_law_long_case (h : sp_law_long_case K C o args PR) : ts_law_long_case K C { nx := fun η' => ∃ o', η'[0]? = some (Sl.ow o') ∧ PR .non o', rt := fun x η' => ∃ o', η'[0]? = some (Sl.ow o') ∧ PR x o' } (startR 5 o args) := by
 obtain ⟨po, rfl, hp⟩ := h
 have e : startR 5 o [] = [.ow o, .no, .no, .no, .no] := rfl
 rw [e]
 have sz : 1000 < sizeLine := by decide
 refine w_seq (w_par (w_arV (q_draw rfl rfl po (by decide) (by decide) fun o1 m p1 m0 m1 => w_arV (w_op (w_con (q_draw rfl rfl p1 (by decide) (by decide) fun o2 hh p2 h0 h1 => q_add (w_arN ⟨rfl, trivial, ?_⟩)))))))
 simp only [storesP, List.set_cons_zero, List.set_cons_succ]
 refine w_seq (w_set (w_callR rfl (w_cons (w_callR rfl (w_cons (w_var (x := .int m) rfl (w_nil (q_callM rfl ⟨m, p2, rfl, m0, by omega, fun o3 ws p3 wl wn => ?_⟩))))))))
 refine w_cons (w_var (x := .int (1 + hh)) rfl (w_nil (q_callM rfl ⟨ws, 1 + hh, p3, rfl, wn, by omega, by omega, by omega, fun o4 rs p4 hw hrl hb => ?_⟩)))
 have hn : Near rs := fun r hr => by
  have := (hb r hr).2
  have h4 : (10 : Int) ^ 40 ≤ 10 ^ 60 := by decide
  omega
 simp only [List.set_cons_zero, List.set_cons_succ]
 refine w_seq (w_set (w_op (w_call (w_cons (w_var (x := rowsP rs) rfl (w_nil ⟨rs, _, rfl, .inr rfl, hw.len, w_op (w_lst (w_cons (w_con (w_cons (w_con (w_cons (w_con (w_cons (w_con (w_nil ⟨by show 4 ≤ sizeLine; omega, ?_⟩))))))))))⟩))))))
 refine q_draw rfl rfl p4 (by decide) (by decide) fun o5 j p5 j0 j1 => ?_
 have ej : ∃ d : Int, atI [PV.int 0, PV.int 0, PV.int 1, PV.int 3] j = some (.int d) := by
  obtain rfl | rfl | rfl | rfl : j = 0 ∨ j = 1 ∨ j = 2 ∨ j = 3 := by omega
  ·exact ⟨0, rfl⟩
  ·exact ⟨0, rfl⟩
  ·exact ⟨1, rfl⟩
  ·exact ⟨3, rfl⟩
 obtain ⟨d, ed⟩ := ej
 refine q_ix ed (q_add ?_)
 simp only [List.set_cons_zero, List.set_cons_succ]
 have fin : ∀ (W : Int) (o6 : Ow), Pool o6 → tRetP (tLstP (tConsP (tCBP rMax2 (tConsP (tConP (.int 1)) (tConsP (tCBP rMin2 (tConsP (tConP (.int 20)) (tConsP (tVarP 4) (tNilP)))) (tNilP)))) (tConsP (tVarP 3) (tNilP)))) { nx := fun η' => ∃ o', η'[0]? = some (Sl.ow o') ∧ PR .non o', rt := fun x η' => ∃ o', η'[0]? = some (Sl.ow o') ∧ PR x o' } [.ow o6, .va (.int m), .va (.int (1 + hh)), .va (rowsP rs), .va (.int W)] := fun W o6 p6 => by
  refine w_ret (w_lst (w_cons (w_cb (w_cons (w_con (w_cons (w_cb (w_cons (w_con (w_cons (w_var (x := .int W) rfl (w_nil (q_min ?_)))))))))))))
  refine w_nil (q_max ?_)
  refine w_cons (w_var (x := rowsP rs) rfl (w_nil ⟨sz2, o6, rfl, hp _ rs o6 p6 ?_ ?_ hw hn⟩))
  ·split <;> (first | split | skip) <;> omega
  ·split <;> (first | split | skip) <;> omega
 refine w_seq (w_if (w_bl (w_op (q_draw rfl rfl p5 (by decide) (by decide) fun o6 t p6 t0 t1 => w_con (q_eqN (q_ite (fun _ => ?_) fun _ => ?_))))))
 ·refine w_set (w_op (w_con (q_draw rfl rfl p6 (by decide) (by decide) fun o7 t' p7 _ _ => q_add ?_)))
  simp only [List.set_cons_zero, List.set_cons_succ]
  exact fin _ _ p7
 ·exact w_next (fin _ _ p6)
theorem rd_law_sizes (h : sp_law_sizes K C args P) : ts_law_sizes K C { nx := fun _ => P .non, rt := fun x _ => P x } (startP 6 args) := by
 obtain ⟨n, rs, rfl, n1, n2, hw, hp⟩ := h
 have e : startP 6 [.int n, rowsP rs] = [.va (.int n), .va (rowsP rs), .no, .no, .no, .no] := rfl
 rw [e]
 have sz : 1000 < sizeLine := by decide
 have hl := hw.len
 have ql := queue_len rs
 refine w_seq (w_set (w_call (w_cons (w_var (x := rowsP rs) rfl (w_nil ⟨rs, rfl, hw, ?_⟩)))))
 simp only [List.set_cons_zero, List.set_cons_succ]
 refine w_seq (w_setF (by decide) (w_lstF (w_nil ⟨by show 0 ≤ sizeLine; omega, by show 3 < 6; decide, ?_⟩)))
 simp only [List.set_cons_zero, List.set_cons_succ]
 refine w_seq (w_for (w_rng1 (w_cb (w_cons (w_var (x := .lst ((queueT rs).map rowP)) rfl (w_nil (q_len ?_)))))))
 rw [List.length_map]
 refine ⟨by omega, by omega, fun i η => ∃ s4, η = [.va (.int n), .va (rowsP rs), .va (.lst ((queueT rs).map rowP)), .ow (.l (((sizesI n (queueT rs)).take i).map fun x => PV.int (max 0 x))), s4, .no], ⟨_, rfl⟩, ?_, ?_⟩
 ·rintro i x η hi ⟨s4, rfl⟩
  obtain ⟨hin, rfl⟩ := rangeP_get hi
  have hil : i < (queueT rs).length := by omega
  have hr : (queueT rs)[i]? = some (queueT rs)[i] := List.getElem?_eq_getElem hil
  generalize (queueT rs)[i] = r at hr
  have hs : (sizesI n (queueT rs))[i]? = some (szAt n (queueT rs) i) := by
   unfold sizesI
   rw [List.getElem?_map, List.getElem?_range hil]
   rfl
  have sl := sizes_len n (queueT rs)
  rw [show ((0 : Int) + (i : Int)) = (i : Int) from Int.zero_add _]
  have hb := szAt_bound (i := i) n1 n2 (show (queueT rs).length ≤ 24 by omega)
  refine w_gname ?_
  simp only [List.set_cons_zero, List.set_cons_succ]
  refine w_app rfl (w_cb (w_cons (w_con (w_cons (w_op (w_var (x := .int n) rfl ?_))))))
  refine w_cb (w_cons (w_val (w_lc (w_lstP (w_slice (w_var (x := .lst ((queueT rs).map rowP)) rfl (w_nop (w_part (w_var (x := .int (i : Int)) rfl (q_slL ?_))))))))))
  rw [cut_map (Int.natCast_nonneg i), Int.toNat_natCast]
  refine ⟨fun j acc η => acc = ((((queueT rs).take i).take j).filter (meetB r)).map rowP ∧ η = [.va (.int n), .va (rowsP rs), .va (.lst ((queueT rs).map rowP)), .ow (.l (((sizesI n (queueT rs)).take i).map fun x => PV.int (max 0 x))), .va (.int (i : Int)), .no], ⟨rfl, rfl⟩, ?_, ?_⟩
  ·rintro j x acc η hj ⟨rfl, rfl⟩
   rw [List.getElem?_map] at hj
   obtain ⟨u, hu, rfl⟩ := Option.map_eq_some_iff.mp hj
   refine w_gname (w_bl (w_call (w_cons (w_var (x := rowP u) rfl (w_cons (w_op (w_var (x := .lst ((queueT rs).map rowP)) rfl (w_var (x := .int (i : Int)) rfl (q_ix (x := rowP r) (atI_nat (by rw [List.getElem?_map, hr]; rfl)) (w_nil ⟨u, r, rfl, ?_⟩))))))))))
   have fl : ((((queueT rs).take i).take j).filter (meetB r)).length < sizeLine := by
    have h1 := List.length_filter_le (meetB r) (((queueT rs).take i).take j)
    rw [List.length_take, List.length_take] at h1
    omega
   rw [meet_commS u r]
   cases hm : meetB r u with
   | true =>
    refine q_iteT (w_var (x := rowP u) rfl ⟨by rw [List.length_map]; exact fl, ?_, rfl⟩)
    rw [take_filterT hu hm, List.map_append]
    rfl
   | false => exact q_iteF ⟨by rw [take_filterF hu hm], rfl⟩
  ·rintro acc η ⟨rfl, rfl⟩
   rw [List.length_map, List.take_length]
   refine w_nil (q_len ?_)
   rw [List.length_map]
   refine q_sub (w_nil (q_max ?_))
   rw [← szAt_eq hr, show (if szAt n (queueT rs) i > 0 then szAt n (queueT rs) i else 0) = max 0 (szAt n (queueT rs) i) by split <;> omega]
   refine q_appM rfl ?_ ?_
   ·rw [List.length_map, List.length_take]; omega
   simp only [List.set_cons_zero, List.set_cons_succ]
   refine ⟨.va (.int (i : Int)), ?_⟩
   rw [take_map hs]
 ·rintro η ⟨s4, rfl⟩
  rw [rangeP_len]
  have e2 : ((queueT rs).length : Int).toNat = (sizesI n (queueT rs)).length := by
   unfold sizesI
   rw [List.length_map, List.length_range]
   omega
  rw [e2, List.take_length]
  dsimp only
  exact w_ret (w_varO (o := .l ((sizesI n (queueT rs)).map fun x => PV.int (max 0 x))) rfl hp)
theorem rd_law_spots_at (h : sp_law_spots_at K C args P) : ts_law_spots_at K C { nx := fun _ => P .non, rt := fun x _ => P x } (startP 8 args) := by
 obtain ⟨n, rs, m, rfl, n1, n2, hw, ho, m0, m1, hp⟩ := h
 have e : startP 8 [.int n, rowsP rs, .int m] = [.va (.int n), .va (rowsP rs), .va (.int m), .no, .no, .no, .no, .no] := rfl
 rw [e]
 have sz : 1000 < sizeLine := by decide
 have hl := hw.len
 have ql := queue_len rs
 have sl := sizes_len n (queueT rs)
 have kb : ∀ k ∈ sizesI n (queueT rs), 1 ≤ k ∧ k ≤ 20 := fun k hk => by
  obtain ⟨i, hi, rfl⟩ := List.mem_iff_getElem.mp hk
  rw [sl] at hi
  have := sizes_get (n := n) hi
  rw [List.getElem?_eq_getElem (by rw [sl]; exact hi)] at this
  rw [Option.some.inj this]
  exact ⟨over_pos hw ho i hi, (szAt_bound n1 n2 (by omega)).2⟩
 refine w_seq (w_par (w_arF (w_lstF (w_nil ⟨Nat.zero_le _, w_arFD (w_dicF (w_arN ⟨rfl, ⟨by decide, by show 3 < 8; decide, by decide, by show 4 < 8; decide, trivial⟩, ?_⟩))⟩))))
 simp only [storesP, List.set_cons_zero, List.set_cons_succ]
 refine w_seq (w_for (w_lstP (w_revL (w_call (w_cons (w_var (x := .int n) rfl (w_cons (w_var (x := rowsP rs) rfl (w_nil ⟨n, rs, rfl, n1, n2, hw, ?_⟩)))))))))
 have es : ((sizesI n (queueT rs)).map fun x => PV.int (max 0 x)) = (sizesI n (queueT rs)).map .int := List.map_congr_left fun k hk => by
  have := (kb k hk).1
  rw [show max 0 k = k by omega]
 rw [es]
 have dok := digits_ok (m := m) hw ho
 have dl : (digitsL m (sizesI n (queueT rs))).length = rs.length := by rw [digits_len, sl, ql]
 have de : digitsL m (sizesI n (queueT rs)) = (digR m (sizesI n (queueT rs)).reverse).reverse := rfl
 unfold planN seatsN at hp
 show ∃ Inv : Nat → EP' → Prop, _
 rw [← List.map_reverse]
 generalize hks : sizesI n (queueT rs) = ks at kb sl dok dl hp de ⊢
 refine ⟨fun i η => ∃ s5 s6, η = [.va (.int n), .va (rowsP rs), .va (.int (remR m (ks.reverse.take i))), .ow (.l ((digR m (ks.reverse.take i)).map .int)), .ow (.d []), s5, s6, .no], ⟨_, _, rfl⟩, ?_, ?_⟩
 ·rintro i x η hi ⟨s5, s6, rfl⟩
  rw [List.getElem?_map] at hi
  obtain ⟨k, hk, rfl⟩ := Option.map_eq_some_iff.mp hi
  obtain ⟨k1, k2⟩ := kb k (List.mem_reverse.mp (List.mem_of_getElem? hk))
  have et : ks.reverse.take (i + 1) = ks.reverse.take i ++ [k] := by rw [List.take_succ, hk]; rfl
  have b40 : (20 : Int) < 10 ^ 40 := by decide
  refine w_gname ?_
  simp only [List.set_cons_zero, List.set_cons_succ]
  refine w_seq (w_asg (w_cb (w_cons (w_var (x := .int (remR m (ks.reverse.take i))) rfl (w_cons (w_var (x := .int k) rfl (w_nil (q_divmodW (cdivW (by omega) (by omega)) ?_))))))))
  refine w_gpS ?_
  simp only [List.set_cons_zero, List.set_cons_succ]
  refine w_app (xs := (digR m (ks.reverse.take i)).map .int) rfl (w_var (x := .int (remR m (ks.reverse.take i) % k)) rfl (q_appM rfl ?_ ?_))
  ·rw [List.length_map, digR_len, List.length_take, List.length_reverse]; omega
  simp only [List.set_cons_zero, List.set_cons_succ]
  exact ⟨.va (.int k), .va (.int (remR m (ks.reverse.take i) % k)), by rw [et, digR_snoc, remR_snoc, List.map_append]; rfl⟩
 ·rintro η ⟨s5, s6, rfl⟩
  rw [List.length_map, List.take_length]
  generalize remR m ks.reverse = mm
  dsimp only
  refine w_seq (w_for (w_zipT (w_cons (w_call (w_cons (w_var (x := rowsP rs) rfl (w_nil ⟨rs, rfl, hw, ?_⟩)))))))
  refine w_cons (w_revL (w_varO (o := .l ((digR m ks.reverse).map .int)) rfl ?_))
  show tNilP _ _
  refine w_nil ?_
  show ∃ Inv : Nat → EP' → Prop, _
  have er : ((digR m ks.reverse).map PV.int).reverse = (digitsL m ks).map .int := by rw [de, List.map_reverse]
  rw [er]
  generalize digitsL m ks = ds at dok dl hp
  simp only [List.set_cons_zero, List.set_cons_succ]
  refine ⟨fun i η => ∃ s5 s6 s7, η = [.va (.int n), .va (rowsP rs), .va (.int mm), .va (frz (.l ((digR m ks.reverse).map .int))), .ow (.d (dicS (seatAll n ((queueT rs).take i) (ds.take i) []))), s5, s6, s7], ⟨_, _, _, rfl⟩, ?_, ?_⟩
  ·rintro i x η hi ⟨s5, s6, s7, rfl⟩
   obtain ⟨y, z, hy, hz, rfl⟩ := zipP_get hi
   rw [List.getElem?_map] at hy hz
   obtain ⟨r, hr, rfl⟩ := Option.map_eq_some_iff.mp hy
   obtain ⟨d, hd, rfl⟩ := Option.map_eq_some_iff.mp hz
   obtain ⟨d0, d1⟩ := dok i d hd
   have hil : i < (queueT rs).length := (List.getElem?_eq_some_iff.mp hr).1
   have ix := seat_ix (n := n) (by omega) (by omega) hr hd d0 d1
   have sf := seatAll_fst n ((queueT rs).take i) (ds.take i) [] (by rw [List.length_take, List.length_take]; omega)
   rw [show ([] : List Seat).map (·.1) ++ (queueT rs).take i = (queueT rs).take i from rfl] at sf
   have es : seatAll n ((queueT rs).take (i + 1)) (ds.take (i + 1)) [] = seatAll n ((queueT rs).take i) (ds.take i) [] ++ [(r, (leftL n r (seatAll n ((queueT rs).take i) (ds.take i) [])).getD d.toNat 0)] := by
    rw [List.take_succ, hr, List.take_succ, hd]
    exact seatAll_snoc n r d _ _ _ (by rw [List.length_take, List.length_take]; omega)
   generalize seatAll n ((queueT rs).take i) (ds.take i) [] = sd at ix sf es
   have hnq : (((queueT rs).take (i + 1)).map (·.1)).Nodup := (((queue_perm rs).map _).nodup_iff.mpr (asc_nodup hw)).sublist ((List.take_sublist _ _).map _)
   have et : (queueT rs).take (i + 1) = (queueT rs).take i ++ [r] := by rw [List.take_succ, hr]; rfl
   rw [et, List.map_append, List.nodup_append] at hnq
   have hmem : ∀ x ∈ sd, x.1 ∈ (queueT rs).take i := fun x hx => by rw [← sf]; exact List.mem_map.mpr ⟨x, hx, rfl⟩
   have fr : ∀ x ∈ sd, x.1.1 ≠ r.1 := fun x hx e => hnq.2.2 x.1.1 (List.mem_map.mpr ⟨x.1, hmem x hx, rfl⟩) r.1 (by simp) e
   have hin : ∀ x ∈ sd, x.1 ∈ rs := fun x hx => (queue_perm rs).mem_iff.mp (List.mem_of_mem_take (hmem x hx))
   have hnd : (sd.map (·.1)).Nodup := by rw [sf]; exact nodup_of_names hnq.1
   have sdl : sd.length ≤ 24 := by
    have := congrArg List.length sf
    rw [List.length_map, List.length_take] at this
    omega
   refine w_gpS ?_
   simp only [List.set_cons_zero, List.set_cons_succ]
   refine w_dput (w_op (w_val (w_callFB (w_bv (w_var (x := .int n) rfl (w_bv (w_var (x := rowsP rs) rfl (w_bb rfl (w_bv (w_var (x := rowP r) rfl (w_nilB ⟨_, rfl, n, rs, sd, r, rfl, by omega, n2, hw, hin, hnd, tp_ints _, ?_⟩)))))))))))
   refine w_var (x := .int d) rfl (q_ix (at_map 0 d0 (by omega)) ?_)
   refine ⟨⟨_, rfl⟩, w_op (w_var (x := rowP r) rfl (w_con (q_ixT (x := .str r.1) rfl (q_putM rfl rfl ?_ ?_))))⟩
   ·unfold dicS; rw [List.length_map]; omega
   rw [put_dicS fr]
   simp only [List.set_cons_zero, List.set_cons_succ]
   exact ⟨_, .va (.int d), .va (rowP r), by rw [es]⟩
  ·rintro η ⟨s5, s6, s7, rfl⟩
   rw [zipP_len (by rw [List.length_map, List.length_map]; omega), List.length_map, List.take_length, show (queueT rs).length = ds.length by omega, List.take_length]
   have hf := seatAll_fst n (queueT rs) ds [] (by omega)
   have hnd : ((seatAll n (queueT rs) ds []).map fun x => x.1.1).Nodup := by
    have e1 : ((seatAll n (queueT rs) ds []).map fun x => x.1.1) = (queueT rs).map (·.1) := by
     have := congrArg (List.map fun r : Trip => r.1) hf
     rw [List.map_map] at this
     exact this
    rw [e1]
    exact ((queue_perm rs).map _).nodup_iff.mpr (asc_nodup hw)
   have hsl : (seatAll n (queueT rs) ds []).length ≤ 24 := by
    have := congrArg List.length hf
    rw [List.length_map, List.length_append] at this
    simp at this
    omega
   exact w_ret (w_callB (w_bb rfl (w_nilB ⟨_, rfl, _, rfl, hnd, hsl, tp_planK _, hp⟩)))
end
theorem over_count {n : Int} {rs : List Trip} (hw : Rw rs) : (overR n rs).isNone = decide (0 < countI n rs) := by
 cases ho : overR n rs with
 | none =>
  rw [count_none ho]
  have := prodI_pos (sizes_one hw ho)
  exact (decide_eq_true (by omega)).symm
 | some r =>
  rw [count_some ho]; rfl
theorem toDs_intsA : ∀ ns : List Int, toDs (ns.map .int) = some (ns.map PyData.int)
 | [] => rfl
 | n :: ns => by rw [List.map_cons, toDs, toDs_intsA ns]; rfl
theorem canLay_ints : ∀ ns : List Int, PyData.canLayAll0 (ns.map PyData.int) = true
 | [] => rfl
 | n :: ns => by rw [List.map_cons, PyData.canLayAll0, canLay_ints ns]; rfl
theorem depth_ints : ∀ ns : List Int, PyData.depthAll (ns.map PyData.int) ≤ 1
 | [] => by simp [PyData.depthAll]
 | n :: ns => by
  have := depth_ints ns
  rw [List.map_cons, PyData.depthAll, PyData.depth]
  omega
theorem shaped_ints (ns : List Int) : SeqAt.shaped (.list (ns.map PyData.int)) = true := by
 unfold SeqAt.shaped
 have := depth_ints ns
 rw [PyData.canLay0, canLay_ints, Bool.true_and]
 refine decide_eq_true ?_
 rw [PyData.depth]
 omega
theorem q_eqNilI {ns : List Int} {P : PV → Prop} (h : P (.bl (decide (ns = [])))) : rEqP false (.lst (ns.map .int)) (.lst []) P := by
 refine ⟨.list (ns.map PyData.int), .list [], by rw [toD, toDs_intsA]; rfl, rfl, shaped_ints ns, shaped_ints [], ?_⟩
 have e : PyData.eqv (.list (ns.map PyData.int)) (.list []) = decide (ns = []) := by
  cases ns with
  | nil => rfl
  | cons n ns => rw [List.map_cons, PyData.eqv, PyData.eqvAll]; rfl
 rw [e]
 simpa using h
theorem beq_eq_dec (a b : Str) : (a == b) = decide (a = b) := by
 rw [Bool.eq_iff_iff, decide_eq_true_iff]; exact beq_iff_eq
theorem bad_at {n : Int} {rs : List Trip} {xs : List PV} {i : Nat} (h : validGo n rs xs [] = i) (hi : i < xs.length) : isPlanB n rs (.tup xs) = false := by
 show (decide ((xs.length : Int) = (rs.length : Int)) && decide ((validGo n rs xs [] : Int) = (xs.length : Int))) = false
 rw [h, decide_eq_false (p := ((i : Int) = (xs.length : Int))) (by omega), Bool.and_false]
def sameNm (z : Str) : PV → Bool
 | .str w => decide (w = z)
 | _ => false
theorem eqv_str {a : PV} {d : PyData} {z : Str} (h : toD a = some d) : PyData.eqv d (.str z) = sameNm z a := by
 cases a with
 | str w => unfold toD at h; cases h; rw [PyData.eqv]; show (w == z) = decide (w = z); exact beq_eq_dec w z
 | non => unfold toD at h; cases h; rfl
 | bl _ => unfold toD at h; cases h; rfl
 | int _ => unfold toD at h; cases h; rfl
 | tup xs => unfold toD at h; obtain ⟨ds, _, rfl⟩ := Option.map_eq_some_iff.mp h; rw [PyData.eqv]; rfl
 | lst xs => unfold toD at h; obtain ⟨ds, _, rfl⟩ := Option.map_eq_some_iff.mp h; rw [PyData.eqv]; rfl
 | pln xs => unfold toD at h; obtain ⟨ds, _, rfl⟩ := Option.map_eq_some_iff.mp h; rw [PyData.eqv]; rfl
 | dic _ => unfold toD at h; cases h
 | scr _ => unfold toD at h; cases h
 | ins _ _ => unfold toD at h; cases h
 | raw _ => unfold toD at h; cases h
 | exn _ _ _ => unfold toD at h; cases h
theorem shaped_nm {z : Str} (h : LowS z) : SeqAt.shaped (.str z) = true := by
 have so : PyData.strOk z = true := by
  unfold PyData.strOk
  rw [Array.all_eq_true']
  intro c hc
  have := h c (Array.mem_def.mp hc)
  exact decide_eq_true (by omega)
 simp [SeqAt.shaped, PyData.canLay0, PyData.depth, so]
theorem w_nameNe {ta tb : TEp} {η η1 η2 : EP'} {a : PV} {z : Str} {Q : Bool → EP' → Prop} (hz : LowS z) (ha : (∃ d, toD a = some d ∧ SeqAt.shaped d = true) ∨ ∃ kvs, a = .dic kvs)
  (h1 : ∀ Q : PV → EP' → Prop, Q a η1 → ta η Q) (h2 : ∀ Q : PV → EP' → Prop, Q (.str z) η2 → tb η1 Q) (h : Q (!sameNm z a) η2) : tEitT (tBlP (tOpP (rEqP true) ta tb)) (tBlP (tOpP rNeDS ta tb)) η Q := by
 rcases ha with ⟨d, td, sd⟩ | ⟨kvs, rfl⟩
 ·refine .inl (h1 _ (h2 _ ⟨d, .str z, td, rfl, sd, shaped_nm hz, ?_⟩))
  rw [eqv_str td]
  exact h
 ·exact .inr (h1 _ (h2 _ h))
section
variable {K : PySem.W.Frag} {C : Addr} {args : List PV} {P : PV → Prop} {PF : List PV → Prop} {PR : PV → Ow → Prop} {o : Ow}
theorem rd_law_drawnN (h : sp_law_drawnN K C o args PR) : ts_law_drawnN K C { nx := fun η' => ∃ o', η'[0]? = some (Sl.ow o') ∧ PR .non o', rt := fun x η' => ∃ o', η'[0]? = some (Sl.ow o') ∧ PR x o' } (startR 6 o args) := by
 obtain ⟨n, rs, po, rfl, n1, n2, hw, hno, hp⟩ := h
 have e : startR 6 o [.int n, rowsP rs] = [.ow o, .va (.int n), .va (rowsP rs), .no, .no, .no] := rfl
 rw [e]
 have sz : 1000 < sizeLine := by decide
 have hl := hw.len
 have ql := queue_len rs
 have up := queue_up rs
 refine w_seq (w_setFD (by decide) (w_dicF ⟨by show 3 < 6; decide, ?_⟩))
 simp only [List.set_cons_zero, List.set_cons_succ]
 refine w_seq (w_for (w_lstP (w_call (w_cons (w_var (x := rowsP rs) rfl (w_nil ⟨rs, rfl, hw, ?_⟩))))))
 refine ⟨fun i η => ∃ (o' : Ow) (t : List Seat) (s4 s5 : Sl), Pool o' ∧ t.map (·.1) = (queueT rs).take i ∧ GoodS n t ∧ η = [.ow o', .va (.int n), .va (rowsP rs), .ow (.d (dicS t)), s4, s5], ⟨o, [], _, _, po, rfl, ⟨List.Pairwise.nil, fun _ z => by cases z⟩, rfl⟩, ?_, ?_⟩
 ·rintro i x η hi ⟨o1, t, s4, s5, p1, tf, g, rfl⟩
  rw [List.getElem?_map] at hi
  obtain ⟨r, hr, rfl⟩ := Option.map_eq_some_iff.mp hi
  have hil : i < (queueT rs).length := (List.getElem?_eq_some_iff.mp hr).1
  have hnq : (((queueT rs).take (i + 1)).map (·.1)).Nodup := (((queue_perm rs).map _).nodup_iff.mpr (asc_nodup hw)).sublist ((List.take_sublist _ _).map _)
  have et : (queueT rs).take (i + 1) = (queueT rs).take i ++ [r] := by rw [List.take_succ, hr]; rfl
  rw [et, List.map_append, List.nodup_append] at hnq
  have hmem : ∀ x ∈ t, x.1 ∈ (queueT rs).take i := fun x hx => by rw [← tf]; exact List.mem_map.mpr ⟨x, hx, rfl⟩
  have fr : ∀ x ∈ t, x.1.1 ≠ r.1 := fun x hx e => hnq.2.2 x.1.1 (List.mem_map.mpr ⟨x.1, hmem x hx, rfl⟩) r.1 (by simp) e
  have hin : ∀ x ∈ t, x.1 ∈ rs := fun x hx => (queue_perm rs).mem_iff.mp (List.mem_of_mem_take (hmem x hx))
  have hnd : (t.map (·.1)).Nodup := by rw [tf]; exact nodup_of_names hnq.1
  have tl : t.length ≤ 24 := by
   have := congrArg List.length tf
   rw [List.length_map, List.length_take] at this
   omega
  have hst : ∀ x ∈ t, x.1.2.1 ≤ r.2.1 := fun x hx => by
   obtain ⟨j, hj, e⟩ := List.mem_iff_getElem.mp (hmem x hx)
   rw [List.length_take] at hj
   rw [List.getElem_take] at e
   obtain ⟨hi, er⟩ := List.getElem?_eq_some_iff.mp hr
   have := List.pairwise_iff_getElem.mp up j i (by omega) hi (by omega)
   rw [e, er] at this
   exact this
  have hlen : ((leftL n r t).length : Int) = szAt n (queueT rs) i := by
   rw [left_exact (by omega) g hst, szAt_eq hr, ← tf, List.filter_map, List.length_map]
   rfl
  have hpos : overR n rs = none → 1 ≤ szAt n (queueT rs) i := fun ho => over_pos hw ho i hil
  have ll : (leftL n r t).length ≤ n.toNat := left_le
  have hmemL : ∀ k : Int, 0 ≤ k → k < ((leftL n r t).length : Int) → (leftL n r t).getD k.toNat 0 ∈ leftL n r t := fun k k0 k1 => getD_memS (by omega)
  have gs := fun {s : Int} (hs : s ∈ leftL n r t) => good_snoc g hs
  refine w_gname ?_
  simp only [List.set_cons_zero, List.set_cons_succ]
  refine w_seq (w_set (w_val (w_callFB (w_bv (w_var (x := .int n) rfl (w_bv (w_var (x := rowsP rs) rfl (w_bb rfl (w_bv (w_var (x := rowP r) rfl (w_nilB ⟨_, rfl, n, rs, t, r, rfl, by omega, n2, hw, hin, hnd, tp_ints _, ?_⟩)))))))))))
  simp only [List.set_cons_zero, List.set_cons_succ]
  generalize leftL n r t = L at hlen ll hmemL gs ⊢
  refine w_seq (w_if (w_bl (w_op (w_var (x := .lst (L.map .int)) rfl (w_lst (w_nil ⟨by show 0 ≤ sizeLine; omega, q_eqNilI ?_⟩))))))
  refine q_ite (fun hL => ?_) fun hne => w_next ?_
  ·have ho : overR n rs ≠ none := fun e => by
    have := hpos e
    rw [hL] at hlen
    simp at hlen
    omega
   exact w_ret (w_con ⟨_, rfl, hno ho _ p1⟩)
  have hL0 : 0 < L.length := List.length_pos_iff.mpr hne
  dsimp only
  refine w_dput (w_op (w_var (x := .lst (L.map .int)) rfl (w_callR rfl (w_cons (w_cb (w_cons (w_var (x := .lst (L.map .int)) rfl (w_nil (q_len ?_)))))))))
  rw [List.length_map]
  have b40 : (20 : Int) < 10 ^ 40 := by decide
  refine w_nil (q_callM rfl ⟨(L.length : Int), p1, rfl, by omega, by omega, fun o2 k p2 k0 k1 => ?_⟩)
  refine q_ix (at_map 0 k0 k1) ⟨⟨_, rfl⟩, w_op (w_var (x := rowP r) rfl (w_con (q_ixT (x := .str r.1) rfl (q_putM rfl rfl ?_ ?_))))⟩
  ·unfold dicS; rw [List.length_map]; omega
  rw [put_dicS fr]
  simp only [List.set_cons_zero, List.set_cons_succ]
  exact ⟨o2, t ++ [(r, L.getD k.toNat 0)], _, _, p2, by rw [List.map_append, tf, et]; rfl, gs (hmemL k k0 k1), rfl⟩
 ·rintro η ⟨o1, t, s4, s5, p1, tf, g, rfl⟩
  rw [List.length_map, List.take_length] at tf
  dsimp only
  have tp : (t.map (·.1)).Perm rs := by rw [tf]; exact queue_perm rs
  have nm := fst_nodup hw tp
  have tl : t.length ≤ 24 := by
   have := tp.length_eq
   rw [List.length_map] at this
   omega
  obtain ⟨sd, e1, e2, g'⟩ := planok_of hw tp g (planOf_perm t) (planOf_asc nm)
  refine w_ret (w_callB (w_bb rfl (w_nilB ⟨_, rfl, t, rfl, nm, tl, tp_planK _, o1, rfl, ?_⟩)))
  rw [← e2]
  exact hp sd o1 p1 e1 g'
theorem rd_law_some_planN (h : sp_law_some_planN K C o args PR) : ts_law_some_planN K C { nx := fun η' => ∃ o', η'[0]? = some (Sl.ow o') ∧ PR .non o', rt := fun x η' => ∃ o', η'[0]? = some (Sl.ow o') ∧ PR x o' } (startR 4 o args) := by
 obtain ⟨n, rs, po, rfl, n1, n2, hw, hno, hp⟩ := h
 have e : startR 4 o [.int n, rowsP rs] = [.ow o, .va (.int n), .va (rowsP rs), .no] := rfl
 rw [e]
 have oc := over_count (n := n) hw
 have cb := count_bound n1 n2 hw
 have b4 : (10 : Int) ^ 40 < 10 ^ 70 := by decide
 refine w_seq (w_if (w_bl (w_op (q_draw rfl rfl po (by decide) (by decide) fun o1 k p1 _ _ => w_con (q_eqN (q_ite (fun _ => ?_) fun _ => ?_))))))
 ·exact w_ret (w_callR rfl (w_cons (w_var (x := .int n) rfl (w_cons (w_var (x := rowsP rs) rfl (w_nil (q_callM rfl ⟨n, rs, p1, rfl, n1, n2, hw, fun ho o' p' => ⟨o', rfl, hno ho o' p'⟩, fun sd o' p' e g => ⟨o', rfl, hp sd o' p' e g⟩⟩)))))))
 ·refine w_next ?_
  dsimp only
  refine w_seq (w_set (w_call (w_cons (w_var (x := .int n) rfl (w_cons (w_var (x := rowsP rs) rfl (w_nil ⟨n, rs, rfl, n1, n2, hw, ?_⟩)))))))
  rw [← count_whole hw]
  simp only [List.set_cons_zero, List.set_cons_succ]
  refine w_ret (w_ife (w_bl (w_op (w_var (x := .int (countI n rs)) rfl (w_con (q_gt ?_))))))
  cases ho : overR n rs with
  | some r =>
   rw [ho] at oc
   rw [show decide (0 < countI n rs) = false from oc.symm]
   exact q_iteF (w_con ⟨o1, rfl, hno (by rw [ho]; exact fun z => nomatch z) o1 p1⟩)
  | none =>
   rw [ho] at oc
   have oc' : decide (0 < countI n rs) = true := oc.symm
   have cp := of_decide_eq_true oc'
   rw [oc']
   refine q_iteT (w_call (w_cons (w_var (x := .int n) rfl (w_cons (w_var (x := rowsP rs) rfl (w_cons (w_callR rfl (w_cons (w_var (x := .int (countI n rs)) rfl (w_nil (q_callM rfl ⟨countI n rs, p1, rfl, cp, by omega, fun o2 m p2 m0 m1 => ?_⟩)))))))))))
   refine w_nil ⟨n, rs, m, rfl, n1, n2, hw, ho, m0, by omega, ?_⟩
   obtain ⟨h1, g⟩ := seatsN_ok (m := m) n1 hw ho
   have nm := fst_nodup hw h1
   obtain ⟨sd, e1, e2, g'⟩ := planok_of hw h1 g (planOf_perm _) (planOf_asc nm)
   refine ⟨o2, rfl, ?_⟩
   unfold planN
   rw [← e2]
   exact hp sd o2 p2 e1 g'
theorem rd_law_fault (h : sp_law_fault K C args P) : ts_law_fault K C { nx := fun _ => P .non, rt := fun x _ => P x } (startP 6 args) := by
 obtain ⟨n, rs, x, rfl, n1, n2, hw, ⟨hk, hx⟩, hyes, hno⟩ := h
 have e : startP 6 [.int n, rowsP rs, x] = [.va (.int n), .va (rowsP rs), .va x, .no, .no, .no] := rfl
 rw [e]
 have sz : 1000 < sizeLine := by decide
 have hl := hw.len
 refine w_seq (w_if (w_not (w_bl (w_cb (w_cons (w_var (x := x) rfl (w_cons (w_con (w_nil (isi_tuple hk ?_))))))))))
 cases hT : isTu x with
 | false =>
  refine q_iteT (w_ret (w_lst (w_cons (w_con (w_nil ⟨sz1, hno ?_ _ (.inl rfl)⟩)))))
  cases x <;> first | rfl | cases hT
 | true =>
  obtain ⟨xs, rfl⟩ : ∃ xs, x = .tup xs := by cases x <;> first | exact ⟨_, rfl⟩ | cases hT
  obtain ⟨xl, hx⟩ := hx xs rfl
  refine q_iteF (w_next ?_)
  dsimp only
  refine w_seq (w_for (w_rng1 (w_cb (w_cons (w_var (x := .tup xs) rfl (w_nil (q_lenT ?_)))))))
  refine ⟨by omega, by omega, fun i η => ∃ (sd : List Seat) (s3 s4 s5 : Sl), sd.length = i ∧ i ≤ rs.length ∧ sd.map (·.1) = rs.take i ∧ xs.take i = (sd.map seatPair).map pairS ∧ validGo n rs xs [] = validGo n (rs.drop i) (xs.drop i) sd ∧ η = [.va (.int n), .va (rowsP rs), .va (.tup xs), s3, s4, s5],
   ⟨[], _, _, _, rfl, Nat.zero_le _, rfl, rfl, rfl, rfl⟩, ?_, ?_⟩
  ·rintro i x η hi ⟨sd, s3, s4, s5, sl, il, sf, sx, hv, rfl⟩
   obtain ⟨hin, rfl⟩ := rangeP_get hi
   have hil : i < xs.length := by omega
   rw [show ((0 : Int) + (i : Int)) = (i : Int) from Int.zero_add _]
   obtain ⟨z, hz⟩ : ∃ z, xs[i]? = some z := ⟨_, List.getElem?_eq_getElem hil⟩
   have hkz := hx z (List.mem_of_getElem? hz)
   have out : isPlanB n rs (.tup xs) = false → P (.lst [.int (i : Int)]) := fun b => hno b _ (.inr ⟨i, rfl⟩)
   have ret : ∀ {s5 : Sl}, isPlanB n rs (.tup xs) = false → tRetP (tLstP (tConsP (tVarP 3) (tNilP))) { nx := fun η' => ∃ (sd : List Seat) (s3 s4 s5 : Sl), sd.length = i + 1 ∧ i + 1 ≤ rs.length ∧ sd.map (·.1) = rs.take (i + 1) ∧ xs.take (i + 1) = (sd.map seatPair).map pairS ∧ validGo n rs xs [] = validGo n (rs.drop (i + 1)) (xs.drop (i + 1)) sd ∧ η' = [.va (.int n), .va (rowsP rs), .va (.tup xs), s3, s4, s5], rt := fun x _ => P x } [.va (.int n), .va (rowsP rs), .va (.tup xs), .va (.int (i : Int)), .va z, s5] := fun b =>
    w_ret (w_lst (w_cons (w_var (x := .int (i : Int)) rfl (w_nil ⟨sz1, out b⟩))))
   refine w_gname ?_
   simp only [List.set_cons_zero, List.set_cons_succ]
   refine w_seq (w_set (w_op (w_var (x := .tup xs) rfl (w_var (x := .int (i : Int)) rfl (q_ixT (atI_nat hz) ?_)))))
   simp only [List.set_cons_zero, List.set_cons_succ]
   refine w_seq (w_if (w_or (w_bl (w_op (w_var (x := .int (i : Int)) rfl (w_cb (w_cons (w_var (x := rowsP rs) rfl (w_nil (q_lenT (q_ge ?_)))))))))))
   rw [List.length_map]
   refine q_ite (fun ge => q_iteT (w_ret (w_lst (w_cons (w_var (x := .int (i : Int)) rfl (w_nil ⟨sz1, out ?_⟩)))))) fun lt => ?_
   ·show (decide ((xs.length : Int) = (rs.length : Int)) && _) = false
    rw [decide_eq_false (by omega), Bool.false_and]
   have hir : i < rs.length := by omega
   obtain ⟨r, hr⟩ : ∃ r, rs[i]? = some r := ⟨_, List.getElem?_eq_getElem hir⟩
   have hrm := List.mem_of_getElem? hr
   have ed : rs.drop i = r :: rs.drop (i + 1) := by obtain ⟨h1, h2⟩ := List.getElem?_eq_some_iff.mp hr; rw [← h2, List.getElem_cons_drop]
   have ex : xs.drop i = z :: xs.drop (i + 1) := by obtain ⟨h1, h2⟩ := List.getElem?_eq_some_iff.mp hz; rw [← h2, List.getElem_cons_drop]
   have hv2 : validGo n rs xs [] = match seatV n r sd z with
    | some s => validGo n (rs.drop (i + 1)) (xs.drop (i + 1)) (sd ++ [(r, s)])
    | none => sd.length := by rw [hv, ed, ex]; rfl
   have bad : seatV n r sd z = none → isPlanB n rs (.tup xs) = false := fun q => by
    rw [q] at hv2
    exact bad_at hv2 (by rw [sl]; exact hil)
   refine w_or (w_not (w_bl (w_cb (w_cons (w_var (x := z) rfl (w_cons (w_con (w_nil (isi_tuple hkz.1.1 ?_)))))))))
   cases hzT : isTu z with
   | false => exact q_iteT (q_iteT (w_ret (w_lst (w_cons (w_var (x := .int (i : Int)) rfl (w_nil ⟨sz1, out (bad (by cases z <;> first | rfl | cases hzT))⟩))))))
   | true =>
   obtain ⟨ys, rfl⟩ : ∃ ys, z = .tup ys := by cases z <;> first | exact ⟨_, rfl⟩ | cases hzT
   refine q_iteF (w_or (w_bl (w_op (w_cb (w_cons (w_var (x := .tup ys) rfl (w_nil (q_lenT (w_con (q_neN ?_))))))))))
   by_cases len : (ys.length : Int) = 2
   case neg =>
    rw [decide_eq_false len]
    refine q_iteT (q_iteT (w_ret (w_lst (w_cons (w_var (x := .int (i : Int)) rfl (w_nil ⟨sz1, out (bad ?_)⟩))))))
    unfold seatV
    split
    ·rename_i heq; cases heq; exact absurd rfl len
    ·rfl
   rw [decide_eq_true len]
   refine q_iteF ?_
   obtain ⟨a, b, rfl⟩ : ∃ a b, ys = [a, b] := by
    match ys, len with
    | [a, b], _ => exact ⟨a, b, rfl⟩
    | [], len => simp at len
    | [_], len => simp at len
    | _ :: _ :: _ :: _, len => simp at len; omega
   obtain ⟨⟨_, hab⟩, hcmp⟩ := hkz
   obtain ⟨ka, kb⟩ := hab a b rfl
   have hlow := (rw_good hw r hrm).low
   refine w_nameNe (a := a) (z := r.1) hlow (hcmp a b rfl) (fun Q q => w_op (w_var (x := .tup [a, b]) rfl (w_con (q_ixT (x := a) rfl q)))) (fun Q q => w_op (w_op (w_var (x := rowsP rs) rfl (w_var (x := .int (i : Int)) rfl (q_ixT (x := rowP r) (atI_nat (by rw [List.getElem?_map, hr]; rfl)) (w_con (q_ixT (x := .str r.1) rfl q))))))) ?_
   cases hsame : sameNm r.1 a with
   | false =>
    refine q_iteT (w_ret (w_lst (w_cons (w_var (x := .int (i : Int)) rfl (w_nil ⟨sz1, out (bad ?_)⟩)))))
    unfold seatV
    split
    ·rename_i w s heq
     cases heq
     rw [if_neg]
     rintro ⟨rfl, _⟩
     unfold sameNm at hsame
     simp at hsame
    ·rfl
   | true =>
   obtain rfl : a = .str r.1 := by
    unfold sameNm at hsame
    split at hsame
    ·rw [of_decide_eq_true hsame]
    ·cases hsame
   refine q_iteF (w_next ?_)
   dsimp only
   refine w_seq (w_if (w_or (w_not (w_bl (w_cb (w_cons (w_op (w_var (x := .tup [.str r.1, b]) rfl (w_con (q_ixT (x := b) rfl (w_cons (w_con (w_nil (isi_int kb ?_))))))))))))))
   have nint : (∀ s, b ≠ .int s) → seatV n r sd (.tup [.str r.1, b]) = none := fun nb => by
    unfold seatV
    split
    ·rename_i w s heq; cases heq; exact absurd rfl (nb s)
    ·rfl
   cases hbi : isIb b with
   | false => exact q_iteT (q_iteT (w_ret (w_lst (w_cons (w_var (x := .int (i : Int)) rfl (w_nil ⟨sz1, out (bad (nint fun s z => by rw [z] at hbi; cases hbi))⟩))))))
   | true =>
   refine q_iteF (w_or (w_bl (w_cb (w_cons (w_op (w_var (x := .tup [.str r.1, b]) rfl (w_con (q_ixT (x := b) rfl (w_cons (w_con (w_nil (isi_bool kb ?_))))))))))))
   cases hbb : isBl b with
   | true => exact q_iteT (q_iteT (w_ret (w_lst (w_cons (w_var (x := .int (i : Int)) rfl (w_nil ⟨sz1, out (bad (nint fun s z => by rw [z] at hbb; cases hbb))⟩))))))
   | false =>
   obtain ⟨s, rfl⟩ : ∃ s, b = .int s := by
    cases b with
    | int s => exact ⟨s, rfl⟩
    | bl _ => exact absurd hbb (by simp [isBl])
    | _ => exact absurd hbi (by simp [isIb])
   have sv : seatV n r sd (.tup [.str r.1, .int s]) = if s ∈ leftL n r sd then some s else none := by
    show (if r.1 = r.1 ∧ s ∈ leftL n r sd then some s else none) = _
    by_cases c : s ∈ leftL n r sd
    ·rw [if_pos ⟨rfl, c⟩, if_pos c]
    ·rw [if_neg fun z => c z.2, if_neg c]
   have offl : ¬ (1 ≤ s ∧ s ≤ n) → isPlanB n rs (.tup xs) = false := fun c => bad (by rw [sv, if_neg fun z => c (left_mem.mp z).1])
   refine q_iteF (w_not (w_bl (w_chain (w_con (w_op (w_var (x := .tup [.str r.1, .int s]) rfl (w_con (q_ixT (x := .int s) rfl (q_lt ⟨_, rfl, ?_⟩)))))))))
   by_cases s0 : (0 : Int) < s
   case neg =>
    rw [decide_eq_false s0]
    exact q_iteF (q_iteT (w_ret (w_lst (w_cons (w_var (x := .int (i : Int)) rfl (w_nil ⟨sz1, out (offl (by omega))⟩))))))
   rw [decide_eq_true s0]
   refine q_iteT (w_var (x := .int n) rfl (q_le ?_))
   by_cases s1 : s ≤ n
   case neg =>
    rw [decide_eq_false s1]
    exact q_iteT (w_ret (w_lst (w_cons (w_var (x := .int (i : Int)) rfl (w_nil ⟨sz1, out (offl (by omega))⟩)))))
   rw [decide_eq_true s1]
   refine q_iteF (w_next ?_)
   dsimp only
   refine w_for (w_rng1 (w_var (x := .int (i : Int)) rfl ?_))
   refine ⟨by omega, by omega, fun j η => ∃ s5, η = [.va (.int n), .va (rowsP rs), .va (.tup xs), .va (.int (i : Int)), .va (.tup [.str r.1, .int s]), s5] ∧ ∀ y ∈ sd.take j, meetB r y.1 = true → y.2 ≠ s, ⟨_, rfl, fun _ z => by cases z⟩, ?_, ?_⟩
   ·rintro j w η hj ⟨t5, rfl, hfree⟩
    obtain ⟨hjn, rfl⟩ := rangeP_get hj
    have hji : j < i := by omega
    rw [show ((0 : Int) + (j : Int)) = (j : Int) from Int.zero_add _]
    obtain ⟨y, hy⟩ : ∃ y, sd[j]? = some y := ⟨_, List.getElem?_eq_getElem (by omega)⟩
    have hyr : rs[j]? = some y.1 := by
     have := congrArg (fun l => l[j]?) sf
     rw [List.getElem?_map, hy, List.getElem?_take, if_pos hji] at this
     exact this.symm
    have hyx : xs[j]? = some (pairS (seatPair y)) := by
     have := congrArg (fun l => l[j]?) sx
     rw [List.getElem?_take, if_pos hji, List.getElem?_map, List.getElem?_map, hy] at this
     exact this
    refine w_gname ?_
    simp only [List.set_cons_zero, List.set_cons_succ]
    refine w_if (w_and (w_bl (w_op (w_op (w_op (w_var (x := .tup xs) rfl (w_var (x := .int (j : Int)) rfl (q_ixT (atI_nat hyx) (w_con (q_ixT (x := .int y.2) rfl (w_op (w_var (x := .tup [.str r.1, .int s]) rfl (w_con (q_ixT (x := .int s) rfl (q_eqN ?_)))))))))))))))
    have step : (meetB r y.1 = true → y.2 ≠ s) → ∃ s5, [Sl.va (.int n), .va (rowsP rs), .va (.tup xs), .va (.int (i : Int)), .va (.tup [.str r.1, .int s]), .va (.int (j : Int))] = [.va (.int n), .va (rowsP rs), .va (.tup xs), .va (.int (i : Int)), .va (.tup [.str r.1, .int s]), s5] ∧ ∀ y ∈ sd.take (j + 1), meetB r y.1 = true → y.2 ≠ s := fun ok => ⟨_, rfl, fun q hq => by
     rw [List.take_succ, hy] at hq
     rcases List.mem_append.mp hq with z | z
     ·exact hfree q z
     ·have : q = y := by simpa using z
      rw [this]; exact ok⟩
    by_cases es : y.2 = s
    case neg =>
     rw [decide_eq_false es]
     exact q_iteF (w_next (step fun _ => es))
    rw [decide_eq_true es]
    refine q_iteT (w_bl (w_call (w_cons (w_op (w_var (x := rowsP rs) rfl (w_var (x := .int (j : Int)) rfl (q_ixT (x := rowP y.1) (atI_nat (by rw [List.getElem?_map, hyr]; rfl)) (w_cons (w_op (w_var (x := rowsP rs) rfl (w_var (x := .int (i : Int)) rfl (q_ixT (x := rowP r) (atI_nat (by rw [List.getElem?_map, hr]; rfl)) (w_nil ⟨y.1, r, rfl, ?_⟩)))))))))))))
    rw [meet_commS]
    cases hm : meetB r y.1 with
    | false => exact q_iteF (w_next (step fun z => by rw [hm] at z; cases z))
    | true =>
     refine q_iteT (w_ret (w_lst (w_cons (w_var (x := .int (i : Int)) rfl (w_nil ⟨sz1, out (bad ?_)⟩)))))
     rw [sv, if_neg]
     intro z
     refine (left_mem.mp z).2 ?_
     unfold takenL
     exact List.mem_map.mpr ⟨y, List.mem_filter.mpr ⟨List.mem_of_getElem? hy, hm⟩, es⟩
   ·rintro η ⟨t5, rfl, hfree⟩
    rw [rangeP_len] at hfree
    have hfree : ∀ y ∈ sd, meetB r y.1 = true → y.2 ≠ s := fun y hy => hfree y (by rw [List.take_of_length_le (by omega)]; exact hy)
    have hs : s ∈ leftL n r sd := left_mem.mpr ⟨⟨by omega, s1⟩, fun z => by
     unfold takenL at z
     obtain ⟨y, hy, e⟩ := List.mem_map.mp z
     obtain ⟨h1, h2⟩ := List.mem_filter.mp hy
     exact hfree y h1 h2 e⟩
    rw [sv, if_pos hs] at hv2
    refine ⟨sd ++ [(r, s)], _, _, _, by rw [List.length_append, sl]; rfl, by omega, ?_, ?_, hv2, rfl⟩
    ·rw [List.map_append, sf, List.take_succ, hr]; rfl
    ·rw [List.map_append, List.map_append, ← sx, List.take_succ, hz]; rfl
  ·rintro η ⟨sd, s3, s4, s5, sl, il, sf, sx, hv, rfl⟩
   rw [rangeP_len] at sl il hv
   have e3 : ((xs.length : Int)).toNat = xs.length := by omega
   rw [e3] at sl il hv
   have hend : validGo n rs xs [] = xs.length := by
    rw [hv, List.drop_length, ← sl]
    cases rs.drop sd.length <;> (unfold validGo; rfl)
   dsimp only
   refine w_ret (w_ife (w_bl (w_op (w_cb (w_cons (w_var (x := .tup xs) rfl (w_nil (q_lenT (w_cb (w_cons (w_var (x := rowsP rs) rfl (w_nil (q_lenT (q_eqN ?_))))))))))))))
   rw [List.length_map]
   have ip : isPlanB n rs (.tup xs) = decide ((xs.length : Int) = (rs.length : Int)) := by
    show (decide ((xs.length : Int) = (rs.length : Int)) && decide ((validGo n rs xs [] : Int) = (xs.length : Int))) = _
    rw [hend, decide_eq_true (p := ((xs.length : Int) = (xs.length : Int))) rfl, Bool.and_true]
   refine q_ite (fun c => w_lst (w_nil ⟨by show 0 ≤ sizeLine; omega, hyes (by rw [ip, decide_eq_true c])⟩)) fun c => ?_
   refine w_lst (w_cons (w_cb (w_cons (w_var (x := .tup xs) rfl (w_nil (q_lenT (w_nil ⟨sz1, hno (by rw [ip, decide_eq_false c]) _ (.inr ⟨xs.length, rfl⟩)⟩)))))))
end
theorem nm_low {w : Str} (h : isNm (.str w) = true) : LowS w := fun c hc => by
 have e : (decide (1 ≤ w.length) && (decide (w.length ≤ 8) && w.cps.toList.all fun c => decide (c ∈ abc.cps.toList))) = true := h
 have m2 : c ∈ abc.cps.toList := of_decide_eq_true (List.all_eq_true.mp (Bool.and_eq_true_iff.mp (Bool.and_eq_true_iff.mp e).2).2 c hc)
 have all : ∀ d ∈ abc.cps.toList, 97 ≤ d ∧ d ≤ 122 := by decide +kernel
 exact all c m2
def OddE (K : PySem.W.Frag) (y : PV) : Prop := KnF K y ∧ ShE y 100 3
def TupE (K : PySem.W.Frag) (m : Nat) (xs : List PV) : Prop := xs.length ≤ m ∧ ∀ y ∈ xs, OddE K y
structure WOk (w : Str) : Prop where
 low : LowS w
 l : w.length ≤ 9
section
variable {K : PySem.W.Frag}
theorem odd_no {x : PV} (h : (tyN x).isSome = true) (hn : ∀ a b, x ≠ .tup [a, b]) {m k : Nat} (s : ShE x m k) (hm : m ≤ 100) (hk : k ≤ 3) : OddE K x :=
 ⟨⟨⟨.inl h, fun a b e => absurd e (hn a b)⟩, fun a b e => absurd e (hn a b)⟩, s.mono hm hk⟩
theorem odd_pair {a b : PV} (ha : (tyN a).isSome = true) (hb : (tyN b).isSome = true) (hc : (∃ d, toD a = some d ∧ SeqAt.shaped d = true) ∨ ∃ kvs, a = .dic kvs) {m k m' k' : Nat} (sa : ShE a m k) (sb : ShE b m' k') (h1 : m ≤ 40) (h2 : k ≤ 2) (h3 : m' ≤ 40) (h4 : k' ≤ 2) : OddE K (.tup [a, b]) := by
 refine ⟨⟨⟨.inl rfl, fun x y e => ?_⟩, fun x y e => ?_⟩, ?_⟩
 ·cases e; exact ⟨.inl ha, .inl hb⟩
 ·cases e; exact hc
 ·exact (she_tup (m := 40) (k := 2) (l := 2) (xs := [a, b]) (fun x hx => by
   rcases List.mem_cons.mp hx with rfl | hx
   ·exact sa.mono h1 h2
   ·rcases List.mem_cons.mp hx with rfl | hx
    ·exact sb.mono h3 h4
    ·cases hx) (Nat.le_refl _)).mono (by decide) (by decide)
theorem low16 {w : Str} (h : LowS w) : ∀ c ∈ w.cps.toList, c < 16 ^ 8 := fun c hc => by
 have := h c hc
 have : (122 : Nat) < 16 ^ 8 := by decide
 omega
theorem she_word {w : Str} (h : WOk w) : ShE (.str w) 9 0 := she_str (low16 h.low) h.l
theorem cmp_word {w : Str} (h : LowS w) : (∃ d, toD (.str w) = some d ∧ SeqAt.shaped d = true) ∨ ∃ kvs, PV.str w = .dic kvs := .inl ⟨.str w, rfl, shaped_nm h⟩
theorem pair_odd {p : Pair} (h : isNm (.str p.1) = true ∧ 1 ≤ p.2 ∧ p.2 ≤ 20) : OddE K (pairS p) := by
 obtain ⟨h1, h2, h3⟩ := h
 have e : (decide (1 ≤ p.1.length) && (decide (p.1.length ≤ 8) && p.1.cps.toList.all fun c => decide (c ∈ abc.cps.toList))) = true := h1
 have l8 := of_decide_eq_true (Bool.and_eq_true_iff.mp (Bool.and_eq_true_iff.mp e).2).1
 have low : LowS p.1 := nm_low h1
 have b60 : (20 : Int) < 10 ^ 60 := by decide
 exact odd_pair rfl rfl (cmp_word low) (she_word ⟨low, by omega⟩) (she_int (i := p.2) (by omega) (by omega)) (by decide) (by decide) (by decide) (by decide)
theorem cut_mem {α : Type} {xs : List α} {lo hi : Option Int} {y : α} (h : y ∈ cutP xs lo hi) : y ∈ xs := by
 unfold cutP at h
 exact List.mem_of_mem_drop (List.mem_of_mem_take h)
theorem cut_len {α : Type} {xs : List α} {lo hi : Option Int} : (cutP xs lo hi).length ≤ xs.length := by
 unfold cutP
 rw [List.length_take, List.length_drop]
 omega
theorem TupE.cut {m : Nat} {xs : List PV} {lo hi : Option Int} (h : TupE K m xs) : TupE K m (cutP xs lo hi) := ⟨Nat.le_trans cut_len h.1, fun y hy => h.2 y (cut_mem hy)⟩
theorem TupE.app {m k : Nat} {xs ys : List PV} (h : TupE K m xs) (g : TupE K k ys) : TupE K (m + k) (xs ++ ys) := ⟨by rw [List.length_append]; have := h.1; have := g.1; omega, fun y hy => (List.mem_append.mp hy).elim (h.2 y) (g.2 y)⟩
theorem TupE.one {y : PV} (h : OddE K y) : TupE K 1 [y] := ⟨Nat.le_refl _, fun z hz => by rw [List.mem_singleton.mp hz]; exact h⟩
theorem TupE.rev {m : Nat} {xs : List PV} (h : TupE K m xs) : TupE K m xs.reverse := ⟨by rw [List.length_reverse]; exact h.1, fun y hy => h.2 y (List.mem_reverse.mp hy)⟩
theorem TupE.pairs {ps : List Pair} (h : PsOk ps) : TupE K 24 (ps.map pairS) := ⟨by rw [List.length_map]; exact h.l, fun y hy => by
 obtain ⟨p, hp, rfl⟩ := List.mem_map.mp hy
 exact pair_odd (h.p p hp)⟩
theorem TupE.odd {m : Nat} {xs : List PV} (h : TupE K m xs) (hm : m ≤ 200) : OddP K (.tup xs) := by
 refine ⟨⟨.inl rfl, fun ys e => ?_⟩, ?_⟩
 ·cases e
  exact ⟨Nat.le_trans h.1 hm, fun y hy => (h.2 y hy).1⟩
 ·exact (she_tup (l := 200) (fun y hy => (h.2 y hy).2) (Nat.le_trans h.1 hm)).mono (by decide) (by decide)
theorem TupE.lst {m : Nat} {xs : List PV} (h : TupE K m xs) (hm : m ≤ 200) : OddP K (.lst xs) := by
 refine ⟨⟨.inl rfl, fun ys e => by cases e⟩, ?_⟩
 exact (she_lst (l := 200) (fun y hy => (h.2 y hy).2) (Nat.le_trans h.1 hm)).mono (by decide) (by decide)
theorem odd_flat {x : PV} (h : (tyN x).isSome = true) (hn : ∀ xs, x ≠ .tup xs) {m k : Nat} (s : ShE x m k) (hm : m ≤ 30000) (hk : k ≤ 8) : OddP K x := ⟨⟨.inl h, fun xs e => absurd e (hn xs)⟩, s.mono hm hk⟩
end
def kvP (ps : List Pair) : List (Key × PV) := ps.map fun p => (Sum.inr p.1, PV.int p.2)
theorem pairsP_kv : ∀ ps : List Pair, pairsP (ps.map pairS) = some (kvP ps)
 | [] => rfl
 | p :: ps => by
  rw [List.map_cons]
  show pairsP (.tup [.str p.1, .int p.2] :: ps.map pairS) = _
  rw [pairsP, pairsP_kv ps]
  rfl
theorem put_new {kvs : List (Key × PV)} {k : Key} {x : PV} (h : ∀ p ∈ kvs, p.1 ≠ k) : putP kvs k x = kvs ++ [(k, x)] := by
 unfold putP
 rw [if_neg]
 intro z
 obtain ⟨p, hp, e⟩ := List.any_eq_true.mp z
 exact h p hp (of_decide_eq_true e)
theorem merge_kv : ∀ (ps qs : List Pair), ((qs ++ ps).map (·.1)).Nodup → mergeP (kvP qs) (kvP ps) = kvP (qs ++ ps)
 | [], qs, _ => by rw [List.append_nil]; rfl
 | p :: ps, qs, h => by
  have e : kvP qs ++ [(Sum.inr p.1, PV.int p.2)] = kvP (qs ++ [p]) := by unfold kvP; rw [List.map_append]; rfl
  show mergeP (putP (kvP qs) (.inr p.1) (.int p.2)) (kvP ps) = _
  rw [put_new, e, merge_kv ps (qs ++ [p]) (by rw [List.append_assoc]; exact h), List.append_assoc]
  ·rfl
  ·intro q hq
   unfold kvP at hq
   obtain ⟨u, hu, rfl⟩ := List.mem_map.mp hq
   intro e2
   have e3 : u.1 = p.1 := by injection e2
   rw [List.map_append, List.nodup_append] at h
   exact h.2.2 u.1 (List.mem_map.mpr ⟨u, hu, rfl⟩) p.1 (by simp) e3
theorem dict_kv {ps : List Pair} (h : PsOk ps) : mergeP [] (kvP ps) = kvP ps := merge_kv ps [] h.n
theorem she_kv {ps : List Pair} (h : PsOk ps) : ShE (.dic (kvP ps)) (24 * 11) 1 := by
 refine she_dic (kvs := ps) (m := 9) (l := 24) (fun p hp => ?_) h.l
 obtain ⟨h1, h2, h3⟩ := h.p p hp
 have e : (decide (1 ≤ p.1.length) && (decide (p.1.length ≤ 8) && p.1.cps.toList.all fun c => decide (c ∈ abc.cps.toList))) = true := h1
 have l8 := of_decide_eq_true (Bool.and_eq_true_iff.mp (Bool.and_eq_true_iff.mp e).2).1
 have b60 : (20 : Int) < 10 ^ 60 := by decide
 exact ⟨low16 (nm_low h1), by omega, by omega, by omega⟩
theorem w_dic11 {η : EP'} {Q : PV → EP' → Prop} (h : Q (.dic []) η) : tDic0P η Q := h
theorem q_addA11 {xs ys : List PV} {P : PV → Prop} (l : xs.length + ys.length ≤ sizeLine) (h : P (.tup (xs ++ ys))) : rAddA (.tup xs) (.tup ys) P := .inr ⟨l, h⟩
theorem q_slA11 {xs : List PV} {lo hi : Option Int} {Q : PV → Prop} (h : Q (.tup (cutP xs lo hi))) : rSlA (.tup xs) lo hi Q := h
theorem w_revT11 {te : TEp} {η : EP'} {Q : PV → EP' → Prop} (h : te η fun x η1 => match x with
 | .tup xs => Q (.tup xs.reverse) η1
 | _ => False) : tRevTP te η Q := h
theorem q_list11 {xs : List PV} {Q : PV → Prop} (h : Q (.lst xs)) : rList [.tup xs] Q := h
theorem w_valD11 {tf : TFDp} {η : EP'} {Q : PV → EP' → Prop} (h : tf η fun kvs η1 => Q (.dic kvs) η1) : tValDP tf η Q := h
theorem w_neg11 {te : TEp} {η : EP'} {Q : PV → EP' → Prop} (h : te η fun x η1 => match x with | .int i => Q (.int (-i)) η1 | _ => False) : tNegP te η Q := h
theorem zz_word : WOk ("zzzzzzzzz" : Str) := ⟨fun c hc => by
 have all : ∀ d ∈ ("zzzzzzzzz" : Str).cps.toList, 97 ≤ d ∧ d ≤ 122 := by decide +kernel
 exact all c hc, by decide +kernel⟩
theorem shaped_i (i : Int) : ∃ d, toD (.int i) = some d ∧ SeqAt.shaped d = true := ⟨.int i, rfl, rfl⟩
section
variable {K : PySem.W.Frag}
theorem odds_ok {w : Str} {n s : Int} (hw : WOk w) (n1 : 1 ≤ n) (n2 : n ≤ 20) (s0 : 0 ≤ s) (s1 : s ≤ 20) :
  ∀ x ∈ [PV.non, .int 0, .bl true, .str ("" : Str), .str w, .tup [], .lst [], .dic [], .tup [.str w], .lst [.str w, .int 1], .tup [.str w, .int 1, .int 1], .tup [.str w, .int 0],
   .tup [.str w, .int (n + 1)], .tup [.str w, .int (-1)], .tup [.str w, .bl true], .tup [.str w, .str ("1" : Str)], .tup [.str w, .non], .tup [.str w, .lst [.int 1]],
   .tup [.str w, .dic []], .tup [.lst [.str w], .int 1], .tup [.dic [], .int 1], .tup [.int 1, .str w], .tup [.non, .int 1], .tup [.str w, .int (10 ^ 30)], .tup [.str w, .int (1 + s)]], OddE K x := fun x hx => by
 have b60 : (100 : Int) < 10 ^ 60 := by decide
 have b30 : (10 : Int) ^ 30 < 10 ^ 60 := by decide
 have c30 : (0 : Int) ≤ 10 ^ 30 := by decide
 have sw := she_word hw
 have cw := cmp_word hw.low
 have i1 : ShE (.int 1) 0 0 := she_int (by decide) (by omega)
 have wl : ∀ {l : List PV}, l = [.str w] → ShE (.lst l) 11 1 := fun e => by
  rw [e]
  exact (she_lst (m := 9) (k := 0) (l := 1) (fun y hy => by rw [List.mem_singleton.mp hy]; exact sw) (Nat.le_refl _)).mono (by decide) (by decide)
 have l1 : ShE (.lst [.int 1]) 1 1 := (she_lst (m := 0) (k := 0) (l := 1) (fun y hy => by rw [List.mem_singleton.mp hy]; exact i1) (Nat.le_refl _)).mono (by decide) (by decide)
 have w2 : ∀ y ∈ [PV.str w, .int 1], ShE y 9 0 := fun y hy => by
  rcases List.mem_cons.mp hy with rfl | hy
  ·exact sw
  ·rw [List.mem_singleton.mp hy]; exact i1.mono (by decide) (Nat.le_refl _)
 have w3 : ∀ y ∈ [PV.str w, .int 1, .int 1], ShE y 9 0 := fun y hy => by
  rcases List.mem_cons.mp hy with rfl | hy
  ·exact sw
  ·have : y = .int 1 := by simpa using hy
   rw [this]; exact i1.mono (by decide) (Nat.le_refl _)
 have so : PyData.strOk w = true := by
  unfold PyData.strOk
  rw [Array.all_eq_true']
  intro c hc
  have := hw.low c (Array.mem_def.mp hc)
  exact decide_eq_true (by omega)
 have shl : SeqAt.shaped (.list [.str w]) = true := by simp [SeqAt.shaped, PyData.canLay0, PyData.canLayAll0, PyData.depth, PyData.depthAll, so]
 have e1 : ShE (.str ("1" : Str)) 1 0 := she_str (by decide +kernel) (by decide +kernel)
 have e0 : ShE (.str ("" : Str)) 0 0 := she_str (by decide +kernel) (by decide +kernel)
 simp only [List.mem_cons, List.not_mem_nil, or_false] at hx
 rcases hx with rfl | rfl | rfl | rfl | rfl | rfl | rfl | rfl | rfl | rfl | rfl | rfl | rfl | rfl | rfl | rfl | rfl | rfl | rfl | rfl | rfl | rfl | rfl | rfl | rfl
 ·exact odd_no rfl (fun _ _ => nofun) she_non (by decide) (by decide)
 ·exact odd_no rfl (fun _ _ => nofun) (she_int (by decide) (by decide)) (by decide) (by decide)
 ·exact odd_no rfl (fun _ _ => nofun) (she_bl _) (by decide) (by decide)
 ·exact odd_no rfl (fun _ _ => nofun) e0 (by decide) (by decide)
 ·exact odd_no rfl (fun _ _ => nofun) sw (by decide) (by decide)
 ·exact odd_no rfl (fun _ _ => by rintro ⟨⟩) (she_tup (m := 0) (k := 0) (l := 0) (fun _ z => (List.not_mem_nil z).elim) (Nat.le_refl _)) (by decide) (by decide)
 ·exact odd_no rfl (fun _ _ => nofun) (she_lst (m := 0) (k := 0) (l := 0) (fun _ z => (List.not_mem_nil z).elim) (Nat.le_refl _)) (by decide) (by decide)
 ·exact odd_no rfl (fun _ _ => nofun) she_dic0 (by decide) (by decide)
 ·exact odd_no rfl (fun _ _ => by rintro ⟨⟩) (she_tup (m := 9) (k := 0) (l := 1) (fun y hy => by rw [List.mem_singleton.mp hy]; exact sw) (Nat.le_refl _)) (by decide) (by decide)
 ·exact odd_no rfl (fun _ _ => nofun) (she_lst (l := 2) w2 (Nat.le_refl _)) (by decide) (by decide)
 ·exact odd_no rfl (fun _ _ => by rintro ⟨⟩) (she_tup (l := 3) w3 (Nat.le_refl _)) (by decide) (by decide)
 ·exact odd_pair rfl rfl cw sw (she_int (by decide) (by decide)) (by decide) (by decide) (by decide) (by decide)
 ·exact odd_pair rfl rfl cw sw (she_int (by omega) (by omega)) (by decide) (by decide) (by decide) (by decide)
 ·exact odd_pair rfl rfl cw sw she_m1 (by decide) (by decide) (by decide) (by decide)
 ·exact odd_pair rfl rfl cw sw (she_bl _) (by decide) (by decide) (by decide) (by decide)
 ·exact odd_pair rfl rfl cw sw e1 (by decide) (by decide) (by decide) (by decide)
 ·exact odd_pair rfl rfl cw sw she_non (by decide) (by decide) (by decide) (by decide)
 ·exact odd_pair rfl rfl cw sw l1 (by decide) (by decide) (by decide) (by decide)
 ·exact odd_pair rfl rfl cw sw she_dic0 (by decide) (by decide) (by decide) (by decide)
 ·exact odd_pair rfl rfl (.inl ⟨.list [.str w], rfl, shl⟩) (wl rfl) i1 (by decide) (by decide) (by decide) (by decide)
 ·exact odd_pair rfl rfl (.inr ⟨_, rfl⟩) she_dic0 i1 (by decide) (by decide) (by decide) (by decide)
 ·exact odd_pair rfl rfl (.inl (shaped_i 1)) i1 sw (by decide) (by decide) (by decide) (by decide)
 ·exact odd_pair rfl rfl (.inl ⟨.none, rfl, rfl⟩) she_non i1 (by decide) (by decide) (by decide) (by decide)
 ·exact odd_pair rfl rfl cw sw (she_int c30 b30) (by decide) (by decide) (by decide) (by decide)
 ·exact odd_pair rfl rfl cw sw (she_int (by omega) (by omega)) (by decide) (by decide) (by decide) (by decide)
end
theorem pick_any {K : PySem.W.Frag} {M : List PV} {m k : Nat} {P : PV → Prop} (hl : M.length = m) (hk : k < m) (all : ∀ y ∈ M, OddP K (wkV y)) (h : ∀ y, OddP K (wkV y) → P y) : rIxP (.lst M) (.int (k : Int)) P :=
 q_ix (atI_nat (List.getElem?_eq_getElem (by omega))) (h _ (all _ (List.getElem_mem (by omega))))
section
variable {K : PySem.W.Frag} {C : Addr} {args : List PV} {P : PV → Prop} {PF : List PV → Prop} {PR : PV → Ow → Prop} {o : Ow}
theorem rd_law_no_plan (h : sp_law_no_plan K C o args PR) : ts_law_no_plan K C { nx := fun η' => ∃ o', η'[0]? = some (Sl.ow o') ∧ PR .non o', rt := fun x η' => ∃ o', η'[0]? = some (Sl.ow o') ∧ PR x o' } (startR 13 o args) := by
 obtain ⟨n, rs, ps, po, rfl, n1, n2, hw, pk, hp⟩ := h
 have e : startR 13 o [.int n, rowsP rs, planK ps] = [.ow o, .va (.int n), .va (rowsP rs), .va (planK ps), .no, .no, .no, .no, .no, .no, .no, .no, .no] := rfl
 rw [e]
 have sz : 1000 < sizeLine := by decide
 have b40 : (1000 : Int) < 10 ^ 40 := by decide
 have hl := hw.len
 have tps : TupE K 24 (ps.map pairS) := TupE.pairs pk
 have pl := pk.l
 -- the word
 refine w_seq (w_set (w_op (w_val (w_lc (w_itup (w_var (x := rowsP rs) rfl ?_))))))
 refine ⟨fun i acc η => acc = ((rs.take i).map fun r => PV.str r.1) ∧ η = [.ow o, .va (.int n), .va (rowsP rs), .va (planK ps), .no, .no, .no, .no, .no, .no, .no, .no, .no], ⟨rfl, rfl⟩, ?_, ?_⟩
 ·rintro i x acc η hi ⟨rfl, rfl⟩
  rw [List.getElem?_map] at hi
  obtain ⟨r, hr, rfl⟩ := Option.map_eq_some_iff.mp hi
  have hil : i < rs.length := (List.getElem?_eq_some_iff.mp hr).1
  refine w_gname (w_yes (q_iteT (w_op (w_var (x := rowP r) rfl (w_con (q_ixT (x := .str r.1) rfl ⟨by rw [List.length_map, List.length_take]; omega, ?_, rfl⟩))))))
  rw [List.take_succ, hr, List.map_append]; rfl
 rintro acc η ⟨rfl, rfl⟩
 rw [List.length_map, List.take_length]
 refine w_lst (w_cons (w_con (w_nil ⟨sz1, q_addLL (by rw [List.length_map]; show _ + 1 ≤ _; omega) ?_⟩)))
 simp only [List.set_cons_zero, List.set_cons_succ]
 obtain ⟨ws, hws, wok⟩ : ∃ ws : List Str, ((rs.map fun r => PV.str r.1) ++ [.str ("zzzzzzzzz" : Str)]) = ws.map .str ∧ (∀ w ∈ ws, WOk w) ∧ ws.length = rs.length + 1 :=
  ⟨rs.map (·.1) ++ [("zzzzzzzzz" : Str)], by rw [List.map_append, List.map_map]; rfl, fun w h => by
   rcases List.mem_append.mp h with h | h
   ·obtain ⟨r, hr, rfl⟩ := List.mem_map.mp h
    have h1 := (hw.each r hr).1
    have e : (decide (1 ≤ r.1.length) && (decide (r.1.length ≤ 8) && r.1.cps.toList.all fun c => decide (c ∈ abc.cps.toList))) = true := h1
    have l8 := of_decide_eq_true (Bool.and_eq_true_iff.mp (Bool.and_eq_true_iff.mp e).2).1
    exact ⟨nm_low h1, by omega⟩
   ·rw [List.mem_singleton.mp h]; exact zz_word, by rw [List.length_append, List.length_map]; rfl⟩
 rw [hws]
 obtain ⟨wok, wlen⟩ := wok
 refine w_seq (w_set (w_op (w_var (x := .lst (ws.map .str)) rfl (w_callR rfl (w_cons (w_cb (w_cons (w_var (x := .lst (ws.map .str)) rfl (w_nil (q_len ?_))))))))))
 rw [List.length_map]
 refine w_nil (q_callM rfl ⟨(ws.length : Int), po, rfl, by omega, by omega, fun o1 j p1 j0 j1 => ?_⟩)
 refine q_ix (at_map ("" : Str) j0 j1) ?_
 have hword : WOk (ws.getD j.toNat ("" : Str)) := wok _ (getD_memS (by omega))
 generalize ws.getD j.toNat ("" : Str) = w at hword
 simp only [List.set_cons_zero, List.set_cons_succ]
 -- the two places
 refine w_seq (w_par (w_arV (w_callR rfl (w_cons (w_op (w_cb (w_cons (w_varK (x := planK ps) rfl (w_nil (q_lenT (w_con (q_add ?_))))))))))))
 rw [List.length_map]
 refine w_nil (q_callM rfl ⟨(ps.length : Int) + 1, p1, rfl, by omega, by omega, fun o2 at' p2 a0 a1 => ?_⟩)
 refine w_arV (w_callR rfl (w_cons (w_op (w_cb (w_cons (w_varK (x := planK ps) rfl (w_nil (q_lenT (w_con (q_add ?_))))))))))
 rw [List.length_map]
 refine w_nil (q_callM rfl ⟨(ps.length : Int) + 1, p2, rfl, by omega, by omega, fun o3 lt p3 l0 l1 => ?_⟩)
 refine w_arN ⟨rfl, trivial, ?_⟩
 simp only [storesP, List.set_cons_zero, List.set_cons_succ]
 change tSeqP _ _ _ [.ow o3, .va (.int n), .va (rowsP rs), .va (planK ps), .va (.lst (ws.map .str)), .va (.str w), .va (.int at'), .va (.int lt), .no, .no, .no, .no, .no]
 -- the odd things
 refine w_seq (w_set (w_lst ?_))
 refine w_cons (w_con (w_cons (w_con (w_cons (w_con (w_cons (w_con (w_cons (w_var (x := .str w) rfl (w_cons (w_tup (w_nil ⟨Nat.zero_le _, ?_⟩))))))))))))
 refine w_cons (w_lst (w_nil ⟨Nat.zero_le _, w_cons (w_dic11 ?_)⟩))
 refine w_cons (w_tup (w_cons (w_var (x := .str w) rfl (w_nil ⟨sz1, ?_⟩))))
 refine w_cons (w_lst (w_cons (w_var (x := .str w) rfl (w_cons (w_con (w_nil ⟨sz2, ?_⟩))))))
 refine w_cons (w_tup (w_cons (w_var (x := .str w) rfl (w_cons (w_con (w_cons (w_con (w_nil ⟨by show 3 ≤ sizeLine; omega, ?_⟩))))))))
 refine w_cons (w_tup (w_cons (w_var (x := .str w) rfl (w_cons (w_con (w_nil ⟨sz2, ?_⟩))))))
 refine w_nil ⟨by show 12 ≤ sizeLine; omega, ?_⟩
 simp only [List.set_cons_zero, List.set_cons_succ]
 refine w_seq (w_set (w_op (w_var rfl (w_lst ?_))))
 refine w_cons (w_tup (w_cons (w_var (x := .str w) rfl (w_cons (w_op (w_var (x := .int n) rfl (w_con (q_add (w_nil ⟨sz2, ?_⟩)))))))))
 refine w_cons (w_tup (w_cons (w_var (x := .str w) rfl (w_cons (w_neg11 (w_con (w_nil ⟨sz2, ?_⟩)))))))
 refine w_cons (w_tup (w_cons (w_var (x := .str w) rfl (w_cons (w_con (w_nil ⟨sz2, ?_⟩))))))
 refine w_cons (w_tup (w_cons (w_var (x := .str w) rfl (w_cons (w_con (w_nil ⟨sz2, ?_⟩))))))
 refine w_cons (w_tup (w_cons (w_var (x := .str w) rfl (w_cons (w_con (w_nil ⟨sz2, ?_⟩))))))
 refine w_cons (w_tup (w_cons (w_var (x := .str w) rfl (w_cons (w_lst (w_cons (w_con (w_nil ⟨sz1, w_nil ⟨sz2, ?_⟩⟩))))))))
 refine w_nil ⟨by show 6 ≤ sizeLine; omega, q_addLL (by show 12 + 6 ≤ sizeLine; omega) ?_⟩
 simp only [List.set_cons_zero, List.set_cons_succ]
 refine w_seq (w_set (w_op (w_var rfl (w_lst ?_))))
 refine w_cons (w_tup (w_cons (w_var (x := .str w) rfl (w_cons (w_dic11 (w_nil ⟨sz2, ?_⟩))))))
 refine w_cons (w_tup (w_cons (w_lst (w_cons (w_var (x := .str w) rfl (w_nil ⟨sz1, w_cons (w_con (w_nil ⟨sz2, ?_⟩))⟩))))))
 refine w_cons (w_tup (w_cons (w_dic11 (w_cons (w_con (w_nil ⟨sz2, ?_⟩))))))
 refine w_cons (w_tup (w_cons (w_con (w_cons (w_var (x := .str w) rfl (w_nil ⟨sz2, ?_⟩))))))
 refine w_cons (w_tup (w_cons (w_con (w_cons (w_con (w_nil ⟨sz2, ?_⟩))))))
 refine w_cons (w_tup (w_cons (w_var (x := .str w) rfl (w_cons (w_op (w_con (w_con (q_pow ⟨by decide, by decide, by decide⟩ (w_nil ⟨sz2, ?_⟩)))))))))
 refine w_nil ⟨by show 6 ≤ sizeLine; omega, q_addLL (by show 18 + 6 ≤ sizeLine; omega) ?_⟩
 simp only [List.set_cons_zero, List.set_cons_succ]
 refine w_seq (w_set (w_op (w_var rfl (w_lst ?_))))
 refine w_cons (w_tup (w_cons (w_var (x := .str w) rfl (w_cons (w_op (w_con (w_callR rfl (w_cons (w_var (x := .int n) rfl ?_)))))))))
 refine w_nil (q_callM rfl ⟨n, p3, rfl, by omega, by omega, fun o4 s p4 s0 s1 => q_add (w_nil ⟨sz2, ?_⟩)⟩)
 refine w_nil ⟨sz1, q_addLL (by show 24 + 1 ≤ sizeLine; omega) ?_⟩
 simp only [List.set_cons_zero, List.set_cons_succ]
 have ok := odds_ok (K := K) hword n1 n2 s0 (show s ≤ 20 by omega)
 generalize hL : ([PV.non, .int 0, .bl true, .str ("" : Str), .str w, .tup [], .lst [], .dic [], .tup [.str w], .lst [.str w, .int 1], .tup [.str w, .int 1, .int 1], .tup [.str w, .int 0],
   .tup [.str w, .int (n + 1)], .tup [.str w, .int (-1)], .tup [.str w, .bl true], .tup [.str w, .str ("1" : Str)], .tup [.str w, .non], .tup [.str w, .lst [.int 1]],
   .tup [.str w, .dic []], .tup [.lst [.str w], .int 1], .tup [.dic [], .int 1], .tup [.int 1, .str w], .tup [.non, .int 1], .tup [.str w, .int (10 ^ 30)], .tup [.str w, .int (1 + s)]] : List PV) = L at ok
 have ll : L.length = 25 := by rw [← hL]; rfl
 change tSeqP _ _ _ [.ow o4, .va (.int n), .va (rowsP rs), .va (planK ps), .va (.lst (ws.map .str)), .va (.str w), .va (.int at'), .va (.int lt), .va (.lst [PV.non, .int 0, .bl true, .str ("" : Str), .str w, .tup [], .lst [], .dic [], .tup [.str w], .lst [.str w, .int 1], .tup [.str w, .int 1, .int 1], .tup [.str w, .int 0],
   .tup [.str w, .int (n + 1)], .tup [.str w, .int (-1)], .tup [.str w, .bl true], .tup [.str w, .str ("1" : Str)], .tup [.str w, .non], .tup [.str w, .lst [.int 1]],
   .tup [.str w, .dic []], .tup [.lst [.str w], .int 1], .tup [.dic [], .int 1], .tup [.int 1, .str w], .tup [.non, .int 1], .tup [.str w, .int (10 ^ 30)], .tup [.str w, .int (1 + s)]]), .no, .no, .no, .no]
 rw [hL]
 have pick : ∀ j : Int, 0 ≤ j → j < 25 → ∃ y, atI L j = some y ∧ OddE K y := fun j j0 j1 => by
  obtain ⟨k, rfl⟩ := Int.eq_ofNat_of_zero_le j0
  have hk : k < L.length := by omega
  exact ⟨L[k], atI_nat (List.getElem?_eq_getElem hk), ok _ (List.getElem_mem hk)⟩
 -- once
 refine w_seq (w_set (w_op (w_op (w_sliceA (w_varK (x := planK ps) rfl (w_nop (w_part (w_var (x := .int at') rfl (q_slA11 ?_)))))))))
 refine w_tup (w_cons (w_op (w_var (x := .lst L) rfl (w_callR rfl (w_cons (w_con (w_nil (q_callM rfl ⟨25, p4, rfl, by decide, by decide, fun o5 j5 p5 j50 j51 => ?_⟩))))))))
 obtain ⟨y5, ey5, oy5⟩ := pick j5 j50 j51
 refine q_ix ey5 (w_nil ⟨sz1, ?_⟩)
 have t1 : TupE K 25 (cutP (ps.map pairS) none (some at') ++ [y5]) := TupE.app tps.cut (TupE.one oy5)
 refine q_addA11 (by have := (TupE.cut (lo := none) (hi := some at') tps).1; show _ + 1 ≤ _; omega) ?_
 refine w_sliceA (w_varK (x := planK ps) rfl (w_part (w_op (w_var (x := .int at') rfl (w_con (q_add (w_nop (q_slA11 ?_))))))))
 have t2 : TupE K 24 (cutP (ps.map pairS) (some (at' + 1)) none) := tps.cut
 refine q_addA11 (by have := t1.1; have := t2.1; omega) ?_
 have t3 : TupE K 49 (cutP (ps.map pairS) none (some at') ++ [y5] ++ cutP (ps.map pairS) (some (at' + 1)) none) := t1.app t2
 generalize cutP (ps.map pairS) none (some at') ++ [y5] ++ cutP (ps.map pairS) (some (at' + 1)) none = once at t3
 simp only [List.set_cons_zero, List.set_cons_succ]
 -- twice
 refine w_seq (w_set (w_op (w_op (w_sliceA (w_var (x := .tup once) rfl (w_nop (w_part (w_var (x := .int lt) rfl (q_slA11 ?_)))))))))
 refine w_tup (w_cons (w_op (w_var (x := .lst L) rfl (w_callR rfl (w_cons (w_con (w_nil (q_callM rfl ⟨25, p5, rfl, by decide, by decide, fun o6 j6 p6 j60 j61 => ?_⟩))))))))
 obtain ⟨y6, ey6, oy6⟩ := pick j6 j60 j61
 refine q_ix ey6 (w_nil ⟨sz1, ?_⟩)
 have u1 : TupE K 50 (cutP once none (some lt) ++ [y6]) := TupE.app t3.cut (TupE.one oy6)
 refine q_addA11 (by have := (TupE.cut (lo := none) (hi := some lt) t3).1; show _ + 1 ≤ _; omega) ?_
 refine w_sliceA (w_var (x := .tup once) rfl (w_part (w_op (w_var (x := .int lt) rfl (w_con (q_add (w_nop (q_slA11 ?_))))))))
 have u2 : TupE K 49 (cutP once (some (lt + 1)) none) := t3.cut
 refine q_addA11 (by have := u1.1; have := u2.1; omega) ?_
 have u3 : TupE K 99 (cutP once none (some lt) ++ [y6] ++ cutP once (some (lt + 1)) none) := u1.app u2
 generalize cutP once none (some lt) ++ [y6] ++ cutP once (some (lt + 1)) none = twice at u3
 simp only [List.set_cons_zero, List.set_cons_succ]
 -- all of them
 have a1 : OddE K (.tup [.str w, .int 1]) := odd_pair rfl rfl (cmp_word hword.low) (she_word hword) (she_int (by decide) (by decide)) (by decide) (by decide) (by decide) (by decide)
 have a2 : OddE K .non := odd_no rfl (fun _ _ => nofun) she_non (by decide) (by decide)
 have v1 : TupE K 25 (ps.map pairS ++ [.tup [.str w, .int 1]]) := TupE.app tps (TupE.one a1)
 have v2 : TupE K 25 (ps.map pairS ++ [.non]) := TupE.app tps (TupE.one a2)
 have v3 : TupE K 48 (cutP (ps.map pairS) none (some at') ++ cutP (ps.map pairS) (some (at' + 1)) none) := TupE.app tps.cut t2
 have ml : (ps.map pairS).length ≤ 24 := tps.1
 refine w_seq (w_set (w_lst ?_))
 refine w_cons (w_var (x := .tup once) rfl (w_cons (w_var (x := .tup once) rfl (w_cons (w_var (x := .tup once) rfl (w_cons (w_var (x := .tup twice) rfl (w_cons (w_var (x := .tup twice) rfl ?_)))))))))
 refine w_cons (w_cb (w_cons (w_varK (x := planK ps) rfl (w_nil (q_list11 ?_)))))
 refine w_cons (w_con (w_cons (w_con (w_cons (w_con (w_cons (w_dic11 ?_)))))))
 refine w_cons (w_op (w_varK (x := planK ps) rfl (w_tup (w_cons (w_tup (w_cons (w_var (x := .str w) rfl (w_cons (w_con (w_nil ⟨sz2, w_nil ⟨sz1, q_addA11 (by show _ + 1 ≤ _; omega) ?_⟩⟩))))))))))
 refine w_cons (w_sliceA (w_varK (x := planK ps) rfl (w_part (w_con (w_nop (q_slA11 ?_))))))
 refine w_cons (w_sliceA (w_varK (x := planK ps) rfl (w_nop (w_part (w_neg11 (w_con (q_slA11 ?_)))))))
 refine w_nil ⟨by show 13 ≤ sizeLine; omega, ?_⟩
 simp only [List.set_cons_zero, List.set_cons_succ]
 refine w_seq (w_set (w_op (w_var rfl (w_lst ?_))))
 refine w_cons (w_revT11 (w_varK (x := planK ps) rfl ?_))
 refine w_cons (w_op (w_varK (x := planK ps) rfl (w_tup (w_cons (w_con (w_nil ⟨sz1, q_addA11 (by show _ + 1 ≤ _; omega) ?_⟩))))))
 refine w_cons (w_op (w_sliceA (w_varK (x := planK ps) rfl (w_nop (w_part (w_var (x := .int at') rfl (q_slA11 ?_)))))))
 refine w_sliceA (w_varK (x := planK ps) rfl (w_part (w_op (w_var (x := .int at') rfl (w_con (q_add (w_nop (q_slA11 (q_addA11 (by have := (TupE.cut (lo := none) (hi := some at') tps).1; have := t2.1; omega) ?_)))))))))
 refine w_cons (w_valD11 (w_cbd (w_cons (w_var (x := planK ps) rfl (w_nil ⟨kvP ps, pairsP_kv ps, ?_⟩)))))
 rw [dict_kv pk]
 refine w_nil ⟨by show 4 ≤ sizeLine; omega, q_addLL (by show 13 + 4 ≤ sizeLine; omega) ?_⟩
 simp only [List.set_cons_zero, List.set_cons_succ]
 refine w_ret (w_op (w_var rfl (w_callR rfl (w_cons (w_con (w_nil (q_callM rfl ⟨17, p6, rfl, by decide, by decide, fun o7 j7 p7 j70 j71 => ?_⟩)))))))
 have all : ∀ y ∈ [PV.tup once, .tup once, .tup once, .tup twice, .tup twice, .lst (ps.map pairS), .non, .int 0, .str ("" : Str), .dic [], .tup (ps.map pairS ++ [.tup [.str w, .int 1]]), .tup (cutP (ps.map pairS) (some 1) none), .tup (cutP (ps.map pairS) none (some (-1))),
   .tup (ps.map pairS).reverse, .tup (ps.map pairS ++ [.non]), .tup (cutP (ps.map pairS) none (some at') ++ cutP (ps.map pairS) (some (at' + 1)) none), .dic (kvP ps)], OddP K (wkV y) := fun y hy => by
  simp only [List.mem_cons, List.not_mem_nil, or_false] at hy
  rcases hy with rfl | rfl | rfl | rfl | rfl | rfl | rfl | rfl | rfl | rfl | rfl | rfl | rfl | rfl | rfl | rfl | rfl
  ·exact t3.odd (by decide)
  ·exact t3.odd (by decide)
  ·exact t3.odd (by decide)
  ·exact u3.odd (by decide)
  ·exact u3.odd (by decide)
  ·exact tps.lst (by decide)
  ·exact odd_flat rfl (fun _ => nofun) she_non (by decide) (by decide)
  ·exact odd_flat rfl (fun _ => nofun) (she_int (by decide) (by decide)) (by decide) (by decide)
  ·exact odd_flat rfl (fun _ => nofun) (she_str (m := 0) (by decide +kernel) (by decide +kernel)) (by decide) (by decide)
  ·exact odd_flat rfl (fun _ => nofun) she_dic0 (by decide) (by decide)
  ·exact v1.odd (by decide)
  ·exact (TupE.cut tps).odd (by decide)
  ·exact (TupE.cut tps).odd (by decide)
  ·exact tps.rev.odd (by decide)
  ·exact v2.odd (by decide)
  ·exact v3.odd (by decide)
  ·exact odd_flat rfl (fun _ => nofun) (she_kv pk) (by decide) (by decide)
 obtain ⟨k, rfl⟩ := Int.eq_ofNat_of_zero_le j70
 have hk : k < 17 := by omega
 exact pick_any (k := k) rfl hk all fun y hy => ⟨o7, rfl, hp y o7 p7 hy⟩
end
theorem q_mulL11 {xs : List PV} {k : Int} {P : PV → Prop} (h1 : -(2 ^ 63) ≤ k) (h2 : k < 2 ^ 63) (h3 : xs.length * k.toNat ≤ sizeLine) (h : P (.lst (List.replicate k.toNat xs).flatten)) : rMulL (.lst xs) (.int k) P := ⟨h1, h2, h3, h⟩
theorem w_wk11 {te : TEp} {η : EP'} {Q : PV → EP' → Prop} (h : te η fun x η1 => Q (wkV x) η1) : tWkP te η Q := h
theorem q_gLst11 {n : Nat} {t : TGsp} {xs : List PV} {η : EP'} {R : EP' → Prop} (h : xs.length = n ∧ t xs η R) : gLstP n t (.lst xs) η R := h
theorem q_eqT11 {a : Str} {P : PV → Prop} (h : P (.bl true)) : rEqI false (.str a) (.str a) P := by
 show P (.bl (decide (a = a))); rw [decide_eq_true rfl]; exact h
def bls2 (b : Bool) : PyData := .list [.bool b, .bool b]
theorem q_reprB2 {b : Bool} {P : PV → Prop} (h : P (.str (bls2 b).shown)) : rRepr [.lst [.bl b, .bl b]] P :=
 ⟨bls2 b, rfl, rfl, by unfold bls2; simp [PyData.hasDict, PyData.hasDictAll], by unfold bls2; simp [PyData.depth, PyData.depthAll], by cases b <;> decide +kernel, h⟩
section
variable {K : PySem.W.Frag} {C : Addr} {args : List PV} {P : PV → Prop} {PF : List PV → Prop} {PR : PV → Ow → Prop} {o : Ow}
theorem rd_law_told (h : sp_law_told K C args P) : ts_law_told K C { nx := fun _ => P .non, rt := fun x _ => P x } (startP 7 args) := by
 obtain ⟨n, rs, x, rfl, hC, n1, n2, hw, ⟨fx, sx⟩, hp⟩ := h
 have e : startP 7 [lineP C n rs, .int n, rowsP rs, x] = [.va (lineP C n rs), .va (.int n), .va (rowsP rs), .va x, .no, .no, .no] := rfl
 rw [e]
 have sz : 1000 < sizeLine := by decide
 refine w_seq (w_set (w_cb (w_cons (w_varK (x := x) rfl (w_nil (q_reprE sx (by decide) (by decide) fun d hd => ?_))))))
 simp only [List.set_cons_zero, List.set_cons_succ]
 have rest : ∀ b : Bool, isPlanB n rs (wkV x) = b → tSeqP (tSetP 6 (tLstP (tConsP (tCallP (sp_is_plan K C) [] (tConsP (tVarP 0) (tConsP (tVarKP 3) (tNilP)))) (tConsP (tCallKP (sp_is_plan K C) 0 2 [1, 0] (tNilP) (tConsP (tVarKP 3) (tConsP (tVarP 0) (tNilP)))) (tNilP))))) (tRetP (tAndVP (tOpP (rEqI false) (tCBP rRepr (tConsP (tVarP 6) (tNilP))) (tCBP rRepr (tConsP (tOpP rMulL (tLstP (tConsP (tVarP 5) (tNilP))) (tConP (.int 2))) (tNilP)))) (tOpP (rEqI false) (tCBP rReprE (tConsP (tVarKP 3) (tNilP))) (tVarP 4)))) { nx := fun _ => P .non, rt := fun x _ => P x } [.va (lineP C n rs), .va (.int n), .va (rowsP rs), .va x, .va (.str d.shown), .va (.bl b), .no] := fun b hb => by
  have ip : ∀ {Q : PV → Prop}, Q (.bl b) → sp_is_plan K C [lineP C n rs, wkV x] Q := fun q => ⟨n, rs, wkV x, rfl, hC, n1, n2, hw, fx.1, fun xs e y hy => ((fx.2 xs e).2 y hy).1, by rw [hb]; exact q⟩
  refine w_seq (w_set (w_lst (w_cons (w_call (w_cons (w_var (x := lineP C n rs) rfl (w_cons (w_varK (x := x) rfl (w_nil (ip ?_))))))))))
  refine w_cons (w_callK (w_nil (w_cons (w_varK (x := x) rfl (w_cons (w_var (x := lineP C n rs) rfl (w_nil ⟨rfl, rfl, ip ?_⟩)))))))
  refine w_nil ⟨sz2, ?_⟩
  simp only [List.set_cons_zero, List.set_cons_succ]
  refine w_ret (w_andV (w_op (w_cb (w_cons (w_var (x := .lst [.bl b, .bl b]) rfl (w_nil (q_reprB2 ?_)))))))
  refine w_cb (w_cons (w_op (w_lst (w_cons (w_var (x := .bl b) rfl (w_nil ⟨sz1, w_con (q_mulL11 (by decide) (by decide) (by show 1 * 2 ≤ sizeLine; omega) ?_)⟩))))))
  refine w_nil (show rRepr [.lst [.bl b, .bl b]] _ from q_reprB2 (q_eqT11 ?_))
  refine w_op (w_cb (w_cons (w_varK (x := x) rfl (w_nil (q_reprE sx (by decide) (by decide) fun d' hd' => ?_)))))
  have : d' = d := Option.some.inj (hd'.symm.trans hd)
  subst this
  exact w_var (x := .str d'.shown) rfl (q_eqT11 hp)
 refine w_seq (w_set (w_op (w_call (w_cons (w_var (x := .int n) rfl (w_cons (w_var (x := rowsP rs) rfl (w_cons (w_varK (x := x) rfl (w_nil ⟨n, rs, wkV x, rfl, n1, n2, hw, fx, fun hy => ?_, fun hn v hv => ?_⟩))))))))))
 ·refine w_lst (w_nil ⟨Nat.zero_le _, ⟨.list [], .list [], rfl, rfl, rfl, rfl, ?_⟩⟩)
  simp only [List.set_cons_zero, List.set_cons_succ]
  exact rest true hy
 ·refine w_lst (w_nil ⟨Nat.zero_le _, ?_⟩)
  rcases hv with rfl | ⟨k, rfl⟩
  ·refine ⟨.list [.none], .list [], rfl, rfl, rfl, rfl, ?_⟩
   simp only [List.set_cons_zero, List.set_cons_succ]
   exact rest false hn
  ·refine ⟨.list [.int k], .list [], rfl, rfl, rfl, rfl, ?_⟩
   simp only [List.set_cons_zero, List.set_cons_succ]
   exact rest false hn
theorem rd_law_others (h : sp_law_others K C o args PR) : ts_law_others K C { nx := fun η' => ∃ o', η'[0]? = some (Sl.ow o') ∧ PR .non o', rt := fun x η' => ∃ o', η'[0]? = some (Sl.ow o') ∧ PR x o' } (startR 6 o args) := by
 obtain ⟨n, rs, po, rfl, n1, n2, hw, hp⟩ := h
 have e : startR 6 o [.int n, rowsP rs] = [.ow o, .va (.int n), .va (rowsP rs), .no, .no, .no] := rfl
 rw [e]
 have sz : 1000 < sizeLine := by decide
 have hl := hw.len
 refine w_seq (w_set (w_val (w_lc (w_itup (w_var (x := rowsP rs) rfl ?_)))))
 refine ⟨fun i acc η => acc = ((rs.map (·.1)).take i).map PV.str ∧ η = [.ow o, .va (.int n), .va (rowsP rs), .no, .no, .no], ⟨rfl, rfl⟩, ?_, ?_⟩
 ·rintro i x acc η hi ⟨rfl, rfl⟩
  rw [List.getElem?_map] at hi
  obtain ⟨r, hr, rfl⟩ := Option.map_eq_some_iff.mp hi
  have hil : i < rs.length := (List.getElem?_eq_some_iff.mp hr).1
  refine w_gname (w_yes (q_iteT (w_op (w_var (x := rowP r) rfl (w_con (q_ixT (x := .str r.1) rfl ⟨by rw [List.length_map, List.length_take]; omega, ?_, rfl⟩))))))
  rw [List.take_succ, List.getElem?_map, hr, List.map_append]; rfl
 rintro acc η ⟨rfl, rfl⟩
 rw [show (rs.map rowP).length = (rs.map (·.1)).length by rw [List.length_map, List.length_map], List.take_length]
 simp only [List.set_cons_zero, List.set_cons_succ]
 refine w_seq (w_set (w_callR rfl (w_cons (w_var (x := .lst ((rs.map (·.1)).map .str)) rfl (w_cons (w_op (w_con (w_callR rfl (w_cons (w_con (w_nil (q_callM rfl ⟨30, po, rfl, by decide, by decide, fun o1 j p1 j0 j1 => q_add ?_⟩))))))))))))
 refine w_nil (q_callM rfl ⟨rs.map (·.1), 1 + j, p1, rfl, names_ok hw, by rw [List.length_map]; exact hl, by omega, by omega, fun o2 us p2 hu _ _ => ?_⟩)
 simp only [List.set_cons_zero, List.set_cons_succ]
 refine w_ret (w_lst ?_)
 refine w_cons (w_lst (w_cons (w_var (x := .int n) rfl (w_cons (w_var (x := rowsP rs) rfl (w_nil ⟨sz2, ?_⟩))))))
 refine w_cons (w_lst (w_cons (w_cb (w_cons (w_con (w_cons (w_op (w_var (x := .int n) rfl (w_con (q_sub (w_nil (q_max ?_))))))))))))
 refine w_cons (w_var (x := rowsP rs) rfl (w_nil ⟨sz2, ?_⟩))
 refine w_cons (w_lst (w_cons (w_var (x := .int n) rfl (w_cons (w_var (x := rowsP us) rfl (w_nil ⟨sz2, ?_⟩))))))
 refine w_cons (w_lst (w_cons (w_var (x := .int n) rfl (w_cons (w_var (x := rowsP rs) rfl (w_nil ⟨sz2, ?_⟩))))))
 refine w_nil ⟨by show 4 ≤ sizeLine; omega, o2, rfl, hp [(n, rs), (if n - 1 > 1 then n - 1 else 1, rs), (n, us), (n, rs)] o2 p2 rfl fun b hb => ?_⟩
 simp only [List.mem_cons, List.not_mem_nil, or_false] at hb
 rcases hb with rfl | rfl | rfl | rfl
 ·exact ⟨n1, n2, hw⟩
 ·exact ⟨by dsimp only; split <;> omega, by dsimp only; split <;> omega, hw⟩
 ·exact ⟨n1, n2, hu⟩
 ·exact ⟨n1, n2, hw⟩
end
theorem w_g2L11 {a b : PV} {i j : Nat} {η : EP'} {R : EP' → Prop} (h : R ((η.set i (.va a)).set j (.va b))) : gConsP (gNameP i) (gConsP (gNameP j) (gNilP)) [a, b] η R := ⟨rfl, h⟩
def truS (p : Pair) : PV := .tup [.str p.1, if p.2 = 1 then .bl true else .int p.2]
theorem q_int11 {b : Bool} {P : PV → Prop} (h : P (.int (if b then 1 else 0))) : rInt1 [.bl b] P := h
theorem psok_of {n : Int} {rs : List Trip} {sd : List Seat} (n2 : n ≤ 20) (hw : Rw rs) (e : sd.map (·.1) = rs) (g : GoodS n sd) : PsOk (sd.map seatPair) := by
 subst e
 refine ⟨by rw [List.length_map]; have := hw.len; rw [List.length_map] at this; exact this, fun p hp => ?_, ?_⟩
 ·obtain ⟨x, hx, rfl⟩ := List.mem_map.mp hp
  have b := g.2 x hx
  exact ⟨(hw.each x.1 (List.mem_map.mpr ⟨x, hx, rfl⟩)).1, b.1, by show x.2 ≤ 20; omega⟩
 ·have := asc_nodup hw
  rw [List.map_map] at this ⊢
  exact this
section
variable {K : PySem.W.Frag} {C : Addr} {args : List PV} {P : PV → Prop} {PF : List PV → Prop} {PR : PV → Ow → Prop} {o : Ow}
theorem tru_odd {p : Pair} (h : isNm (.str p.1) = true ∧ 1 ≤ p.2 ∧ p.2 ≤ 20) : OddE K (truS p) := by
 obtain ⟨h1, h2, h3⟩ := h
 have e : (decide (1 ≤ p.1.length) && (decide (p.1.length ≤ 8) && p.1.cps.toList.all fun c => decide (c ∈ abc.cps.toList))) = true := h1
 have l8 := of_decide_eq_true (Bool.and_eq_true_iff.mp (Bool.and_eq_true_iff.mp e).2).1
 have low : LowS p.1 := nm_low h1
 have b60 : (20 : Int) < 10 ^ 60 := by decide
 unfold truS
 by_cases c : p.2 = 1
 ·rw [if_pos c]
  exact odd_pair rfl rfl (cmp_word low) (she_word ⟨low, by omega⟩) (she_bl _) (by decide) (by decide) (by decide) (by decide)
 ·rw [if_neg c]
  exact odd_pair rfl rfl (cmp_word low) (she_word ⟨low, by omega⟩) (she_int (i := p.2) (by omega) (by omega)) (by decide) (by decide) (by decide) (by decide)
theorem rd_right11_3 {n : Int} {rs : List Trip} {ps : List Pair} {o2 : Ow} {s9 : Sl} (hC : ClsT K C) (n1 : 1 ≤ n) (n2 : n ≤ 20) (hw : Rw rs) (p2 : Pool o2) (pk : PsOk ps) (hp : ∀ o', Pool o' → PR (.bl true) o') :
  ts_law_right11_3 K C { nx := fun η' => ∃ o', η'[0]? = some (Sl.ow o') ∧ PR .non o', rt := fun x η' => ∃ o', η'[0]? = some (Sl.ow o') ∧ PR x o' } [.ow o2, .va (.int n), .va (rowsP rs), .va (planK ps), .no, .no, .no, .no, .no, s9, .no, .no, .no, .no] := by
 have sz : 1000 < sizeLine := by decide
 have b40 : (20 : Int) < 10 ^ 40 := by decide
 have hl := hw.len
 have pl := pk.l
 refine w_seq (w_set (w_cb (w_cons (w_val (w_lc (w_itup (w_wk11 (w_var (x := planK ps) rfl ?_))))))))
 refine ⟨fun i acc η => acc = (ps.take i).map truS ∧ η = [.ow o2, .va (.int n), .va (rowsP rs), .va (planK ps), .no, .no, .no, .no, .no, s9, .no, .no, .no, .no], ⟨rfl, rfl⟩, ?_, ?_⟩
 ·rintro i x acc η hi ⟨rfl, rfl⟩
  rw [List.getElem?_map] at hi
  obtain ⟨p, hr, rfl⟩ := Option.map_eq_some_iff.mp hi
  have hil : i < ps.length := (List.getElem?_eq_some_iff.mp hr).1
  refine w_gpS ?_
  simp only [List.set_cons_zero, List.set_cons_succ]
  refine w_yes (q_iteT (w_tup (w_cons (w_var (x := .str p.1) rfl (w_cons (w_op (w_lst (w_cons (w_var (x := .int p.2) rfl (w_cons (w_con (w_nil ⟨sz2, w_cb (w_cons (w_op (w_var (x := .int p.2) rfl (w_con (q_eqN (w_nil (q_int11 ?_)))))))⟩))))))))))))
  have fin : ∀ v, v = (if p.2 = 1 then PV.bl true else .int p.2) → [PV.str p.1, v].length ≤ sizeLine ∧ ((ps.take i).map truS).length < sizeLine ∧ ((ps.take i).map truS ++ [PV.tup [.str p.1, v]]) = (ps.take (i + 1)).map truS := fun v hv => by
   refine ⟨sz2, by rw [List.length_map, List.length_take]; omega, ?_⟩
   rw [List.take_succ, hr, List.map_append, hv]; rfl
  by_cases c : p.2 = 1
  ·rw [decide_eq_true c]
   obtain ⟨f1, f2, f3⟩ := fin (.bl true) (by rw [if_pos c])
   exact q_ix (x := .bl true) rfl (w_nil ⟨f1, f2, f3, rfl⟩)
  ·rw [decide_eq_false c]
   obtain ⟨f1, f2, f3⟩ := fin (.int p.2) (by rw [if_neg c])
   exact q_ix (x := .int p.2) rfl (w_nil ⟨f1, f2, f3, rfl⟩)
 rintro acc η ⟨rfl, rfl⟩
 rw [List.length_map, List.take_length]
 refine w_nil (q_tupl ?_)
 simp only [List.set_cons_zero, List.set_cons_succ]
 have tps : TupE K 24 (ps.map pairS) := TupE.pairs pk
 have ttr : TupE K 24 (ps.map truS) := ⟨by rw [List.length_map]; exact pl, fun y hy => by
  obtain ⟨p, hp, rfl⟩ := List.mem_map.mp hy
  exact tru_odd (pk.p p hp)⟩
 refine w_seq (w_set (w_op (w_lst (w_cons (w_var (x := planK ps) rfl (w_cons (w_var (x := .tup (ps.map truS)) rfl (w_cons (w_var (x := planK ps) rfl (w_nil ⟨by show 3 ≤ sizeLine; omega, ?_⟩))))))))))
 refine w_val (w_lc (w_rng1 (w_con ?_)))
 refine ⟨by decide, by decide, fun i acc η => ∃ o', Pool o' ∧ acc.length = i ∧ (∀ y ∈ acc, OddP K (wkV y)) ∧ η = [.ow o', .va (.int n), .va (rowsP rs), .va (planK ps), .va (.tup (ps.map truS)), .no, .no, .no, .no, s9, .no, .no, .no, .no], ⟨o2, p2, rfl, (fun _ z => by cases z), rfl⟩, ?_, ?_⟩
 ·rintro i x acc η hi ⟨o', p', al, ao, rfl⟩
  obtain ⟨hin, rfl⟩ := rangeP_get hi
  refine w_gname (w_yes (q_iteT (w_callR rfl (w_cons (w_var (x := .int n) rfl (w_cons (w_var (x := rowsP rs) rfl (w_cons (w_var (x := planK ps) rfl (w_nil (q_callM rfl ⟨n, rs, ps, p', rfl, n1, n2, hw, pk, fun y o3 p3 oy => ?_⟩)))))))))))
  refine ⟨by omega, o3, p3, by rw [List.length_append, al]; rfl, fun z hz => ?_, rfl⟩
  rcases List.mem_append.mp hz with q | q
  ·exact ao z q
  ·rw [List.mem_singleton.mp q]; exact oy
 rintro acc η ⟨o3, p3, al, ao, rfl⟩
 rw [rangeP_len] at al
 refine q_addLL (by rw [al]; show 3 + 8 ≤ sizeLine; omega) ?_
 have all : ∀ y ∈ [planK ps, .tup (ps.map truS), planK ps] ++ acc, OddP K (wkV y) := fun y hy => by
  rcases List.mem_append.mp hy with z | z
  ·simp only [List.mem_cons, List.not_mem_nil, or_false] at z
   rcases z with rfl | rfl | rfl
   ·exact tps.odd (by decide)
   ·exact ttr.odd (by decide)
   ·exact tps.odd (by decide)
  ·exact ao y z
 have sl : ([planK ps, .tup (ps.map truS), planK ps] ++ acc).length = 11 := by rw [List.length_append, al]; rfl
 generalize [planK ps, .tup (ps.map truS), planK ps] ++ acc = S at all sl
 simp only [List.set_cons_zero, List.set_cons_succ]
 refine w_seq (w_for (w_lstP (w_callR rfl (w_cons (w_var (x := .int n) rfl (w_cons (w_var (x := rowsP rs) rfl (w_nil (q_callM rfl ⟨n, rs, p3, rfl, n1, n2, hw, fun bs o4 p4 bl bok => ?_⟩)))))))))
 refine ⟨fun i η => ∃ s6 s7 s8 s12 s13, η = [.ow o4, .va (.int n), .va (rowsP rs), .va (planK ps), .va (.tup (ps.map truS)), .va (.lst S), s6, s7, s8, s9, .no, .no, s12, s13], ⟨_, _, _, _, _, rfl⟩, ?_, ?_⟩
 ·rintro i x η hi ⟨s6, s7, s8, s12, s13, rfl⟩
  rw [List.getElem?_map] at hi
  obtain ⟨⟨m, us⟩, hb, rfl⟩ := Option.map_eq_some_iff.mp hi
  obtain ⟨m1, m2, hu⟩ := bok _ (List.mem_of_getElem? hb)
  refine q_gLst11 ⟨rfl, w_g2L11 ?_⟩
  simp only [List.set_cons_zero, List.set_cons_succ]
  refine w_seq (w_set (w_new' (w_cons (w_var (x := .int m) rfl (w_cons (w_var (x := rowsP us) rfl (w_nil ⟨m, us, rfl, rfl, m1, m2, hu, rfl, _, rfl, ?_⟩)))))))
  simp only [List.set_cons_zero, List.set_cons_succ]
  refine w_if (w_not (w_bl (w_cb (w_cons (w_val (w_lc (w_lstP (w_var (x := .lst S) rfl ?_))))))))
  refine ⟨fun j acc η => acc = List.replicate j (.bl true) ∧ ∃ s13, η = [.ow o4, .va (.int n), .va (rowsP rs), .va (planK ps), .va (.tup (ps.map truS)), .va (.lst S), .va (.int m), .va (rowsP us), .va (lineP C m us), s9, .no, .no, s12, s13], ⟨rfl, _, rfl⟩, ?_, ?_⟩
  ·rintro j y acc η hj ⟨rfl, t13, rfl⟩
   have jl := (List.getElem?_eq_some_iff.mp hj).1
   have oy := all y (List.mem_of_getElem? hj)
   refine w_gname (w_yes (q_iteT (w_call (w_cons (w_var (x := lineP C m us) rfl (w_cons (w_var (x := .int m) rfl (w_cons (w_var (x := rowsP us) rfl (w_cons (w_var (x := y) rfl (w_nil ⟨m, us, y, rfl, hC, m1, m2, hu, oy, ?_⟩))))))))))))
   exact ⟨by rw [List.length_replicate]; omega, by rw [List.replicate_succ'], _, rfl⟩
  rintro acc η ⟨rfl, t13, rfl⟩
  refine w_nil (q_all (all_true60 _) ?_)
  rw [show ∀ n : Nat, (List.replicate n true).all id = true from fun n => by simp]
  refine q_iteF (w_next ?_)
  exact ⟨_, _, _, _, _, rfl⟩
 ·rintro η ⟨s6, s7, s8, s12, s13, rfl⟩
  dsimp only
  refine w_ret (w_con ?_)
  exact ⟨o4, rfl, hp o4 p4⟩
theorem rd_law_right11 (h : sp_law_right11 K C o args PR) : ts_law_right11 K C { nx := fun η' => ∃ o', η'[0]? = some (Sl.ow o') ∧ PR .non o', rt := fun x η' => ∃ o', η'[0]? = some (Sl.ow o') ∧ PR x o' } (startR 14 o args) := by
 obtain ⟨po, rfl, hC, hp⟩ := h
 have e : startR 14 o [] = [.ow o, .no, .no, .no, .no, .no, .no, .no, .no, .no, .no, .no, .no, .no] := rfl
 rw [e]
 have sz : 1000 < sizeLine := by decide
 refine w_seq (w_asg (w_callR rfl (w_nil (q_callM rfl ⟨po, rfl, fun n rs o1 p1 n1 n2 hw hn => ?_⟩))))
 refine q_gLst11 ⟨rfl, w_g2L11 ?_⟩
 simp only [List.set_cons_zero, List.set_cons_succ]
 have hl := hw.len
 have b40 : (20 : Int) < 10 ^ 40 := by decide
 refine w_seq (w_set (w_callR rfl (w_cons (w_var (x := .int n) rfl (w_cons (w_var (x := rowsP rs) rfl (w_nil (q_callM rfl ⟨n, rs, p1, rfl, n1, n2, hw, fun ho o2 p2 => ?_, fun sd o2 p2 e g => ?_⟩))))))))
 ·simp only [List.set_cons_zero, List.set_cons_succ]
  refine w_seq (w_if (w_bl (w_op (w_var (x := .non) rfl (w_con (show rIsN false .non .non _ from ⟨true, rfl, q_iteT ?_⟩))))))
  refine w_set (w_cb (w_cons (w_val (w_lc (w_itup (w_var (x := rowsP rs) rfl ?_))))))
  refine ⟨fun i acc η => ∃ (o' : Ow) (ps : List Pair), Pool o' ∧ acc = ps.map pairS ∧ ps.map (·.1) = (rs.take i).map (·.1) ∧ (∀ p ∈ ps, 1 ≤ p.2 ∧ p.2 ≤ 20) ∧ η = [.ow o', .va (.int n), .va (rowsP rs), .va .non, .no, .no, .no, .no, .no, .no, .no, .no, .no, .no], ⟨o2, [], p2, rfl, rfl, (fun _ z => by cases z), rfl⟩, ?_, ?_⟩
  ·rintro i x acc η hi ⟨o', ps, p', rfl, pf, pb, rfl⟩
   rw [List.getElem?_map] at hi
   obtain ⟨r, hr, rfl⟩ := Option.map_eq_some_iff.mp hi
   have hil : i < rs.length := (List.getElem?_eq_some_iff.mp hr).1
   have pl : ps.length ≤ i := by
    have := congrArg List.length pf
    rw [List.length_map, List.length_map, List.length_take] at this
    omega
   refine w_gname (w_yes (q_iteT (w_tup (w_cons (w_op (w_var (x := rowP r) rfl (w_con (q_ixT (x := .str r.1) rfl (w_cons (w_op (w_con (w_callR rfl (w_cons (w_var (x := .int n) rfl (w_nil (q_callM rfl ⟨n, p', rfl, by omega, by omega, fun o3 s p3 s0 s1 => q_add ?_⟩))))))))))))))))
   refine w_nil ⟨sz2, by rw [List.length_map]; omega, o3, ps ++ [(r.1, 1 + s)], p3, by rw [List.map_append]; rfl, by rw [List.map_append, pf, List.take_succ, hr, List.map_append]; rfl, fun p hp => ?_, rfl⟩
   rcases List.mem_append.mp hp with z | z
   ·exact pb p z
   ·rw [List.mem_singleton.mp z]; exact ⟨by show 1 ≤ 1 + s; omega, by show 1 + s ≤ 20; omega⟩
  ·rintro acc η ⟨o', ps, p', rfl, pf, pb, rfl⟩
   rw [List.length_map, List.take_length] at pf
   refine w_nil ?_
   simp only [List.set_cons_zero, List.set_cons_succ]
   refine rd_right11_3 hC n1 n2 hw p' ⟨?_, fun p hp => ?_, ?_⟩ hp
   ·have := congrArg List.length pf
    rw [List.length_map, List.length_map] at this
    omega
   ·have hm : p.1 ∈ rs.map (·.1) := by rw [← pf]; exact List.mem_map.mpr ⟨p, hp, rfl⟩
    obtain ⟨r, hr, er⟩ := List.mem_map.mp hm
    exact ⟨by rw [← er]; exact (hw.each r hr).1, pb p hp⟩
   ·rw [pf]; exact asc_nodup hw
 ·simp only [List.set_cons_zero, List.set_cons_succ]
  refine w_seq (w_if (w_bl (w_op (w_var (x := planS sd) rfl (w_con (show rIsN false (planS sd) .non _ from ⟨false, rfl, q_iteF (w_next ?_)⟩))))))
  exact rd_right11_3 hC n1 n2 hw p2 (psok_of n2 hw e g) hp
end
def rows11 : List Trip := [(("a" : Str), 0, 3), (("b" : Str), 2, 5)]
theorem rw11 : Rw rows11 := ⟨by decide, by
 intro r hr
 unfold rows11 at hr
 simp only [List.mem_cons, List.not_mem_nil, or_false] at hr
 rcases hr with rfl | rfl <;> exact ⟨by decide +kernel, by decide, by decide⟩, by unfold rows11; simp only [List.pairwise_cons, List.mem_singleton, forall_eq, List.not_mem_nil, false_implies, implies_true, and_true, List.Pairwise.nil]; decide +kernel⟩
theorem rw0' : Rw [] := ⟨by decide, fun r h => absurd h List.not_mem_nil, .nil⟩
def p12 (a b : Int) : PV := .tup [.tup [.str ("a" : Str), .int a], .tup [.str ("b" : Str), .int b]]
theorem is12 : isPlanB 2 rows11 (p12 1 2) = true := by decide +kernel
theorem is22 : isPlanB 2 rows11 (p12 2 2) = false := by decide +kernel
theorem is0 : isPlanB 2 rows11 (.tup []) = false := by decide +kernel
theorem q_isNT11 {P : PV → Prop} (h : P (.bl false)) : rIsT true (.bl true) (.bl true) P := h
theorem is1 : isPlanB 1 [] (.tup []) = true := by decide +kernel
section
variable {K : PySem.W.Frag} {C : Addr} {args : List PV} {P : PV → Prop} {PF : List PV → Prop} {PR : PV → Ow → Prop} {o : Ow}
theorem kn12 {a b : Int} : ∀ xs, p12 a b = .tup xs → ∀ y ∈ xs, KnP K y := fun xs e y hy => by
 unfold p12 at e
 cases e
 simp only [List.mem_cons, List.not_mem_nil, or_false] at hy
 rcases hy with rfl | rfl
 ·exact ⟨.inl rfl, fun a b e => by cases e; exact ⟨.inl rfl, .inl rfl⟩⟩
 ·exact ⟨.inl rfl, fun a b e => by cases e; exact ⟨.inl rfl, .inl rfl⟩⟩
theorem rd_law (h : sp_law K C args P) : ts_law K C { nx := fun _ => P .non, rt := fun x _ => P x } (startP 4 args) := by
 obtain ⟨ns, rfl, hns, hC, hp⟩ := h
 have e : startP 4 [.scr ns] = [.va (.scr ns), .no, .no, .no] := rfl
 rw [e]
 have sz : 1000 < sizeLine := by decide
 have s3 : 3 ≤ sizeLine := by omega
 refine w_seq (w_set (w_new' (w_cons (w_con (w_cons (w_tup (w_cons (w_tup (w_cons (w_con (w_cons (w_con (w_cons (w_con (w_nil ⟨s3, ?_⟩)))))))))))))))
 refine w_cons (w_tup (w_cons (w_con (w_cons (w_con (w_cons (w_con (w_nil ⟨s3, ?_⟩))))))))
 refine w_nil ⟨sz2, w_nil ⟨2, rows11, rfl, rfl, by decide, by decide, rw11, rfl, _, rfl, ?_⟩⟩
 simp only [List.set_cons_zero, List.set_cons_succ]
 change tSeqP _ _ _ [.va (.scr ns), .va (lineP C 2 rows11), .no, .no]
 refine w_seq (w_set (w_lst (w_cons (w_call (w_cons (w_var (x := lineP C 2 rows11) rfl (w_cons (w_tup ?_))))))))
 refine w_cons (w_tup (w_cons (w_con (w_cons (w_con (w_nil ⟨sz2, ?_⟩))))))
 refine w_cons (w_tup (w_cons (w_con (w_cons (w_con (w_nil ⟨sz2, w_nil ⟨sz2, w_nil ?_⟩⟩))))))
 refine ⟨2, rows11, p12 1 2, rfl, hC, by decide, by decide, rw11, .inl rfl, kn12, ?_⟩
 rw [is12]
 refine w_cons (w_call (w_cons (w_var (x := lineP C 2 rows11) rfl (w_cons (w_tup ?_)))))
 refine w_cons (w_tup (w_cons (w_con (w_cons (w_con (w_nil ⟨sz2, ?_⟩))))))
 refine w_cons (w_tup (w_cons (w_con (w_cons (w_con (w_nil ⟨sz2, w_nil ⟨sz2, w_nil ?_⟩⟩))))))
 refine ⟨2, rows11, p12 2 2, rfl, hC, by decide, by decide, rw11, .inl rfl, kn12, ?_⟩
 rw [is22]
 refine w_cons (w_call (w_cons (w_var (x := lineP C 2 rows11) rfl (w_cons (w_tup (w_nil ⟨Nat.zero_le _, w_nil ?_⟩))))))
 refine ⟨2, rows11, .tup [], rfl, hC, by decide, by decide, rw11, .inl rfl, (fun xs e y hy => by cases e; cases hy), ?_⟩
 rw [is0]
 refine w_nil ⟨s3, ?_⟩
 simp only [List.set_cons_zero, List.set_cons_succ]
 refine w_seq (w_if (w_or (w_bl (w_op (w_var (x := .lst [.bl true, .bl false, .bl false]) rfl (w_lst (w_cons (w_con (w_cons (w_con (w_cons (w_con (w_nil ⟨s3, ?_⟩)))))))))))))
 refine ⟨.list [.bool true, .bool false, .bool false], .list [.bool true, .bool false, .bool false], rfl, rfl, rfl, rfl, ?_⟩
 refine q_iteF (w_bl (w_op (w_call (w_cons (w_new' (w_cons (w_con (w_nil ⟨1, [], rfl, rfl, by decide, by decide, rw0', rfl, _, rfl, ?_⟩))))))))
 refine w_cons (w_tup (w_nil ⟨Nat.zero_le _, w_nil ⟨1, [], .tup [], rfl, hC, by decide, by decide, rw0', .inl rfl, (fun xs e y hy => by cases e; cases hy), ?_⟩⟩))
 rw [is1]
 refine w_con (q_isNT11 (q_iteF (w_next ?_)))
 dsimp only
 refine w_ret (w_cb (w_cons (w_val (w_lc (w_rng1 (w_cb (w_cons (w_con (w_cons (w_cb (w_cons (w_cb (w_cons (w_var (x := .scr ns) rfl (w_nil (q_lenC (w_cons (w_con (w_nil (q_min ?_))))))))))))))))))))
 refine w_nil (q_max ?_)
 obtain ⟨N, hN, N0, N6⟩ : ∃ N : Int, (if (if (6 : Int) < (ns.length : Int) then (6 : Int) else (ns.length : Int)) > 2 then (if (6 : Int) < (ns.length : Int) then (6 : Int) else (ns.length : Int)) else 2) = N ∧ 0 ≤ N ∧ N ≤ 6 := ⟨_, rfl, by split <;> (first | split | skip) <;> omega, by split <;> (first | split | skip) <;> omega⟩
 rw [hN]
 refine ⟨by omega, by omega, fun i acc η => acc = List.replicate i (.bl true) ∧ ∃ s1 s2, η = [.va (.scr ns), s1, s2, .no], ⟨rfl, _, _, rfl⟩, ?_, ?_⟩
 ·rintro i x acc η hi ⟨rfl, s1, s2, rfl⟩
  obtain ⟨hn, rfl⟩ := rangeP_get hi
  refine w_gname (w_yes (q_iteT ?_))
  refine w_callRF' (w_callF' (w_cons (w_call (w_cons (w_var (x := .scr ns) rfl (w_cons (w_var rfl (w_nil ⟨ns, _, rfl, by omega, by omega, fun c => ?_⟩))))))))
  refine w_nil ⟨c, rfl, fun s d s0 s1 d0 => w_nil ⟨⟨s, d, 0, rfl, s0, s1, d0⟩, rfl, hC, fun o' p' => ?_⟩⟩
  exact ⟨by rw [List.length_replicate]; omega, by rw [List.replicate_succ'], _, _, rfl⟩
 ·rintro acc η ⟨rfl, s1, s2, rfl⟩
  rw [rangeP_len]
  refine w_nil (q_all (all_true60 _) ?_)
  rw [show ∀ n : Nat, (List.replicate n true).all id = true from fun n => by simp]
  exact hp
end
end Z
set_option maxHeartbeats 4000000
namespace ZK
open PySem PySem.Spec L2 Z
open PyProof.Rows hiding St
def top (i : Nat) : Stmt := PySem.Challenge.pw_seatchains_k11_plans_told_from_others.main.body.getD i (.Pass ⟨0, 0, 0, 0⟩)
abbrev s_is_integer : Stmt := top 13
abbrev N_is_integer : List Str := [("thing" : Str)]
theorem sc_is_integer : FnScope N_is_integer [("thing" : Str)] (defScope s_is_integer) := ⟨rfl, rfl, rfl, by decide +kernel, rfl, by decide +kernel, by decide +kernel⟩
abbrev s_check_seats : Stmt := top 25
abbrev N_check_seats : List Str := [("seats" : Str)]
theorem sc_check_seats : FnScope N_check_seats [("seats" : Str)] (defScope s_check_seats) := ⟨rfl, rfl, rfl, by decide +kernel, rfl, by decide +kernel, by decide +kernel⟩
abbrev s_is_later : Stmt := top 15
abbrev N_is_later : List Str := [("thing" : Str), ("start" : Str)]
theorem sc_is_later : FnScope N_is_later [("thing" : Str), ("start" : Str)] (defScope s_is_later) := ⟨rfl, rfl, rfl, by decide +kernel, rfl, by decide +kernel, by decide +kernel⟩
abbrev s_is_station : Stmt := top 14
abbrev N_is_station : List Str := [("thing" : Str)]
theorem sc_is_station : FnScope N_is_station [("thing" : Str)] (defScope s_is_station) := ⟨rfl, rfl, rfl, by decide +kernel, rfl, by decide +kernel, by decide +kernel⟩
abbrev s_is_trip_name : Stmt := top 16
abbrev N_is_trip_name : List Str := [("thing" : Str), ("letter" : Str)]
theorem sc_is_trip_name : FnScope N_is_trip_name [("thing" : Str)] (defScope s_is_trip_name) := ⟨rfl, rfl, rfl, by decide +kernel, rfl, by decide +kernel, by decide +kernel⟩
abbrev s_is_trip : Stmt := top 17
abbrev N_is_trip : List Str := [("thing" : Str), ("name" : Str), ("start" : Str), ("end" : Str)]
theorem sc_is_trip : FnScope N_is_trip [("thing" : Str)] (defScope s_is_trip) := ⟨rfl, rfl, rfl, by decide +kernel, rfl, by decide +kernel, by decide +kernel⟩
abbrev s_valid_beginning : Stmt := top 26
abbrev N_valid_beginning : List Str := [("trips" : Str), ("before" : Str), ("at" : Str), ("thing" : Str)]
theorem sc_valid_beginning : FnScope N_valid_beginning [("trips" : Str)] (defScope s_valid_beginning) := ⟨rfl, rfl, rfl, by decide +kernel, rfl, by decide +kernel, by decide +kernel⟩
abbrev s_Line_init : Stmt := inClass (top 24) 2
abbrev N_Line_init : List Str := [("self" : Str), ("seats" : Str), ("trips" : Str), ("valid" : Str)]
theorem sc_Line_init : FnScope N_Line_init [("self" : Str), ("seats" : Str), ("trips" : Str)] (defScope s_Line_init) := ⟨rfl, rfl, rfl, by decide +kernel, rfl, by decide +kernel, by decide +kernel⟩
abbrev s_law_cell : Stmt := top 40
abbrev N_law_cell : List Str := [("_law_script" : Str), ("_law_k" : Str), ("_law_state" : Str), ("_law_cell_here" : Str)]
theorem sc_law_cell : FnScope N_law_cell [("_law_script" : Str), ("_law_k" : Str)] (defScope s_law_cell) := ⟨rfl, rfl, rfl, by decide +kernel, rfl, by decide +kernel, by decide +kernel⟩
abbrev s_law_pool : Stmt := top 41
abbrev N_law_pool : List Str := [("_law_cell_here" : Str), ("_law_digits" : Str)]
theorem sc_law_pool : FnScope N_law_pool [("_law_cell_here" : Str)] (defScope s_law_pool) := ⟨rfl, rfl, rfl, by decide +kernel, rfl, by decide +kernel, by decide +kernel⟩
abbrev s_law_draw : Stmt := top 42
abbrev N_law_draw : List Str := [("_law_pool_here" : Str), ("_law_many" : Str), ("_law_state" : Str), ("_law_digit" : Str)]
theorem sc_law_draw : FnScope N_law_draw [("_law_pool_here" : Str), ("_law_many" : Str)] (defScope s_law_draw) := ⟨rfl, rfl, rfl, by decide +kernel, rfl, by decide +kernel, by decide +kernel⟩
abbrev s_law_loadS : Stmt := top 48
abbrev N_law_loadS : List Str := [("_law_rides_here" : Str), ("_law_place" : Str), ("_law_ride" : Str)]
theorem sc_law_loadS : FnScope N_law_loadS [("_law_rides_here" : Str), ("_law_place" : Str)] (defScope s_law_loadS) := ⟨rfl, rfl, rfl, by decide +kernel, rfl, by decide +kernel, by decide +kernel⟩
abbrev s_law_peakS : Stmt := top 49
abbrev N_law_peakS : List Str := [("_law_rides_here" : Str), ("_law_ride" : Str)]
theorem sc_law_peakS : FnScope N_law_peakS [("_law_rides_here" : Str)] (defScope s_law_peakS) := ⟨rfl, rfl, rfl, by decide +kernel, rfl, by decide +kernel, by decide +kernel⟩
abbrev s_law_far : Stmt := top 44
abbrev N_law_far : List Str := [("_law_pool_here" : Str), ("_law_high" : Str), ("_law_found" : Str), ("_law_here" : Str), ("_law_way" : Str), ("_law_k" : Str)]
theorem sc_law_far : FnScope N_law_far [("_law_pool_here" : Str), ("_law_high" : Str)] (defScope s_law_far) := ⟨rfl, rfl, rfl, by decide +kernel, rfl, by decide +kernel, by decide +kernel⟩
abbrev s_law_rides : Stmt := top 45
abbrev N_law_rides : List Str := [("_law_pool_here" : Str), ("_law_words_here" : Str), ("_law_high" : Str), ("_law_places" : Str), ("_law_found" : Str), ("_law_last" : Str), ("_law_word" : Str), ("_law_way" : Str), ("_law_begin" : Str)]
theorem sc_law_rides : FnScope N_law_rides [("_law_pool_here" : Str), ("_law_words_here" : Str), ("_law_high" : Str)] (defScope s_law_rides) := ⟨rfl, rfl, rfl, by decide +kernel, rfl, by decide +kernel, by decide +kernel⟩
abbrev s_law_words : Stmt := top 43
abbrev N_law_words : List Str := [("_law_pool_here" : Str), ("_law_many" : Str), ("_law_letters" : Str), ("_law_menu" : Str), ("_law_way" : Str), ("_law_begin" : Str), ("_law_stem" : Str), ("_law_at" : Str), ("_law_k" : Str)]
theorem sc_law_words : FnScope N_law_words [("_law_pool_here" : Str), ("_law_many" : Str)] (defScope s_law_words) := ⟨rfl, rfl, rfl, by decide +kernel, rfl, by decide +kernel, by decide +kernel⟩
abbrev s_law_long_case : Stmt := top 54
abbrev N_law_long_case : List Str := [("_law_pool_here" : Str), ("_law_many" : Str), ("_law_high" : Str), ("_law_rides_here" : Str), ("_law_width" : Str)]
theorem sc_law_long_case : FnScope N_law_long_case [("_law_pool_here" : Str)] (defScope s_law_long_case) := ⟨rfl, rfl, rfl, by decide +kernel, rfl, by decide +kernel, by decide +kernel⟩
abbrev s_law_no_plan : Stmt := top 59
abbrev N_law_no_plan : List Str := [("_law_pool_here" : Str), ("_law_width" : Str), ("_law_rides_here" : Str), ("_law_spots" : Str), ("_law_words_here" : Str), ("_law_word" : Str), ("_law_at" : Str), ("_law_later" : Str), ("_law_odd" : Str), ("_law_once" : Str), ("_law_twice" : Str), ("_law_some" : Str), ("_law_ride" : Str)]
theorem sc_law_no_plan : FnScope N_law_no_plan [("_law_pool_here" : Str), ("_law_width" : Str), ("_law_rides_here" : Str), ("_law_spots" : Str)] (defScope s_law_no_plan) := ⟨rfl, rfl, rfl, by decide +kernel, rfl, by decide +kernel, by decide +kernel⟩
abbrev s_law_others : Stmt := top 61
abbrev N_law_others : List Str := [("_law_pool_here" : Str), ("_law_width" : Str), ("_law_rides_here" : Str), ("_law_words_here" : Str), ("_law_more" : Str), ("_law_ride" : Str)]
theorem sc_law_others : FnScope N_law_others [("_law_pool_here" : Str), ("_law_width" : Str), ("_law_rides_here" : Str)] (defScope s_law_others) := ⟨rfl, rfl, rfl, by decide +kernel, rfl, by decide +kernel, by decide +kernel⟩
abbrev s_law_by_start : Stmt := top 47
abbrev N_law_by_start : List Str := [("_law_rides_here" : Str), ("_law_rows" : Str), ("_law_ride" : Str), ("_law_row" : Str)]
theorem sc_law_by_start : FnScope N_law_by_start [("_law_rides_here" : Str)] (defScope s_law_by_start) := ⟨rfl, rfl, rfl, by decide +kernel, rfl, by decide +kernel, by decide +kernel⟩
abbrev s_law_meet : Stmt := top 46
abbrev N_law_meet : List Str := [("_law_one_ride" : Str), ("_law_more_ride" : Str)]
theorem sc_law_meet : FnScope N_law_meet [("_law_one_ride" : Str), ("_law_more_ride" : Str)] (defScope s_law_meet) := ⟨rfl, rfl, rfl, by decide +kernel, rfl, by decide +kernel, by decide +kernel⟩
abbrev s_law_choices : Stmt := top 50
abbrev N_law_choices : List Str := [("_law_width" : Str), ("_law_rides_here" : Str), ("_law_held" : Str), ("_law_ride" : Str), ("_law_taken" : Str), ("_law_each" : Str), ("_law_spot" : Str)]
theorem sc_law_choices : FnScope N_law_choices [("_law_width" : Str), ("_law_rides_here" : Str), ("_law_held" : Str), ("_law_ride" : Str)] (defScope s_law_choices) := ⟨rfl, rfl, rfl, by decide +kernel, rfl, by decide +kernel, by decide +kernel⟩
abbrev s_law_flat : Stmt := top 51
abbrev N_law_flat : List Str := [("_law_held" : Str), ("_law_word" : Str)]
theorem sc_law_flat : FnScope N_law_flat [("_law_held" : Str)] (defScope s_law_flat) := ⟨rfl, rfl, rfl, by decide +kernel, rfl, by decide +kernel, by decide +kernel⟩
abbrev s_law_drawnN : Stmt := top 52
abbrev N_law_drawnN : List Str := [("_law_pool_here" : Str), ("_law_width" : Str), ("_law_rides_here" : Str), ("_law_held" : Str), ("_law_ride" : Str), ("_law_spots" : Str)]
theorem sc_law_drawnN : FnScope N_law_drawnN [("_law_pool_here" : Str), ("_law_width" : Str), ("_law_rides_here" : Str)] (defScope s_law_drawnN) := ⟨rfl, rfl, rfl, by decide +kernel, rfl, by decide +kernel, by decide +kernel⟩
abbrev s_law_product : Stmt := top 53
abbrev N_law_product : List Str := [("_law_width" : Str), ("_law_rides_here" : Str), ("_law_rows" : Str), ("_law_whole" : Str), ("_law_k" : Str), ("_law_each" : Str)]
theorem sc_law_product : FnScope N_law_product [("_law_width" : Str), ("_law_rides_here" : Str)] (defScope s_law_product) := ⟨rfl, rfl, rfl, by decide +kernel, rfl, by decide +kernel, by decide +kernel⟩
abbrev s_law_sizes : Stmt := top 56
abbrev N_law_sizes : List Str := [("_law_width" : Str), ("_law_rides_here" : Str), ("_law_rows" : Str), ("_law_found" : Str), ("_law_k" : Str), ("_law_each" : Str)]
theorem sc_law_sizes : FnScope N_law_sizes [("_law_width" : Str), ("_law_rides_here" : Str)] (defScope s_law_sizes) := ⟨rfl, rfl, rfl, by decide +kernel, rfl, by decide +kernel, by decide +kernel⟩
abbrev s_law_spots_at : Stmt := top 57
abbrev N_law_spots_at : List Str := [("_law_width" : Str), ("_law_rides_here" : Str), ("_law_wanted" : Str), ("_law_digits" : Str), ("_law_held" : Str), ("_law_size" : Str), ("_law_digit" : Str), ("_law_ride" : Str)]
theorem sc_law_spots_at : FnScope N_law_spots_at [("_law_width" : Str), ("_law_rides_here" : Str), ("_law_wanted" : Str)] (defScope s_law_spots_at) := ⟨rfl, rfl, rfl, by decide +kernel, rfl, by decide +kernel, by decide +kernel⟩
abbrev s_law_some_planN : Stmt := top 58
abbrev N_law_some_planN : List Str := [("_law_pool_here" : Str), ("_law_width" : Str), ("_law_rides_here" : Str), ("_law_whole" : Str)]
theorem sc_law_some_planN : FnScope N_law_some_planN [("_law_pool_here" : Str), ("_law_width" : Str), ("_law_rides_here" : Str)] (defScope s_law_some_planN) := ⟨rfl, rfl, rfl, by decide +kernel, rfl, by decide +kernel, by decide +kernel⟩
abbrev s_law_fault : Stmt := top 55
abbrev N_law_fault : List Str := [("_law_width" : Str), ("_law_rides_here" : Str), ("_law_spots" : Str), ("_law_k" : Str), ("_law_pair" : Str), ("_law_j" : Str)]
theorem sc_law_fault : FnScope N_law_fault [("_law_width" : Str), ("_law_rides_here" : Str), ("_law_spots" : Str)] (defScope s_law_fault) := ⟨rfl, rfl, rfl, by decide +kernel, rfl, by decide +kernel, by decide +kernel⟩
abbrev s_Line_trips : Stmt := inClass (top 24) 11
abbrev N_Line_trips : List Str := [("self" : Str)]
theorem sc_Line_trips : FnScope N_Line_trips [("self" : Str)] (defScope s_Line_trips) := ⟨rfl, rfl, rfl, by decide +kernel, rfl, by decide +kernel, by decide +kernel⟩
abbrev s_check_line : Stmt := top 34
abbrev N_check_line : List Str := [("line" : Str)]
theorem sc_check_line : FnScope N_check_line [("line" : Str)] (defScope s_check_line) := ⟨rfl, rfl, rfl, by decide +kernel, rfl, by decide +kernel, by decide +kernel⟩
abbrev s_Line_capacity : Stmt := inClass (top 24) 10
abbrev N_Line_capacity : List Str := [("self" : Str)]
theorem sc_Line_capacity : FnScope N_Line_capacity [("self" : Str)] (defScope s_Line_capacity) := ⟨rfl, rfl, rfl, by decide +kernel, rfl, by decide +kernel, by decide +kernel⟩
abbrev s_is_pair : Stmt := top 20
abbrev N_is_pair : List Str := [("thing" : Str)]
theorem sc_is_pair : FnScope N_is_pair [("thing" : Str)] (defScope s_is_pair) := ⟨rfl, rfl, rfl, by decide +kernel, rfl, by decide +kernel, by decide +kernel⟩
abbrev s_is_seat : Stmt := top 19
abbrev N_is_seat : List Str := [("thing" : Str), ("seats" : Str)]
theorem sc_is_seat : FnScope N_is_seat [("thing" : Str), ("seats" : Str)] (defScope s_is_seat) := ⟨rfl, rfl, rfl, by decide +kernel, rfl, by decide +kernel, by decide +kernel⟩
abbrev s_trip_named : Stmt := top 28
abbrev N_trip_named : List Str := [("trips" : Str), ("name" : Str), ("row" : Str)]
theorem sc_trip_named : FnScope N_trip_named [("trips" : Str), ("name" : Str)] (defScope s_trip_named) := ⟨rfl, rfl, rfl, by decide +kernel, rfl, by decide +kernel, by decide +kernel⟩
abbrev s_names_trip_and_seat : Stmt := top 36
abbrev N_names_trip_and_seat : List Str := [("line" : Str), ("thing" : Str), ("name" : Str), ("seat" : Str)]
theorem sc_names_trip_and_seat : FnScope N_names_trip_and_seat [("line" : Str), ("thing" : Str)] (defScope s_names_trip_and_seat) := ⟨rfl, rfl, rfl, by decide +kernel, rfl, by decide +kernel, by decide +kernel⟩
abbrev s_meet : Stmt := top 31
abbrev N_meet : List Str := [("trip" : Str), ("other" : Str)]
theorem sc_meet : FnScope N_meet [("trip" : Str), ("other" : Str)] (defScope s_meet) := ⟨rfl, rfl, rfl, by decide +kernel, rfl, by decide +kernel, by decide +kernel⟩
abbrev s_seats_left : Stmt := top 32
abbrev N_seats_left : List Str := [("seats" : Str), ("trip" : Str), ("seated" : Str), ("taken" : Str), ("other" : Str), ("seat" : Str)]
theorem sc_seats_left : FnScope N_seats_left [("seats" : Str), ("trip" : Str), ("seated" : Str)] (defScope s_seats_left) := ⟨rfl, rfl, rfl, by decide +kernel, rfl, by decide +kernel, by decide +kernel⟩
abbrev s_valid_pairs : Stmt := top 35
abbrev N_valid_pairs : List Str := [("line" : Str), ("things" : Str), ("seated" : Str), ("trip" : Str), ("thing" : Str)]
theorem sc_valid_pairs : FnScope N_valid_pairs [("line" : Str), ("things" : Str)] (defScope s_valid_pairs) := ⟨rfl, rfl, rfl, by decide +kernel, rfl, by decide +kernel, by decide +kernel⟩
abbrev s_is_plan : Stmt := top 38
abbrev N_is_plan : List Str := [("line" : Str), ("thing" : Str)]
theorem sc_is_plan : FnScope N_is_plan [("line" : Str), ("thing" : Str)] (defScope s_is_plan) := ⟨rfl, rfl, rfl, by decide +kernel, rfl, by decide +kernel, by decide +kernel⟩
abbrev s_law_told : Stmt := top 60
abbrev N_law_told : List Str := [("_law_board" : Str), ("_law_width" : Str), ("_law_rides_here" : Str), ("_law_spots" : Str), ("_law_kept" : Str), ("_law_due" : Str), ("_law_told_here" : Str)]
theorem sc_law_told : FnScope N_law_told [("_law_board" : Str), ("_law_width" : Str), ("_law_rides_here" : Str), ("_law_spots" : Str)] (defScope s_law_told) := ⟨rfl, rfl, rfl, by decide +kernel, rfl, by decide +kernel, by decide +kernel⟩
abbrev s_law_right11 : Stmt := top 62
abbrev N_law_right11 : List Str := [("_law_pool_here" : Str), ("_law_width" : Str), ("_law_rides_here" : Str), ("_law_spots" : Str), ("_law_trues" : Str), ("_law_some" : Str), ("_law_wide" : Str), ("_law_others_here" : Str), ("_law_board" : Str), ("_law_ride" : Str), ("_law_word" : Str), ("_law_own" : Str), ("_law_turn" : Str), ("_law_each" : Str)]
theorem sc_law_right11 : FnScope N_law_right11 [("_law_pool_here" : Str)] (defScope s_law_right11) := ⟨rfl, rfl, rfl, by decide +kernel, rfl, by decide +kernel, by decide +kernel⟩
abbrev s_law : Stmt := top 63
abbrev N_law : List Str := [("_law_script" : Str), ("_law_board" : Str), ("_law_told_here" : Str), ("_law_k" : Str)]
theorem sc_law : FnScope N_law [("_law_script" : Str)] (defScope s_law) := ⟨rfl, rfl, rfl, by decide +kernel, rfl, by decide +kernel, by decide +kernel⟩
structure Ad where
 CLine : Addr
 cL : Addr
 tL : Addr
 eL : Addr
 mL : Value
 pS : Addr
 qT : Addr
 qC : Addr
 f_is_integer : Addr
 d_is_integer : FuncData
 f_check_seats : Addr
 d_check_seats : FuncData
 f_is_later : Addr
 d_is_later : FuncData
 f_is_station : Addr
 d_is_station : FuncData
 f_is_trip_name : Addr
 d_is_trip_name : FuncData
 f_is_trip : Addr
 d_is_trip : FuncData
 f_valid_beginning : Addr
 d_valid_beginning : FuncData
 f_Line_init : Addr
 d_Line_init : FuncData
 f_law_cell : Addr
 d_law_cell : FuncData
 f_law_pool : Addr
 d_law_pool : FuncData
 f_law_draw : Addr
 d_law_draw : FuncData
 f_law_loadS : Addr
 d_law_loadS : FuncData
 f_law_peakS : Addr
 d_law_peakS : FuncData
 f_law_far : Addr
 d_law_far : FuncData
 f_law_rides : Addr
 d_law_rides : FuncData
 f_law_words : Addr
 d_law_words : FuncData
 f_law_long_case : Addr
 d_law_long_case : FuncData
 f_law_no_plan : Addr
 d_law_no_plan : FuncData
 f_law_others : Addr
 d_law_others : FuncData
 f_law_by_start : Addr
 d_law_by_start : FuncData
 f_law_meet : Addr
 d_law_meet : FuncData
 f_law_choices : Addr
 d_law_choices : FuncData
 f_law_flat : Addr
 d_law_flat : FuncData
 f_law_drawnN : Addr
 d_law_drawnN : FuncData
 f_law_product : Addr
 d_law_product : FuncData
 f_law_sizes : Addr
 d_law_sizes : FuncData
 f_law_spots_at : Addr
 d_law_spots_at : FuncData
 f_law_some_planN : Addr
 d_law_some_planN : FuncData
 f_law_fault : Addr
 d_law_fault : FuncData
 f_Line_trips : Addr
 d_Line_trips : FuncData
 f_check_line : Addr
 d_check_line : FuncData
 f_Line_capacity : Addr
 d_Line_capacity : FuncData
 f_is_pair : Addr
 d_is_pair : FuncData
 f_is_seat : Addr
 d_is_seat : FuncData
 f_trip_named : Addr
 d_trip_named : FuncData
 f_names_trip_and_seat : Addr
 d_names_trip_and_seat : FuncData
 f_meet : Addr
 d_meet : FuncData
 f_seats_left : Addr
 d_seats_left : FuncData
 f_valid_pairs : Addr
 d_valid_pairs : FuncData
 f_is_plan : Addr
 d_is_plan : FuncData
 f_law_told : Addr
 d_law_told : FuncData
 f_law_right11 : Addr
 d_law_right11 : FuncData
 f_law : Addr
 d_law : FuncData
structure Tx (K : PySem.W.Frag) (mg : Str → Option Value) (a : Ad) : Prop where
 cl : Cls K a.CLine
 clt : ClsT K a.CLine
 g_Line : mg "Line" = some (.ref a.CLine)
 mkL : Mk K a.CLine a.f_Line_init
 dfl : ∀ {O H}, Reps K O H [.tup []] [.ref a.eL]
 p_trips : PropOf K a.CLine "trips" a.qT a.f_Line_trips
 p_capacity : PropOf K a.CLine "capacity" a.qC a.f_Line_capacity
 n_seat_count : NoAttr K a.CLine "seat_count"
 n_rows : NoAttr K a.CLine "rows"
 n_queue : NoAttr K a.CLine "queue"
 F_is_integer : Fun K "is_integer" "is_integer" s_is_integer a.f_is_integer a.d_is_integer
 g_is_integer : mg "is_integer" = some (.ref a.f_is_integer)
 k_is_integer : PySem.W.keepIn K (.ref a.f_is_integer) = true
 F_check_seats : Fun K "check_seats" "check_seats" s_check_seats a.f_check_seats a.d_check_seats
 g_check_seats : mg "check_seats" = some (.ref a.f_check_seats)
 k_check_seats : PySem.W.keepIn K (.ref a.f_check_seats) = true
 F_is_later : Fun K "is_later" "is_later" s_is_later a.f_is_later a.d_is_later
 g_is_later : mg "is_later" = some (.ref a.f_is_later)
 k_is_later : PySem.W.keepIn K (.ref a.f_is_later) = true
 F_is_station : Fun K "is_station" "is_station" s_is_station a.f_is_station a.d_is_station
 g_is_station : mg "is_station" = some (.ref a.f_is_station)
 k_is_station : PySem.W.keepIn K (.ref a.f_is_station) = true
 F_is_trip_name : Fun K "is_trip_name" "is_trip_name" s_is_trip_name a.f_is_trip_name a.d_is_trip_name
 g_is_trip_name : mg "is_trip_name" = some (.ref a.f_is_trip_name)
 k_is_trip_name : PySem.W.keepIn K (.ref a.f_is_trip_name) = true
 F_is_trip : Fun K "is_trip" "is_trip" s_is_trip a.f_is_trip a.d_is_trip
 g_is_trip : mg "is_trip" = some (.ref a.f_is_trip)
 k_is_trip : PySem.W.keepIn K (.ref a.f_is_trip) = true
 F_valid_beginning : Fun K "valid_beginning" "valid_beginning" s_valid_beginning a.f_valid_beginning a.d_valid_beginning
 g_valid_beginning : mg "valid_beginning" = some (.ref a.f_valid_beginning)
 k_valid_beginning : PySem.W.keepIn K (.ref a.f_valid_beginning) = true
 F_Line_init : FunX K "__init__" "Line.__init__" s_Line_init [.ref a.eL] a.cL a.f_Line_init a.d_Line_init
 F_law_cell : Fun K "_law_cell" "_law_cell" s_law_cell a.f_law_cell a.d_law_cell
 g__law_cell : mg "_law_cell" = some (.ref a.f_law_cell)
 k__law_cell : PySem.W.keepIn K (.ref a.f_law_cell) = true
 F_law_pool : Fun K "_law_pool" "_law_pool" s_law_pool a.f_law_pool a.d_law_pool
 g__law_pool : mg "_law_pool" = some (.ref a.f_law_pool)
 k__law_pool : PySem.W.keepIn K (.ref a.f_law_pool) = true
 F_law_draw : Fun K "_law_draw" "_law_draw" s_law_draw a.f_law_draw a.d_law_draw
 g__law_draw : mg "_law_draw" = some (.ref a.f_law_draw)
 k__law_draw : PySem.W.keepIn K (.ref a.f_law_draw) = true
 F_law_loadS : Fun K "_law_load" "_law_load" s_law_loadS a.f_law_loadS a.d_law_loadS
 g__law_load : mg "_law_load" = some (.ref a.f_law_loadS)
 k__law_load : PySem.W.keepIn K (.ref a.f_law_loadS) = true
 F_law_peakS : Fun K "_law_peak" "_law_peak" s_law_peakS a.f_law_peakS a.d_law_peakS
 g__law_peak : mg "_law_peak" = some (.ref a.f_law_peakS)
 k__law_peak : PySem.W.keepIn K (.ref a.f_law_peakS) = true
 F_law_far : Fun K "_law_far" "_law_far" s_law_far a.f_law_far a.d_law_far
 g__law_far : mg "_law_far" = some (.ref a.f_law_far)
 k__law_far : PySem.W.keepIn K (.ref a.f_law_far) = true
 F_law_rides : Fun K "_law_rides" "_law_rides" s_law_rides a.f_law_rides a.d_law_rides
 g__law_rides : mg "_law_rides" = some (.ref a.f_law_rides)
 k__law_rides : PySem.W.keepIn K (.ref a.f_law_rides) = true
 F_law_words : Fun K "_law_words" "_law_words" s_law_words a.f_law_words a.d_law_words
 g__law_words : mg "_law_words" = some (.ref a.f_law_words)
 k__law_words : PySem.W.keepIn K (.ref a.f_law_words) = true
 F_law_long_case : Fun K "_law_long_case" "_law_long_case" s_law_long_case a.f_law_long_case a.d_law_long_case
 g__law_long_case : mg "_law_long_case" = some (.ref a.f_law_long_case)
 k__law_long_case : PySem.W.keepIn K (.ref a.f_law_long_case) = true
 F_law_no_plan : Fun K "_law_no_plan" "_law_no_plan" s_law_no_plan a.f_law_no_plan a.d_law_no_plan
 g__law_no_plan : mg "_law_no_plan" = some (.ref a.f_law_no_plan)
 k__law_no_plan : PySem.W.keepIn K (.ref a.f_law_no_plan) = true
 F_law_others : Fun K "_law_others" "_law_others" s_law_others a.f_law_others a.d_law_others
 g__law_others : mg "_law_others" = some (.ref a.f_law_others)
 k__law_others : PySem.W.keepIn K (.ref a.f_law_others) = true
 F_law_by_start : Fun K "_law_by_start" "_law_by_start" s_law_by_start a.f_law_by_start a.d_law_by_start
 g__law_by_start : mg "_law_by_start" = some (.ref a.f_law_by_start)
 k__law_by_start : PySem.W.keepIn K (.ref a.f_law_by_start) = true
 F_law_meet : Fun K "_law_meet" "_law_meet" s_law_meet a.f_law_meet a.d_law_meet
 g__law_meet : mg "_law_meet" = some (.ref a.f_law_meet)
 k__law_meet : PySem.W.keepIn K (.ref a.f_law_meet) = true
 F_law_choices : Fun K "_law_choices" "_law_choices" s_law_choices a.f_law_choices a.d_law_choices
 g__law_choices : mg "_law_choices" = some (.ref a.f_law_choices)
 k__law_choices : PySem.W.keepIn K (.ref a.f_law_choices) = true
 F_law_flat : Fun K "_law_flat" "_law_flat" s_law_flat a.f_law_flat a.d_law_flat
 g__law_flat : mg "_law_flat" = some (.ref a.f_law_flat)
 k__law_flat : PySem.W.keepIn K (.ref a.f_law_flat) = true
 F_law_drawnN : Fun K "_law_drawn" "_law_drawn" s_law_drawnN a.f_law_drawnN a.d_law_drawnN
 g__law_drawn : mg "_law_drawn" = some (.ref a.f_law_drawnN)
 k__law_drawn : PySem.W.keepIn K (.ref a.f_law_drawnN) = true
 F_law_product : Fun K "_law_product" "_law_product" s_law_product a.f_law_product a.d_law_product
 g__law_product : mg "_law_product" = some (.ref a.f_law_product)
 k__law_product : PySem.W.keepIn K (.ref a.f_law_product) = true
 F_law_sizes : Fun K "_law_sizes" "_law_sizes" s_law_sizes a.f_law_sizes a.d_law_sizes
 g__law_sizes : mg "_law_sizes" = some (.ref a.f_law_sizes)
 k__law_sizes : PySem.W.keepIn K (.ref a.f_law_sizes) = true
 F_law_spots_at : Fun K "_law_spots_at" "_law_spots_at" s_law_spots_at a.f_law_spots_at a.d_law_spots_at
 g__law_spots_at : mg "_law_spots_at" = some (.ref a.f_law_spots_at)
 k__law_spots_at : PySem.W.keepIn K (.ref a.f_law_spots_at) = true
 F_law_some_planN : Fun K "_law_some_plan" "_law_some_plan" s_law_some_planN a.f_law_some_planN a.d_law_some_planN
 g__law_some_plan : mg "_law_some_plan" = some (.ref a.f_law_some_planN)
 k__law_some_plan : PySem.W.keepIn K (.ref a.f_law_some_planN) = true
 F_law_fault : Fun K "_law_fault" "_law_fault" s_law_fault a.f_law_fault a.d_law_fault
 g__law_fault : mg "_law_fault" = some (.ref a.f_law_fault)
 k__law_fault : PySem.W.keepIn K (.ref a.f_law_fault) = true
 F_Line_trips : Fun K "trips" "Line.trips" s_Line_trips a.f_Line_trips a.d_Line_trips
 F_check_line : Fun K "check_line" "check_line" s_check_line a.f_check_line a.d_check_line
 g_check_line : mg "check_line" = some (.ref a.f_check_line)
 k_check_line : PySem.W.keepIn K (.ref a.f_check_line) = true
 F_Line_capacity : Fun K "capacity" "Line.capacity" s_Line_capacity a.f_Line_capacity a.d_Line_capacity
 F_is_pair : Fun K "is_pair" "is_pair" s_is_pair a.f_is_pair a.d_is_pair
 g_is_pair : mg "is_pair" = some (.ref a.f_is_pair)
 k_is_pair : PySem.W.keepIn K (.ref a.f_is_pair) = true
 F_is_seat : Fun K "is_seat" "is_seat" s_is_seat a.f_is_seat a.d_is_seat
 g_is_seat : mg "is_seat" = some (.ref a.f_is_seat)
 k_is_seat : PySem.W.keepIn K (.ref a.f_is_seat) = true
 F_trip_named : Fun K "trip_named" "trip_named" s_trip_named a.f_trip_named a.d_trip_named
 g_trip_named : mg "trip_named" = some (.ref a.f_trip_named)
 k_trip_named : PySem.W.keepIn K (.ref a.f_trip_named) = true
 F_names_trip_and_seat : Fun K "names_trip_and_seat" "names_trip_and_seat" s_names_trip_and_seat a.f_names_trip_and_seat a.d_names_trip_and_seat
 g_names_trip_and_seat : mg "names_trip_and_seat" = some (.ref a.f_names_trip_and_seat)
 k_names_trip_and_seat : PySem.W.keepIn K (.ref a.f_names_trip_and_seat) = true
 F_meet : Fun K "meet" "meet" s_meet a.f_meet a.d_meet
 g_meet : mg "meet" = some (.ref a.f_meet)
 k_meet : PySem.W.keepIn K (.ref a.f_meet) = true
 F_seats_left : Fun K "seats_left" "seats_left" s_seats_left a.f_seats_left a.d_seats_left
 g_seats_left : mg "seats_left" = some (.ref a.f_seats_left)
 k_seats_left : PySem.W.keepIn K (.ref a.f_seats_left) = true
 F_valid_pairs : Fun K "valid_pairs" "valid_pairs" s_valid_pairs a.f_valid_pairs a.d_valid_pairs
 g_valid_pairs : mg "valid_pairs" = some (.ref a.f_valid_pairs)
 k_valid_pairs : PySem.W.keepIn K (.ref a.f_valid_pairs) = true
 F_is_plan : Fun K "is_plan" "is_plan" s_is_plan a.f_is_plan a.d_is_plan
 g_is_plan : mg "is_plan" = some (.ref a.f_is_plan)
 k_is_plan : PySem.W.keepIn K (.ref a.f_is_plan) = true
 F_law_told : Fun K "_law_told" "_law_told" s_law_told a.f_law_told a.d_law_told
 g__law_told : mg "_law_told" = some (.ref a.f_law_told)
 k__law_told : PySem.W.keepIn K (.ref a.f_law_told) = true
 F_law_right11 : Fun K "_law_right" "_law_right" s_law_right11 a.f_law_right11 a.d_law_right11
 g__law_right : mg "_law_right" = some (.ref a.f_law_right11)
 k__law_right : PySem.W.keepIn K (.ref a.f_law_right11) = true
 F_law : Fun K "law" "law" s_law a.f_law a.d_law
 g_law : mg "law" = some (.ref a.f_law)
 k_law : PySem.W.keepIn K (.ref a.f_law) = true
 v_LETTERS : ∃ u, mg "LETTERS" = some u ∧ RelV (.str ("abcdefghijklmnopqrstuvwxyz" : Str)) u
 v_LONGEST_NAME : ∃ u, mg "LONGEST_NAME" = some u ∧ RelV (.int 8) u
 v_MAX_SEATS : ∃ u, mg "MAX_SEATS" = some u ∧ RelV (.int 20) u
 v_MAX_TRIPS : ∃ u, mg "MAX_TRIPS" = some u ∧ RelV (.int 24) u
 b_abs : mg "abs" = none
 b_all : mg "all" = none
 b_bool : mg "bool" = none
 b_dict : mg "dict" = none
 b_divmod : mg "divmod" = none
 b_enumerate : mg "enumerate" = none
 b_int : mg "int" = none
 b_isinstance : mg "isinstance" = none
 b_len : mg "len" = none
 b_list : mg "list" = none
 b_max : mg "max" = none
 b_min : mg "min" = none
 b_range : mg "range" = none
 b_repr : mg "repr" = none
 b_sorted : mg "sorted" = none
 b_str : mg "str" = none
 b_tuple : mg "tuple" = none
 b_zip : mg "zip" = none
section
variable {P : Program} {w : World} {K : PySem.W.Frag} {mg : Str → Option Value} {base : Heap} {a : Ad}
abbrev TT (a : Ad) : List (Addr × Str) := [(a.tL, ("Line.__init__.<locals>.<lambda>" : Str))]
theorem bd_is_integer (t : Tx K mg a) : Binds K a.d_is_integer [("thing" : Str)] [] := t.F_is_integer.binds fun _ _ _ _ _ _ us hl => match us, hl with | [_], _ => rfl
theorem ok_is_integer (t : Tx K mg a) (tb : LamX.TabB base mg a.cL a.tL) : FnOk P w K mg base CX0 1 a.f_is_integer a.d_is_integer [("thing" : Str)] (upSp K (TT a) (sp_is_integer K a.CLine)) :=
 okP t.F_is_integer sc_is_integer (fun _ _ h => len_is_integer h) (by decide) fun cdv A outer s H E hr => ⟨ts_is_integer K a.CLine, zs_one (z_ret (z_and (z_callB zc_isi (by rfl) t.b_isinstance (by decide +kernel) (za_cons (zv 0) (za_cons (z_ty (by rfl) t.b_int (by decide +kernel)) (za_nil)))) (z_one (z_not (z_callB zc_isi (by rfl) t.b_isinstance (by decide +kernel) (za_cons (zv 0) (za_cons (z_ty (by rfl) t.b_bool (by decide +kernel)) (za_nil)))))))), fun _ _ h => rd_is_integer h⟩
theorem bd_check_seats (t : Tx K mg a) : Binds K a.d_check_seats [("seats" : Str)] [] := t.F_check_seats.binds fun _ _ _ _ _ _ us hl => match us, hl with | [_], _ => rfl
theorem ok_check_seats (t : Tx K mg a) (tb : LamX.TabB base mg a.cL a.tL) : FnOk P w K mg base CX0 2 a.f_check_seats a.d_check_seats [("seats" : Str)] (upSp K (TT a) (sp_check_seats K a.CLine)) :=
 okP t.F_check_seats sc_check_seats (fun _ _ h => len_check_seats h) (by decide) fun cdv A outer s H E hr => ⟨ts_check_seats K a.CLine, zs_one (z_if ((zw_or (zt_not (zt_val (z_call (ok_is_integer t tb) (hr.mono (by decide)) (by rfl) t.g_is_integer t.k_is_integer (bd_is_integer t) .nil (fun _ _ => .nil) (za_cons (zv 0) (za_nil))))) (zw_or1 (zt_not (zt_chain zo_le zo_le (z_int) (zv 0) (z_gi (by rfl) t.v_MAX_SEATS))))).pt) (zs_one (z_never)) (zs_nil)), fun _ _ h => rd_check_seats h⟩
theorem bd_is_later (t : Tx K mg a) : Binds K a.d_is_later [("thing" : Str), ("start" : Str)] [] := t.F_is_later.binds fun _ _ _ _ _ _ us hl => match us, hl with | [_, _], _ => rfl
theorem ok_is_later (t : Tx K mg a) (tb : LamX.TabB base mg a.cL a.tL) : FnOk P w K mg base CX0 2 a.f_is_later a.d_is_later [("thing" : Str), ("start" : Str)] (upSp K (TT a) (sp_is_later K a.CLine)) :=
 okP t.F_is_later sc_is_later (fun _ _ h => len_is_later h) (by decide) fun cdv A outer s H E hr => ⟨ts_is_later K a.CLine, zs_one (z_ret (z_and (z_call (ok_is_integer t tb) (hr.mono (by decide)) (by rfl) t.g_is_integer t.k_is_integer (bd_is_integer t) .nil (fun _ _ => .nil) (za_cons (zv 0) (za_nil))) (z_one (z_cmp zo_gt (zv 0) (zv 1))))), fun _ _ h => rd_is_later h⟩
theorem bd_is_station (t : Tx K mg a) : Binds K a.d_is_station [("thing" : Str)] [] := t.F_is_station.binds fun _ _ _ _ _ _ us hl => match us, hl with | [_], _ => rfl
theorem ok_is_station (t : Tx K mg a) (tb : LamX.TabB base mg a.cL a.tL) : FnOk P w K mg base CX0 2 a.f_is_station a.d_is_station [("thing" : Str)] (upSp K (TT a) (sp_is_station K a.CLine)) :=
 okP t.F_is_station sc_is_station (fun _ _ h => len_is_station h) (by decide) fun cdv A outer s H E hr => ⟨ts_is_station K a.CLine, zs_one (z_ret (z_and (z_call (ok_is_integer t tb) (hr.mono (by decide)) (by rfl) t.g_is_integer t.k_is_integer (bd_is_integer t) .nil (fun _ _ => .nil) (za_cons (zv 0) (za_nil))) (z_one (z_cmp zo_ge (zv 0) (z_int))))), fun _ _ h => rd_is_station h⟩
theorem bd_is_trip_name (t : Tx K mg a) : Binds K a.d_is_trip_name [("thing" : Str)] [] := t.F_is_trip_name.binds fun _ _ _ _ _ _ us hl => match us, hl with | [_], _ => rfl
theorem ok_is_trip_name (t : Tx K mg a) (tb : LamX.TabB base mg a.cL a.tL) : FnOk P w K mg base CX0 1 a.f_is_trip_name a.d_is_trip_name [("thing" : Str)] (upSp K (TT a) (sp_is_trip_name K a.CLine)) :=
 okP t.F_is_trip_name sc_is_trip_name (fun _ _ h => len_is_trip_name h) (by decide) fun cdv A outer s H E hr => ⟨ts_is_trip_name K a.CLine, zs_cons (z_if ((zw_or (zt_not (zt_val (z_callB zc_isi (by rfl) t.b_isinstance (by decide +kernel) (za_cons (zv 0) (za_cons (z_ty (by rfl) t.b_str (by decide +kernel)) (za_nil)))))) (zw_or1 (zt_not (zt_chain zo_le zo_le (z_int) (z_callB zc_len (by rfl) t.b_len (by decide +kernel) (za_cons (zv 0) (za_nil))) (z_gi (by rfl) t.v_LONGEST_NAME))))).pt) (zs_one (z_ret (z_bl))) (zs_nil)) (zs_one (z_ret (z_callB (zc_all rfl) (by rfl) t.b_all (by decide +kernel) (za_cons (z_val (zf_lc (own := [(("letter" : Str), 1)]) (pe_lc (own := [(("letter" : Str), 1)]) rfl sc_is_trip_name.nd (zi_str (zv 0)) (blkOk_by (own := [(("letter" : Str), 1)]) (N := N_is_trip_name) (sc := defScope s_is_trip_name) (by decide +kernel)) (fun _ _ _ _ _ => zgw_name (by decide) (pg_name (i := 1) sc_is_trip_name.nd rfl (Or.inl rfl))) (fun _ _ _ _ _ => zts_nil) (fun _ _ _ _ _ => z_cmp zo_in (zv 1) (z_gs (by rfl) t.v_LETTERS))))) (za_nil))))), fun _ _ h => rd_is_trip_name h⟩
theorem bd_is_trip (t : Tx K mg a) : Binds K a.d_is_trip [("thing" : Str)] [] := t.F_is_trip.binds fun _ _ _ _ _ _ us hl => match us, hl with | [_], _ => rfl
theorem ok_is_trip (t : Tx K mg a) (tb : LamX.TabB base mg a.cL a.tL) : FnOk P w K mg base CX0 3 a.f_is_trip a.d_is_trip [("thing" : Str)] (upSp K (TT a) (sp_is_trip K a.CLine)) :=
 okP t.F_is_trip sc_is_trip (fun _ _ h => len_is_trip h) (by decide) fun cdv A outer s H E hr => ⟨ts_is_trip K a.CLine, zs_cons (z_if ((zw_or (zt_not (zt_val (z_callB zc_isi (by rfl) t.b_isinstance (by decide +kernel) (za_cons (zv 0) (za_cons (z_ty (by rfl) t.b_tuple (by decide +kernel)) (za_nil)))))) (zw_or1 (zt_cmp (zo_ne hr.units) (z_callB zc_len (by rfl) t.b_len (by decide +kernel) (za_cons (zv 0) (za_nil))) (z_int)))).pt) (zs_one (z_ret (z_bl))) (zs_nil)) (zs_cons (z_asg (zv 0) (zg_tup (pg_tup rfl (zgs_cons1 (zg_name (i := 1) sc_is_trip.nd rfl (Or.inl rfl)) (zgs_cons1 (zg_name (i := 2) sc_is_trip.nd rfl (Or.inl rfl)) (zgs_cons1 (zg_name (i := 3) sc_is_trip.nd rfl (Or.inl rfl)) (zgs_nil))))))) (zs_one (z_ret (z_and (z_call (ok_is_trip_name t tb) (hr.mono (by decide)) (by rfl) t.g_is_trip_name t.k_is_trip_name (bd_is_trip_name t) .nil (fun _ _ => .nil) (za_cons (zv 1) (za_nil))) (z_and (z_call (ok_is_station t tb) (hr.mono (by decide)) (by rfl) t.g_is_station t.k_is_station (bd_is_station t) .nil (fun _ _ => .nil) (za_cons (zv 2) (za_nil))) (z_one (z_call (ok_is_later t tb) (hr.mono (by decide)) (by rfl) t.g_is_later t.k_is_later (bd_is_later t) .nil (fun _ _ => .nil) (za_cons (zv 3) (za_cons (zv 2) (za_nil)))))))))), fun _ _ h => rd_is_trip h⟩
theorem bd_valid_beginning (t : Tx K mg a) : Binds K a.d_valid_beginning [("trips" : Str)] [] := t.F_valid_beginning.binds fun _ _ _ _ _ _ us hl => match us, hl with | [_], _ => rfl
theorem ok_valid_beginning (t : Tx K mg a) (tb : LamX.TabB base mg a.cL a.tL) : FnOk P w K mg base CX0 4 a.f_valid_beginning a.d_valid_beginning [("trips" : Str)] (upSp K (TT a) (sp_valid_beginning K a.CLine)) :=
 okP t.F_valid_beginning sc_valid_beginning (fun _ _ h => len_valid_beginning h) (by decide) fun cdv A outer s H E hr => ⟨ts_valid_beginning K a.CLine, zs_cons (z_set (i := 1) sc_valid_beginning.nd rfl (Or.inl rfl) (z_str)) (zs_cons (z_for PassesOwn.never rfl (zi_enum1 (by rfl) t.b_enumerate (zv 0)) (zg_tup (pg_tup rfl (zgs_cons1 (zg_name (i := 2) sc_valid_beginning.nd rfl (Or.inl rfl)) (zgs_cons1 (zg_name (i := 3) sc_valid_beginning.nd rfl (Or.inl rfl)) (zgs_nil))))) (zs_cons (z_if ((zw_or (zt_cmp (zo_eq hr.units) (zv 2) (z_gi (by rfl) t.v_MAX_TRIPS)) (zw_or (zt_not (zt_val (z_call (ok_is_trip t tb) (hr.mono (by decide)) (by rfl) t.g_is_trip t.k_is_trip (bd_is_trip t) .nil (fun _ _ => .nil) (za_cons (zv 3) (za_nil))))) (zw_or1 (zt_cmp zo_le (z_ix (zv 3) (z_int)) (zv 1))))).pt) (zs_one (z_ret (zv 2))) (zs_nil)) (zs_one (z_set (i := 1) sc_valid_beginning.nd rfl (Or.inl rfl) (z_ix (zv 3) (z_int)))))) (zs_one (z_ret (z_callB zc_len (by rfl) t.b_len (by decide +kernel) (za_cons (zv 0) (za_nil)))))), fun _ _ h => rd_valid_beginning h⟩
theorem bd_Line_init (t : Tx K mg a) : Binds K a.d_Line_init [("self" : Str), ("seats" : Str), ("trips" : Str)] [] := t.F_Line_init.b0 (by simp) fun T kV doc pm an cdv ct us its h1 h2 => match us, its, h1, h2 with | [_, _, _], [_], _, _ => ⟨_, rfl, rfl⟩
theorem b1_Line_init (t : Tx K mg a) : ∃ ds, Vals [.ref a.eL] ds ∧ Binds K a.d_Line_init [("self" : Str), ("seats" : Str), ("trips" : Str)] ds := t.F_Line_init.d.binds1 2 0 (by simp) rfl fun T kV doc pm an cdv ct us its h1 h2 => match us, its, h1, h2 with | [_, _], [_], _, _ => ⟨_, rfl, rfl⟩
theorem ok_Line_init (t : Tx K mg a) (tb : LamX.TabB base mg a.cL a.tL) : FnOk P w K mg base CX0 5 a.f_Line_init a.d_Line_init [("self" : Str), ("seats" : Str), ("trips" : Str)] (upSpR K (TT a) (sp_Line_init K a.CLine)) :=
 okRX (nm := ("self" : Str)) (N := [("seats" : Str), ("trips" : Str), ("valid" : Str)]) (ps := [("seats" : Str), ("trips" : Str)]) t.F_Line_init sc_Line_init (fun _ _ _ h => len_Line_init h) (by decide) fun A outer s H E hr => ⟨ts_Line_init K a.CLine, zs_cons (z_expr (z_call (ok_check_seats t tb) (hr.mono (by decide)) (by rfl) t.g_check_seats t.k_check_seats (bd_check_seats t) .nil (fun _ _ => .nil) (za_cons (zv 1) (za_nil)))) (zs_cons (z_if (zt_not (zt_val (z_callB zc_isi (by rfl) t.b_isinstance (by decide +kernel) (za_cons (zv 2) (za_cons (z_ty (by rfl) t.b_tuple (by decide +kernel)) (za_nil)))))) (zs_one (z_never)) (zs_nil)) (zs_cons (z_set (i := 3) sc_Line_init.nd rfl (Or.inl rfl) (z_call (ok_valid_beginning t tb) (hr.mono (by decide)) (by rfl) t.g_valid_beginning t.k_valid_beginning (bd_valid_beginning t) .nil (fun _ _ => .nil) (za_cons (zv 2) (za_nil)))) (zs_cons (z_if (zt_cmp zo_lt (zv 3) (z_callB zc_len (by rfl) t.b_len (by decide +kernel) (za_cons (zv 2) (za_nil)))) (zs_one (z_never)) (zs_nil)) (zs_cons (z_fldS t.cl t.n_seat_count (pv 0) (zv 1)) (zs_cons (z_fldS t.cl t.n_rows (pv 0) (zv 2)) (zs_one (z_fldS t.cl t.n_queue (pv 0) (z_callTy zc_tuple (by rfl) t.b_tuple (by decide +kernel) (za_cons (z_sortL (x := Str.empty) (i := 1) (j := 0) (nm := ("row" : Str)) (by rfl) t.b_sorted (zv 2) hr ⟨rfl, rfl, rfl, rfl, by decide +kernel⟩ rfl tb rfl (List.mem_singleton.mpr rfl) (fun p hp _ => by rw [List.mem_singleton.mp hp]; rfl) (by decide +kernel) rfl (fun _ _ _ _ _ => rfl) ⟨by decide, by decide⟩ ⟨by decide, by decide⟩ (by decide)) (za_nil)))))))))), fun _ _ _ h => rd_Line_init h⟩
theorem bd_law_cell (t : Tx K mg a) : Binds K a.d_law_cell [("_law_script" : Str), ("_law_k" : Str)] [] := t.F_law_cell.binds fun _ _ _ _ _ _ us hl => match us, hl with | [_, _], _ => rfl
theorem ok_law_cell (t : Tx K mg a) (tb : LamX.TabB base mg a.cL a.tL) : FnOk P w K mg base CX0 1 a.f_law_cell a.d_law_cell [("_law_script" : Str), ("_law_k" : Str)] (upSp K (TT a) (sp_law_cell K a.CLine)) :=
 okP t.F_law_cell sc_law_cell (fun _ _ h => len_law_cell h) (by decide) fun cdv A outer s H E hr => ⟨ts_law_cell K a.CLine, zs_cons (z_if (zt_cmp zo_lt (zv 1) (z_callB zc_len (by rfl) t.b_len (by decide +kernel) (za_cons (zv 0) (za_nil)))) (zs_one (z_ret (z_ix (zv 0) (zv 1)))) (zs_nil)) (zs_cons (z_set (i := 2) sc_law_cell.nd rfl (Or.inl rfl) (z_op zo_mod (z_op zo_mulA (z_int) (z_op zo_add (z_op zo_add (z_op zo_mulA (zv 1) (zv 1)) (z_op zo_mulA (z_int) (zv 1))) (z_int))) (z_int))) (zs_cons (z_for PassesOwn.never rfl (zi_list (z_slice (zv 0) (zp_none) (zp_some (z_int)))) (zg_name (i := 3) sc_law_cell.nd rfl (Or.inl rfl)) (zs_one (z_set (i := 2) sc_law_cell.nd rfl (Or.inl rfl) (z_op zo_mod (z_op zo_add (z_op zo_mulA (zv 2) (z_int)) (zv 3)) (z_int))))) (zs_one (z_ret (zv 2))))), fun _ _ h => rd_law_cell h⟩
theorem bd_law_pool (t : Tx K mg a) : Binds K a.d_law_pool [("_law_cell_here" : Str)] [] := t.F_law_pool.binds fun _ _ _ _ _ _ us hl => match us, hl with | [_], _ => rfl
theorem ok_law_pool (t : Tx K mg a) (tb : LamX.TabB base mg a.cL a.tL) : FnOk P w K mg base CX0 1 a.f_law_pool a.d_law_pool [("_law_cell_here" : Str)] (upSpF K (TT a) (sp_law_pool K a.CLine)) :=
 okF t.F_law_pool sc_law_pool (fun _ _ h => len_law_pool h) (by decide) fun cdv A outer s H E hr => ⟨ts_law_pool K a.CLine, zsf_cons (z_set (i := 1) sc_law_pool.nd rfl (Or.inl rfl) (z_int)) (zsf_cons (z_if ((zw_or (zt_cmp zo_lt (zv 0) (z_int)) (zw_or1 (zt_cmp zo_ge (zv 0) (z_op zo_pow (z_int) (z_int))))).pt) (zs_one (z_set (i := 1) sc_law_pool.nd rfl (Or.inl rfl) (z_callB zc_abs (by rfl) t.b_abs (by decide +kernel) (za_cons (zv 0) (za_nil))))) (zs_nil)) (zsf_ret (zf_lst (za_cons (z_op zo_mod (zv 0) (z_int)) (za_cons (zv 1) (za_cons (z_int) (za_nil))))))), fun _ _ h => rd_law_pool h⟩
theorem bd_law_draw (t : Tx K mg a) : Binds K a.d_law_draw [("_law_pool_here" : Str), ("_law_many" : Str)] [] := t.F_law_draw.binds fun _ _ _ _ _ _ us hl => match us, hl with | [_, _], _ => rfl
theorem ok_law_draw (t : Tx K mg a) (tb : LamX.TabB base mg a.cL a.tL) : FnOk P w K mg base CX0 1 a.f_law_draw a.d_law_draw [("_law_pool_here" : Str), ("_law_many" : Str)] (upSpR K (TT a) (sp_law_draw K a.CLine)) :=
 okR (nm := ("_law_pool_here" : Str)) (N := [("_law_many" : Str), ("_law_state" : Str), ("_law_digit" : Str)]) (ps := [("_law_many" : Str)]) t.F_law_draw sc_law_draw (fun _ _ _ h => len_law_draw h) (by decide) fun cdv A outer s H E hr => ⟨ts_law_draw K a.CLine, zs_cons (z_asg (z_op zo_add (z_ixO (pv 0) (z_int)) (z_int)) (zg_sub (pv 0) (z_int) (pg_sub (pv 0) (z_int) set_list))) (zs_cons (z_set (i := 2) sc_law_draw.nd rfl (Or.inl rfl) (z_ixO (pv 0) (z_int))) (zs_cons (z_asg (z_op zo_mod (z_op zo_add (z_op zo_add (z_op zo_mulA (zv 2) (z_op zo_add (z_op zo_mod (zv 2) (z_int)) (z_int))) (z_op zo_mulA (z_int) (z_ixO (pv 0) (z_int)))) (z_int)) (z_int)) (zg_sub (pv 0) (z_int) (pg_sub (pv 0) (z_int) set_list))) (zs_cons (z_if (zt_cmp zo_gt (z_ixO (pv 0) (z_int)) (z_int)) (zs_cons (z_asg (z_callB zc_divmodW (by rfl) t.b_divmod (by decide +kernel) (za_cons (z_ixO (pv 0) (z_int)) (za_cons (zv 1) (za_nil)))) (zg_tup (pg_tup rfl (zgs_cons1 (zg_sub (pv 0) (z_int) (pg_sub (pv 0) (z_int) set_list)) (zgs_cons1 (zg_name (i := 3) sc_law_draw.nd rfl (Or.inl rfl)) (zgs_nil)))))) (zs_one (z_ret (zv 3)))) (zs_nil)) (zs_one (z_ret (z_op zo_mod (z_op zo_div (z_ixO (pv 0) (z_int)) (z_int)) (zv 1))))))), fun _ _ _ h => rd_law_draw h⟩
theorem bd_law_loadS (t : Tx K mg a) : Binds K a.d_law_loadS [("_law_rides_here" : Str), ("_law_place" : Str)] [] := t.F_law_loadS.binds fun _ _ _ _ _ _ us hl => match us, hl with | [_, _], _ => rfl
theorem ok_law_loadS (t : Tx K mg a) (tb : LamX.TabB base mg a.cL a.tL) : FnOk P w K mg base CX0 1 a.f_law_loadS a.d_law_loadS [("_law_rides_here" : Str), ("_law_place" : Str)] (upSp K (TT a) (sp_law_loadS K a.CLine)) :=
 okP t.F_law_loadS sc_law_loadS (fun _ _ h => len_law_loadS h) (by decide) fun cdv A outer s H E hr => ⟨ts_law_loadS K a.CLine, zs_one (z_ret (z_callB zc_len (by rfl) t.b_len (by decide +kernel) (za_cons (z_val (zf_lc (own := [(("_law_ride" : Str), 2)]) (pe_lc (own := [(("_law_ride" : Str), 2)]) rfl sc_law_loadS.nd (zi_seq (zi_list (zv 0)) (zi_tup (zv 0))) (blkOk_by (own := [(("_law_ride" : Str), 2)]) (N := N_law_loadS) (sc := defScope s_law_loadS) (by decide +kernel)) (fun _ _ _ _ _ => zgw_name (by decide) (pg_name (i := 2) sc_law_loadS.nd rfl (Or.inl rfl))) (fun _ _ _ _ _ => zts_one (zt_chain zo_le zo_lt (z_ix (zv 2) (z_int)) (zv 1) (z_ix (zv 2) (z_int)))) (fun _ _ _ _ _ => zv 2)))) (za_nil)))), fun _ _ h => rd_law_loadS h⟩
theorem bd_law_peakS (t : Tx K mg a) : Binds K a.d_law_peakS [("_law_rides_here" : Str)] [] := t.F_law_peakS.binds fun _ _ _ _ _ _ us hl => match us, hl with | [_], _ => rfl
theorem ok_law_peakS (t : Tx K mg a) (tb : LamX.TabB base mg a.cL a.tL) : FnOk P w K mg base CX0 2 a.f_law_peakS a.d_law_peakS [("_law_rides_here" : Str)] (upSp K (TT a) (sp_law_peakS K a.CLine)) :=
 okP t.F_law_peakS sc_law_peakS (fun _ _ h => len_law_peakS h) (by decide) fun cdv A outer s H E hr => ⟨ts_law_peakS K a.CLine, zs_one (z_ret (z_callB (zc_maxL rfl) (by rfl) t.b_max (by decide +kernel) (za_cons (z_op zo_add (z_val (zf_lc (own := [(("_law_ride" : Str), 1)]) (pe_lc (own := [(("_law_ride" : Str), 1)]) rfl sc_law_peakS.nd (zi_seq (zi_list (zv 0)) (zi_tup (zv 0))) (blkOk_by (own := [(("_law_ride" : Str), 1)]) (N := N_law_peakS) (sc := defScope s_law_peakS) (by decide +kernel)) (fun _ _ _ _ _ => zgw_name (by decide) (pg_name (i := 1) sc_law_peakS.nd rfl (Or.inl rfl))) (fun _ _ _ _ _ => zts_nil) (fun _ _ _ _ _ => z_call (ok_law_loadS t tb) (hr.mono (by decide)) (by rfl) t.g__law_load t.k__law_load (bd_law_loadS t) .nil (fun _ _ => .nil) (za_cons (zv 0) (za_cons (z_ix (zv 1) (z_int)) (za_nil))))))) (z_lst (za_cons (z_int) (za_nil)))) (za_nil)))), fun _ _ h => rd_law_peakS h⟩
theorem bd_law_far (t : Tx K mg a) : Binds K a.d_law_far [("_law_pool_here" : Str), ("_law_high" : Str)] [] := t.F_law_far.binds fun _ _ _ _ _ _ us hl => match us, hl with | [_, _], _ => rfl
theorem ok_law_far (t : Tx K mg a) (tb : LamX.TabB base mg a.cL a.tL) : FnOk P w K mg base CX0 2 a.f_law_far a.d_law_far [("_law_pool_here" : Str), ("_law_high" : Str)] (upSpR K (TT a) (sp_law_far K a.CLine)) :=
 okR (nm := ("_law_pool_here" : Str)) (N := [("_law_high" : Str), ("_law_found" : Str), ("_law_here" : Str), ("_law_way" : Str), ("_law_k" : Str)]) (ps := [("_law_high" : Str)]) t.F_law_far sc_law_far (fun _ _ _ h => len_law_far h) (by decide) fun cdv A outer s H E hr => ⟨ts_law_far K a.CLine, zs_cons (z_par3 (i := 2) (j := 3) (l := 4) rfl (ps_par3 (i := 2) (j := 3) (l := 4) rfl sc_law_far.nd rfl rfl rfl (by decide) (by decide) (by decide) rfl rfl rfl (zr_f (zf_lst (za_nil)) (zr_v (z_callR (ok_law_draw t tb) (hr.mono (by decide)) (by rfl) t.g__law_draw t.k__law_draw (bd_law_draw t) (pa_cons (pv 0) (za_cons (z_int) (za_nil)))) (zr_v (z_callR (ok_law_draw t tb) (hr.mono (by decide)) (by rfl) t.g__law_draw t.k__law_draw (bd_law_draw t) (pa_cons (pv 0) (za_cons (z_int) (za_nil)))) (zr_nil)))) (by rfl))) (zs_cons (z_for PassesOwn.never rfl (zi_range1 (by rfl) t.b_range (z_op zo_add (zv 1) (z_int))) (zg_name (i := 5) sc_law_far.nd rfl (Or.inl rfl)) (zs_cons (z_app rfl (ps_expr (pe_bm PySem.F.plainAttrs_list PySem.F.slot_list_append PySem.F.type_list_append mt_append (pv 2) (pa_cons (z_ifExp (zt_cmp zo_gt (zv 4) (z_int)) (zv 5) (zv 3)) pa_nil)))) (zs_one (z_set (i := 3) sc_law_far.nd rfl (Or.inl rfl) (z_op zo_add (z_op zo_add (zv 3) (z_int)) (z_ix (z_lst (za_cons (z_int) (za_cons (z_callR (ok_law_draw t tb) (hr.mono (by decide)) (by rfl) t.g__law_draw t.k__law_draw (bd_law_draw t) (pa_cons (pv 0) (za_cons (z_int) (za_nil)))) (za_cons (z_op zo_pow (z_int) (z_int)) (za_nil))))) (z_callR (ok_law_draw t tb) (hr.mono (by decide)) (by rfl) t.g__law_draw t.k__law_draw (bd_law_draw t) (pa_cons (pv 0) (za_cons (z_int) (za_nil)))))))))) (zs_one (z_ret (zv 2)))), fun _ _ _ h => rd_law_far h⟩
theorem bd_law_rides (t : Tx K mg a) : Binds K a.d_law_rides [("_law_pool_here" : Str), ("_law_words_here" : Str), ("_law_high" : Str)] [] := t.F_law_rides.binds fun _ _ _ _ _ _ us hl => match us, hl with | [_, _, _], _ => rfl
theorem ok_law_rides (t : Tx K mg a) (tb : LamX.TabB base mg a.cL a.tL) : FnOk P w K mg base CX0 3 a.f_law_rides a.d_law_rides [("_law_pool_here" : Str), ("_law_words_here" : Str), ("_law_high" : Str)] (upSpR K (TT a) (sp_law_rides K a.CLine)) :=
 okR (nm := ("_law_pool_here" : Str)) (N := [("_law_words_here" : Str), ("_law_high" : Str), ("_law_places" : Str), ("_law_found" : Str), ("_law_last" : Str), ("_law_word" : Str), ("_law_way" : Str), ("_law_begin" : Str)]) (ps := [("_law_words_here" : Str), ("_law_high" : Str)]) t.F_law_rides sc_law_rides (fun _ _ _ h => len_law_rides h) (by decide) fun cdv A outer s H E hr => ⟨ts_law_rides K a.CLine, zs_cons (z_par3 (i := 3) (j := 4) (l := 5) rfl (ps_par3 (i := 3) (j := 4) (l := 5) rfl sc_law_rides.nd rfl rfl rfl (by decide) (by decide) (by decide) rfl rfl rfl (zr_v (z_callR (ok_law_far t tb) (hr.mono (by decide)) (by rfl) t.g__law_far t.k__law_far (bd_law_far t) (pa_cons (pv 0) (za_cons (zv 2) (za_nil)))) (zr_f (zf_lst (za_nil)) (zr_v (z_int) (zr_nil)))) (by rfl))) (zs_cons (z_for PassesOwn.never rfl (zi_list (zv 1)) (zg_name (i := 6) sc_law_rides.nd rfl (Or.inl rfl)) (zs_cons (z_set (i := 7) sc_law_rides.nd rfl (Or.inl rfl) (z_callR (ok_law_draw t tb) (hr.mono (by decide)) (by rfl) t.g__law_draw t.k__law_draw (bd_law_draw t) (pa_cons (pv 0) (za_cons (z_int) (za_nil))))) (zs_cons (z_set (i := 8) sc_law_rides.nd rfl (Or.inl rfl) (z_ifExp ((zw_and (zt_cmp (zo_eq hr.units) (zv 7) (z_int)) (zw_and1 (zt_cmp zo_lt (zv 5) (zv 2)))).pt) (zv 5) (z_callR (ok_law_draw t tb) (hr.mono (by decide)) (by rfl) t.g__law_draw t.k__law_draw (bd_law_draw t) (pa_cons (pv 0) (za_cons (zv 2) (za_nil)))))) (zs_cons (z_set (i := 5) sc_law_rides.nd rfl (Or.inl rfl) (z_op zo_add (z_op zo_add (zv 8) (z_int)) (z_callR (ok_law_draw t tb) (hr.mono (by decide)) (by rfl) t.g__law_draw t.k__law_draw (bd_law_draw t) (pa_cons (pv 0) (za_cons (z_ifExp (zt_cmp zo_gt (z_op zo_sub (zv 2) (zv 8)) (z_int)) (z_ix (z_lst (za_cons (z_int) (za_cons (z_int) (za_cons (z_op zo_sub (zv 2) (zv 8)) (za_cons (z_op zo_sub (zv 2) (zv 8)) (za_nil)))))) (zv 7)) (z_int)) (za_nil)))))) (zs_cons (z_set (i := 5) sc_law_rides.nd rfl (Or.inl rfl) (z_callB (zc_min2 rfl) (by rfl) t.b_min (by decide +kernel) (za_cons (zv 5) (za_cons (zv 2) (za_nil))))) (zs_one (z_app rfl (ps_expr (pe_bm PySem.F.plainAttrs_list PySem.F.slot_list_append PySem.F.type_list_append mt_append (pv 4) (pa_cons (z_tup (za_cons (zv 6) (za_cons (z_ix (zv 3) (zv 8)) (za_cons (z_ix (zv 3) (zv 5)) (za_nil))))) pa_nil)))))))))) (zs_one (z_ret (z_callTy zc_tuple (by rfl) t.b_tuple (by decide +kernel) (za_cons (z_callB (zc_sorted hr.units) (by rfl) t.b_sorted (by decide +kernel) (za_cons (zv 4) (za_nil))) (za_nil)))))), fun _ _ _ h => rd_law_rides h⟩
theorem bd_law_words (t : Tx K mg a) : Binds K a.d_law_words [("_law_pool_here" : Str), ("_law_many" : Str)] [] := t.F_law_words.binds fun _ _ _ _ _ _ us hl => match us, hl with | [_, _], _ => rfl
theorem ok_law_words (t : Tx K mg a) (tb : LamX.TabB base mg a.cL a.tL) : FnOk P w K mg base CX0 2 a.f_law_words a.d_law_words [("_law_pool_here" : Str), ("_law_many" : Str)] (upSpR K (TT a) (sp_law_words K a.CLine)) :=
 okR (nm := ("_law_pool_here" : Str)) (N := [("_law_many" : Str), ("_law_letters" : Str), ("_law_menu" : Str), ("_law_way" : Str), ("_law_begin" : Str), ("_law_stem" : Str), ("_law_at" : Str), ("_law_k" : Str)]) (ps := [("_law_many" : Str)]) t.F_law_words sc_law_words (fun _ _ _ h => len_law_words h) (by decide) fun cdv A outer s H E hr => ⟨ts_law_words K a.CLine, zs_cons (z_set (i := 2) sc_law_words.nd rfl (Or.inr rfl) (z_str)) (zs_cons (z_set (i := 3) sc_law_words.nd rfl (Or.inr rfl) (z_lst (za_cons (z_str) (za_cons (z_str) (za_cons (z_str) (za_cons (z_str) (za_cons (z_str) (za_cons (z_str) (za_cons (z_str) (za_cons (z_str) (za_cons (z_str) (za_cons (z_str) (za_cons (z_str) (za_cons (z_str) (za_nil))))))))))))))) (zs_cons (z_set (i := 3) sc_law_words.nd rfl (Or.inr rfl) (z_op zo_add (zv 3) (z_lst (za_cons (z_str) (za_cons (z_str) (za_cons (z_str) (za_cons (z_str) (za_cons (z_str) (za_cons (z_str) (za_cons (z_str) (za_cons (z_str) (za_cons (z_str) (za_cons (z_str) (za_cons (z_str) (za_cons (z_str) (za_nil)))))))))))))))) (zs_cons (z_asg (z_tup (za_cons (z_callR (ok_law_draw t tb) (hr.mono (by decide)) (by rfl) t.g__law_draw t.k__law_draw (bd_law_draw t) (pa_cons (pv 0) (za_cons (z_int) (za_nil)))) (za_cons (z_callR (ok_law_draw t tb) (hr.mono (by decide)) (by rfl) t.g__law_draw t.k__law_draw (bd_law_draw t) (pa_cons (pv 0) (za_cons (z_int) (za_nil)))) (za_nil)))) (zg_tup (pg_tup rfl (zgs_cons1 (zg_name (i := 4) sc_law_words.nd rfl (Or.inl rfl)) (zgs_cons1 (zg_name (i := 5) sc_law_words.nd rfl (Or.inr rfl)) (zgs_nil)))))) (zs_cons (z_if (zt_cmp (zo_eq hr.units) (zv 4) (z_int)) (zs_one (z_ret (z_val (zf_lc (own := [(("_law_k" : Str), 8)]) (pe_lc (own := [(("_law_k" : Str), 8)]) rfl sc_law_words.nd (zi_range1 (by rfl) t.b_range (zv 1)) (blkOk_by (own := [(("_law_k" : Str), 8)]) (N := N_law_words) (sc := defScope s_law_words) (by decide +kernel)) (fun _ _ _ _ _ => zgw_name (by decide) (pg_name (i := 8) sc_law_words.nd rfl (Or.inl rfl))) (fun _ _ _ _ _ => zts_nil) (fun _ _ _ _ _ => z_ix (zv 3) (z_op zo_mod (z_op zo_add (zv 5) (z_op zo_mulA (z_int) (zv 8))) (z_int)))))))) (zs_nil)) (zs_cons (z_if (zt_cmp (zo_eq hr.units) (zv 4) (z_int)) (zs_one (z_ret (z_val (zf_lc (own := [(("_law_k" : Str), 8)]) (pe_lc (own := [(("_law_k" : Str), 8)]) rfl sc_law_words.nd (zi_range1 (by rfl) t.b_range (zv 1)) (blkOk_by (own := [(("_law_k" : Str), 8)]) (N := N_law_words) (sc := defScope s_law_words) (by decide +kernel)) (fun _ _ _ _ _ => zgw_name (by decide) (pg_name (i := 8) sc_law_words.nd rfl (Or.inl rfl))) (fun _ _ _ _ _ => zts_nil) (fun _ _ _ _ _ => z_op zo_mulA (z_ix (zv 2) (z_op zo_mod (z_op zo_add (zv 5) (z_op zo_mulA (z_int) (zv 8))) (z_int))) (z_op zo_add (z_int) (z_op zo_mod (zv 8) (z_int))))))))) (zs_nil)) (zs_cons (z_set (i := 6) sc_law_words.nd rfl (Or.inr rfl) (z_join rfl (pe_join (z_str) (z_val (zf_lc (own := [(("_law_k" : Str), 8)]) (pe_lc (own := [(("_law_k" : Str), 8)]) rfl sc_law_words.nd (zi_range1 (by rfl) t.b_range (z_callR (ok_law_draw t tb) (hr.mono (by decide)) (by rfl) t.g__law_draw t.k__law_draw (bd_law_draw t) (pa_cons (pv 0) (za_cons (z_int) (za_nil))))) (blkOk_by (own := [(("_law_k" : Str), 8)]) (N := N_law_words) (sc := defScope s_law_words) (by decide +kernel)) (fun _ _ _ _ _ => zgw_name (by decide) (pg_name (i := 8) sc_law_words.nd rfl (Or.inl rfl))) (fun _ _ _ _ _ => zts_nil) (fun _ _ _ _ _ => z_ix (zv 2) (z_callR (ok_law_draw t tb) (hr.mono (by decide)) (by rfl) t.g__law_draw t.k__law_draw (bd_law_draw t) (pa_cons (pv 0) (za_cons (z_int) (za_nil))))))))))) (zs_cons (z_set (i := 7) sc_law_words.nd rfl (Or.inr rfl) (z_callR (ok_law_draw t tb) (hr.mono (by decide)) (by rfl) t.g__law_draw t.k__law_draw (bd_law_draw t) (pa_cons (pv 0) (za_cons (z_op zo_add (z_callB zc_len (by rfl) t.b_len (by decide +kernel) (za_cons (zv 6) (za_nil))) (z_int)) (za_nil))))) (zs_one (z_ret (z_val (zf_lc (own := [(("_law_k" : Str), 8)]) (pe_lc (own := [(("_law_k" : Str), 8)]) rfl sc_law_words.nd (zi_range1 (by rfl) t.b_range (zv 1)) (blkOk_by (own := [(("_law_k" : Str), 8)]) (N := N_law_words) (sc := defScope s_law_words) (by decide +kernel)) (fun _ _ _ _ _ => zgw_name (by decide) (pg_name (i := 8) sc_law_words.nd rfl (Or.inl rfl))) (fun _ _ _ _ _ => zts_nil) (fun _ _ _ _ _ => z_op zo_add (z_op zo_add (z_slice (zv 6) (zp_none) (zp_some (zv 7))) (z_ix (zv 2) (z_op zo_mod (z_op zo_add (zv 5) (z_op zo_mulA (z_int) (zv 8))) (z_int)))) (z_slice (zv 6) (zp_some (zv 7)) (zp_none))))))))))))))), fun _ _ _ h => rd_law_words h⟩
theorem bd_law_long_case (t : Tx K mg a) : Binds K a.d_law_long_case [("_law_pool_here" : Str)] [] := t.F_law_long_case.binds fun _ _ _ _ _ _ us hl => match us, hl with | [_], _ => rfl
theorem ok_law_long_case (t : Tx K mg a) (tb : LamX.TabB base mg a.cL a.tL) : FnOk P w K mg base CX0 4 a.f_law_long_case a.d_law_long_case [("_law_pool_here" : Str)] (upSpR K (TT a) (sp_law_long_case K a.CLine)) :=
 okR (nm := ("_law_pool_here" : Str)) (N := [("_law_many" : Str), ("_law_high" : Str), ("_law_rides_here" : Str), ("_law_width" : Str)]) (ps := []) t.F_law_long_case sc_law_long_case (fun _ _ _ h => len_law_long_case h) (by decide) fun cdv A outer s H E hr => ⟨ts_law_long_case K a.CLine, zs_cons (z_par2 (i := 1) (j := 2) rfl (ps_par (i := 1) (j := 2) rfl sc_law_long_case.nd rfl rfl (by decide) rfl rfl (zr_v (z_callR (ok_law_draw t tb) (hr.mono (by decide)) (by rfl) t.g__law_draw t.k__law_draw (bd_law_draw t) (pa_cons (pv 0) (za_cons (z_int) (za_nil)))) (zr_v (z_op zo_add (z_int) (z_callR (ok_law_draw t tb) (hr.mono (by decide)) (by rfl) t.g__law_draw t.k__law_draw (bd_law_draw t) (pa_cons (pv 0) (za_cons (z_int) (za_nil))))) (zr_nil))) (by rfl))) (zs_cons (z_set (i := 3) sc_law_long_case.nd rfl (Or.inl rfl) (z_callR (ok_law_rides t tb) (hr.mono (by decide)) (by rfl) t.g__law_rides t.k__law_rides (bd_law_rides t) (pa_cons (pv 0) (za_cons (z_callR (ok_law_words t tb) (hr.mono (by decide)) (by rfl) t.g__law_words t.k__law_words (bd_law_words t) (pa_cons (pv 0) (za_cons (zv 1) (za_nil)))) (za_cons (zv 2) (za_nil)))))) (zs_cons (z_set (i := 4) sc_law_long_case.nd rfl (Or.inl rfl) (z_op zo_add (z_call (ok_law_peakS t tb) (hr.mono (by decide)) (by rfl) t.g__law_peak t.k__law_peak (bd_law_peakS t) .nil (fun _ _ => .nil) (za_cons (zv 3) (za_nil))) (z_ix (z_lst (za_cons (z_int) (za_cons (z_int) (za_cons (z_int) (za_cons (z_int) (za_nil)))))) (z_callR (ok_law_draw t tb) (hr.mono (by decide)) (by rfl) t.g__law_draw t.k__law_draw (bd_law_draw t) (pa_cons (pv 0) (za_cons (z_int) (za_nil))))))) (zs_cons (z_if (zt_cmp zo_eqI (z_callR (ok_law_draw t tb) (hr.mono (by decide)) (by rfl) t.g__law_draw t.k__law_draw (bd_law_draw t) (pa_cons (pv 0) (za_cons (z_int) (za_nil)))) (z_int)) (zs_one (z_set (i := 4) sc_law_long_case.nd rfl (Or.inl rfl) (z_op zo_add (z_int) (z_callR (ok_law_draw t tb) (hr.mono (by decide)) (by rfl) t.g__law_draw t.k__law_draw (bd_law_draw t) (pa_cons (pv 0) (za_cons (z_int) (za_nil))))))) (zs_nil)) (zs_one (z_ret (z_lst (za_cons (z_callB (zc_max2 rfl) (by rfl) t.b_max (by decide +kernel) (za_cons (z_int) (za_cons (z_callB (zc_min2 rfl) (by rfl) t.b_min (by decide +kernel) (za_cons (z_int) (za_cons (zv 4) (za_nil)))) (za_nil)))) (za_cons (zv 3) (za_nil))))))))), fun _ _ _ h => rd_law_long_case h⟩
theorem bd_law_no_plan (t : Tx K mg a) : Binds K a.d_law_no_plan [("_law_pool_here" : Str), ("_law_width" : Str), ("_law_rides_here" : Str), ("_law_spots" : Str)] [] := t.F_law_no_plan.binds fun _ _ _ _ _ _ us hl => match us, hl with | [_, _, _, _], _ => rfl
theorem ok_law_no_plan (t : Tx K mg a) (tb : LamX.TabB base mg a.cL a.tL) : FnOk P w K mg base CX0 2 a.f_law_no_plan a.d_law_no_plan [("_law_pool_here" : Str), ("_law_width" : Str), ("_law_rides_here" : Str), ("_law_spots" : Str)] (upSpR K (TT a) (sp_law_no_plan K a.CLine)) :=
 okR (nm := ("_law_pool_here" : Str)) (N := [("_law_width" : Str), ("_law_rides_here" : Str), ("_law_spots" : Str), ("_law_words_here" : Str), ("_law_word" : Str), ("_law_at" : Str), ("_law_later" : Str), ("_law_odd" : Str), ("_law_once" : Str), ("_law_twice" : Str), ("_law_some" : Str), ("_law_ride" : Str)]) (ps := [("_law_width" : Str), ("_law_rides_here" : Str), ("_law_spots" : Str)]) t.F_law_no_plan sc_law_no_plan (fun _ _ _ h => len_law_no_plan h) (by decide) fun cdv A outer s H E hr => ⟨ts_law_no_plan K a.CLine, zs_cons (z_set (i := 4) sc_law_no_plan.nd rfl (Or.inl rfl) (z_op zo_add (z_val (zf_lc (own := [(("_law_ride" : Str), 12)]) (pe_lc (own := [(("_law_ride" : Str), 12)]) rfl sc_law_no_plan.nd (zi_tup (zv 2)) (blkOk_by (own := [(("_law_ride" : Str), 12)]) (N := N_law_no_plan) (sc := defScope s_law_no_plan) (by decide +kernel)) (fun _ _ _ _ _ => zgw_name (by decide) (pg_name (i := 12) sc_law_no_plan.nd rfl (Or.inl rfl))) (fun _ _ _ _ _ => zts_nil) (fun _ _ _ _ _ => z_ix (zv 12) (z_int))))) (z_lst (za_cons (z_str) (za_nil))))) (zs_cons (z_set (i := 5) sc_law_no_plan.nd rfl (Or.inl rfl) (z_ix (zv 4) (z_callR (ok_law_draw t tb) (hr.mono (by decide)) (by rfl) t.g__law_draw t.k__law_draw (bd_law_draw t) (pa_cons (pv 0) (za_cons (z_callB zc_len (by rfl) t.b_len (by decide +kernel) (za_cons (zv 4) (za_nil))) (za_nil)))))) (zs_cons (z_par2 (i := 6) (j := 7) rfl (ps_par (i := 6) (j := 7) rfl sc_law_no_plan.nd rfl rfl (by decide) rfl rfl (zr_v (z_callR (ok_law_draw t tb) (hr.mono (by decide)) (by rfl) t.g__law_draw t.k__law_draw (bd_law_draw t) (pa_cons (pv 0) (za_cons (z_op zo_add (z_callB zc_len (by rfl) t.b_len (by decide +kernel) (za_cons (zvK 3) (za_nil))) (z_int)) (za_nil)))) (zr_v (z_callR (ok_law_draw t tb) (hr.mono (by decide)) (by rfl) t.g__law_draw t.k__law_draw (bd_law_draw t) (pa_cons (pv 0) (za_cons (z_op zo_add (z_callB zc_len (by rfl) t.b_len (by decide +kernel) (za_cons (zvK 3) (za_nil))) (z_int)) (za_nil)))) (zr_nil))) (by rfl))) (zs_cons (z_set (i := 8) sc_law_no_plan.nd rfl (Or.inl rfl) (z_lst (za_cons (z_non) (za_cons (z_int) (za_cons (z_bl) (za_cons (z_str) (za_cons (zv 5) (za_cons (z_tup (za_nil)) (za_cons (z_lst (za_nil)) (za_cons (z_dic0) (za_cons (z_tup (za_cons (zv 5) (za_nil))) (za_cons (z_lst (za_cons (zv 5) (za_cons (z_int) (za_nil)))) (za_cons (z_tup (za_cons (zv 5) (za_cons (z_int) (za_cons (z_int) (za_nil))))) (za_cons (z_tup (za_cons (zv 5) (za_cons (z_int) (za_nil)))) (za_nil))))))))))))))) (zs_cons (z_set (i := 8) sc_law_no_plan.nd rfl (Or.inl rfl) (z_op zo_add (zv 8) (z_lst (za_cons (z_tup (za_cons (zv 5) (za_cons (z_op zo_add (zv 1) (z_int)) (za_nil)))) (za_cons (z_tup (za_cons (zv 5) (za_cons (z_neg (z_int)) (za_nil)))) (za_cons (z_tup (za_cons (zv 5) (za_cons (z_bl) (za_nil)))) (za_cons (z_tup (za_cons (zv 5) (za_cons (z_str) (za_nil)))) (za_cons (z_tup (za_cons (zv 5) (za_cons (z_non) (za_nil)))) (za_cons (z_tup (za_cons (zv 5) (za_cons (z_lst (za_cons (z_int) (za_nil))) (za_nil)))) (za_nil)))))))))) (zs_cons (z_set (i := 8) sc_law_no_plan.nd rfl (Or.inl rfl) (z_op zo_add (zv 8) (z_lst (za_cons (z_tup (za_cons (zv 5) (za_cons (z_dic0) (za_nil)))) (za_cons (z_tup (za_cons (z_lst (za_cons (zv 5) (za_nil))) (za_cons (z_int) (za_nil)))) (za_cons (z_tup (za_cons (z_dic0) (za_cons (z_int) (za_nil)))) (za_cons (z_tup (za_cons (z_int) (za_cons (zv 5) (za_nil)))) (za_cons (z_tup (za_cons (z_non) (za_cons (z_int) (za_nil)))) (za_cons (z_tup (za_cons (zv 5) (za_cons (z_op zo_pow (z_int) (z_int)) (za_nil)))) (za_nil)))))))))) (zs_cons (z_set (i := 8) sc_law_no_plan.nd rfl (Or.inl rfl) (z_op zo_add (zv 8) (z_lst (za_cons (z_tup (za_cons (zv 5) (za_cons (z_op zo_add (z_int) (z_callR (ok_law_draw t tb) (hr.mono (by decide)) (by rfl) t.g__law_draw t.k__law_draw (bd_law_draw t) (pa_cons (pv 0) (za_cons (zv 1) (za_nil))))) (za_nil)))) (za_nil))))) (zs_cons (z_set (i := 9) sc_law_no_plan.nd rfl (Or.inl rfl) (z_op zo_addA (z_op zo_addA (z_sliceA (zvK 3) (zp_none) (zp_some (zv 6))) (z_tup (za_cons (z_ix (zv 8) (z_callR (ok_law_draw t tb) (hr.mono (by decide)) (by rfl) t.g__law_draw t.k__law_draw (bd_law_draw t) (pa_cons (pv 0) (za_cons (z_int) (za_nil))))) (za_nil)))) (z_sliceA (zvK 3) (zp_some (z_op zo_add (zv 6) (z_int))) (zp_none)))) (zs_cons (z_set (i := 10) sc_law_no_plan.nd rfl (Or.inl rfl) (z_op zo_addA (z_op zo_addA (z_sliceA (zv 9) (zp_none) (zp_some (zv 7))) (z_tup (za_cons (z_ix (zv 8) (z_callR (ok_law_draw t tb) (hr.mono (by decide)) (by rfl) t.g__law_draw t.k__law_draw (bd_law_draw t) (pa_cons (pv 0) (za_cons (z_int) (za_nil))))) (za_nil)))) (z_sliceA (zv 9) (zp_some (z_op zo_add (zv 7) (z_int))) (zp_none)))) (zs_cons (z_set (i := 11) sc_law_no_plan.nd rfl (Or.inl rfl) (z_lst (za_cons (zv 9) (za_cons (zv 9) (za_cons (zv 9) (za_cons (zv 10) (za_cons (zv 10) (za_cons (z_callTy zc_list (by rfl) t.b_list (by decide +kernel) (za_cons (zvK 3) (za_nil))) (za_cons (z_non) (za_cons (z_int) (za_cons (z_str) (za_cons (z_dic0) (za_cons (z_op zo_addA (zvK 3) (z_tup (za_cons (z_tup (za_cons (zv 5) (za_cons (z_int) (za_nil)))) (za_nil)))) (za_cons (z_sliceA (zvK 3) (zp_some (z_int)) (zp_none)) (za_cons (z_sliceA (zvK 3) (zp_none) (zp_some (z_neg (z_int)))) (za_nil)))))))))))))))) (zs_cons (z_set (i := 11) sc_law_no_plan.nd rfl (Or.inl rfl) (z_op zo_add (zv 11) (z_lst (za_cons (z_revT (zvK 3)) (za_cons (z_op zo_addA (zvK 3) (z_tup (za_cons (z_non) (za_nil)))) (za_cons (z_op zo_addA (z_sliceA (zvK 3) (zp_none) (zp_some (zv 6))) (z_sliceA (zvK 3) (zp_some (z_op zo_add (zv 6) (z_int))) (zp_none))) (za_cons (z_valD (zd_callTy (zc_dictK rfl) (by rfl) t.b_dict (by decide +kernel) (za_cons (zv 3) (za_nil)))) (za_nil)))))))) (zs_one (z_ret (z_ix (zv 11) (z_callR (ok_law_draw t tb) (hr.mono (by decide)) (by rfl) t.g__law_draw t.k__law_draw (bd_law_draw t) (pa_cons (pv 0) (za_cons (z_int) (za_nil))))))))))))))))), fun _ _ _ h => rd_law_no_plan h⟩
theorem bd_law_others (t : Tx K mg a) : Binds K a.d_law_others [("_law_pool_here" : Str), ("_law_width" : Str), ("_law_rides_here" : Str)] [] := t.F_law_others.binds fun _ _ _ _ _ _ us hl => match us, hl with | [_, _, _], _ => rfl
theorem ok_law_others (t : Tx K mg a) (tb : LamX.TabB base mg a.cL a.tL) : FnOk P w K mg base CX0 4 a.f_law_others a.d_law_others [("_law_pool_here" : Str), ("_law_width" : Str), ("_law_rides_here" : Str)] (upSpR K (TT a) (sp_law_others K a.CLine)) :=
 okR (nm := ("_law_pool_here" : Str)) (N := [("_law_width" : Str), ("_law_rides_here" : Str), ("_law_words_here" : Str), ("_law_more" : Str), ("_law_ride" : Str)]) (ps := [("_law_width" : Str), ("_law_rides_here" : Str)]) t.F_law_others sc_law_others (fun _ _ _ h => len_law_others h) (by decide) fun cdv A outer s H E hr => ⟨ts_law_others K a.CLine, zs_cons (z_setLc (own := [(("_law_ride" : Str), 5)]) (i := 3) (ps_setLc (own := [(("_law_ride" : Str), 5)]) rfl sc_law_others.nd (i := 3) rfl rfl rfl (zi_tup (zv 2)) (blkOk_by (own := [(("_law_ride" : Str), 5)]) (N := N_law_others) (sc := defScope s_law_others) (by decide +kernel)) (fun _ _ _ _ _ => zgw_name (by decide) (pg_name (i := 5) sc_law_others.nd rfl (Or.inl rfl))) (fun _ _ _ _ _ => zts_nil) (fun _ _ _ _ _ => z_ix (zv 5) (z_int)))) (zs_cons (z_set (i := 4) sc_law_others.nd rfl (Or.inl rfl) (z_callR (ok_law_rides t tb) (hr.mono (by decide)) (by rfl) t.g__law_rides t.k__law_rides (bd_law_rides t) (pa_cons (pv 0) (za_cons (zv 3) (za_cons (z_op zo_add (z_int) (z_callR (ok_law_draw t tb) (hr.mono (by decide)) (by rfl) t.g__law_draw t.k__law_draw (bd_law_draw t) (pa_cons (pv 0) (za_cons (z_int) (za_nil))))) (za_nil)))))) (zs_one (z_ret (z_lst (za_cons (z_lst (za_cons (zv 1) (za_cons (zv 2) (za_nil)))) (za_cons (z_lst (za_cons (z_callB (zc_max2 rfl) (by rfl) t.b_max (by decide +kernel) (za_cons (z_int) (za_cons (z_op zo_sub (zv 1) (z_int)) (za_nil)))) (za_cons (zv 2) (za_nil)))) (za_cons (z_lst (za_cons (zv 1) (za_cons (zv 4) (za_nil)))) (za_cons (z_lst (za_cons (zv 1) (za_cons (zv 2) (za_nil)))) (za_nil))))))))), fun _ _ _ h => rd_law_others h⟩
theorem bd_law_by_start (t : Tx K mg a) : Binds K a.d_law_by_start [("_law_rides_here" : Str)] [] := t.F_law_by_start.binds fun _ _ _ _ _ _ us hl => match us, hl with | [_], _ => rfl
theorem ok_law_by_start (t : Tx K mg a) (tb : LamX.TabB base mg a.cL a.tL) : FnOk P w K mg base CX0 1 a.f_law_by_start a.d_law_by_start [("_law_rides_here" : Str)] (upSp K (TT a) (sp_law_by_start K a.CLine)) :=
 okP t.F_law_by_start sc_law_by_start (fun _ _ h => len_law_by_start h) (by decide) fun cdv A outer s H E hr => ⟨ts_law_by_start K a.CLine, zs_cons (z_set (i := 1) sc_law_by_start.nd rfl (Or.inl rfl) (z_callB (zc_sorted hr.units) (by rfl) t.b_sorted (by decide +kernel) (za_cons (z_val (zf_lc (own := [(("_law_ride" : Str), 2)]) (pe_lc (own := [(("_law_ride" : Str), 2)]) rfl sc_law_by_start.nd (zi_tup (zv 0)) (blkOk_by (own := [(("_law_ride" : Str), 2)]) (N := N_law_by_start) (sc := defScope s_law_by_start) (by decide +kernel)) (fun _ _ _ _ _ => zgw_name (by decide) (pg_name (i := 2) sc_law_by_start.nd rfl (Or.inl rfl))) (fun _ _ _ _ _ => zts_nil) (fun _ _ _ _ _ => z_tup (za_cons (z_ix (zv 2) (z_int)) (za_cons (z_ix (zv 2) (z_int)) (za_cons (zv 2) (za_nil)))))))) (za_nil)))) (zs_one (z_ret (z_val (zf_lc (own := [(("_law_row" : Str), 3)]) (pe_lc (own := [(("_law_row" : Str), 3)]) rfl sc_law_by_start.nd (zi_list (zv 1)) (blkOk_by (own := [(("_law_row" : Str), 3)]) (N := N_law_by_start) (sc := defScope s_law_by_start) (by decide +kernel)) (fun _ _ _ _ _ => zgw_name (by decide) (pg_name (i := 3) sc_law_by_start.nd rfl (Or.inl rfl))) (fun _ _ _ _ _ => zts_nil) (fun _ _ _ _ _ => z_ix (zv 3) (z_int))))))), fun _ _ h => rd_law_by_start h⟩
theorem bd_law_meet (t : Tx K mg a) : Binds K a.d_law_meet [("_law_one_ride" : Str), ("_law_more_ride" : Str)] [] := t.F_law_meet.binds fun _ _ _ _ _ _ us hl => match us, hl with | [_, _], _ => rfl
theorem ok_law_meet (t : Tx K mg a) (tb : LamX.TabB base mg a.cL a.tL) : FnOk P w K mg base CX0 1 a.f_law_meet a.d_law_meet [("_law_one_ride" : Str), ("_law_more_ride" : Str)] (upSp K (TT a) (sp_law_meet K a.CLine)) :=
 okP t.F_law_meet sc_law_meet (fun _ _ h => len_law_meet h) (by decide) fun cdv A outer s H E hr => ⟨ts_law_meet K a.CLine, zs_one (z_ret (z_and (z_cmp zo_lt (z_ix (zv 0) (z_int)) (z_ix (zv 1) (z_int))) (z_one (z_cmp zo_lt (z_ix (zv 1) (z_int)) (z_ix (zv 0) (z_int)))))), fun _ _ h => rd_law_meet h⟩
theorem bd_law_choices (t : Tx K mg a) : Binds K a.d_law_choices [("_law_width" : Str), ("_law_rides_here" : Str), ("_law_held" : Str), ("_law_ride" : Str)] [] := t.F_law_choices.binds fun _ _ _ _ _ _ us hl => match us, hl with | [_, _, _, _], _ => rfl
theorem ok_law_choices (t : Tx K mg a) (tb : LamX.TabB base mg a.cL a.tL) : FnOk P w K mg base CX0 2 a.f_law_choices a.d_law_choices [("_law_width" : Str), ("_law_rides_here" : Str), ("_law_held" : Str), ("_law_ride" : Str)] (upSpF K (TT a) (sp_law_choices K a.CLine)) :=
 okF t.F_law_choices sc_law_choices (fun _ _ h => len_law_choices h) (by decide) fun cdv A outer s H E hr => ⟨ts_law_choices K a.CLine, zsf_cons (z_set (i := 4) sc_law_choices.nd rfl (Or.inr rfl) (z_val (zf_lc (own := [(("_law_each" : Str), 5)]) (pe_lc (own := [(("_law_each" : Str), 5)]) rfl sc_law_choices.nd (zi_tup (zv 1)) (blkOk_by (own := [(("_law_each" : Str), 5)]) (N := N_law_choices) (sc := defScope s_law_choices) (by decide +kernel)) (fun _ _ _ _ _ => zgw_name (by decide) (pg_name (i := 5) sc_law_choices.nd rfl (Or.inl rfl))) (fun _ _ _ _ _ => zts_one ((zw_and (zt_cmp (zo_inD (Room.u1 hr)) (z_ix (zv 5) (z_int)) (zv 2)) (zw_and1 (zt_val (z_call (ok_law_meet t tb) (hr.mono (by decide)) (by rfl) t.g__law_meet t.k__law_meet (bd_law_meet t) .nil (fun _ _ => .nil) (za_cons (zv 5) (za_cons (zv 3) (za_nil))))))).pt)) (fun _ _ _ _ _ => z_dget (Room.u1 hr) (zv 2) (z_ix (zv 5) (z_int))))))) (zsf_ret (zf_lc (own := [(("_law_spot" : Str), 6)]) (pe_lc (own := [(("_law_spot" : Str), 6)]) rfl sc_law_choices.nd (zi_range2 (by rfl) t.b_range (z_int) (z_op zo_add (zv 0) (z_int)) rfl rfl (pi_range2 (by rfl) t.b_range (pa_cons (z_int) (pa_cons (z_op zo_add (zv 0) (z_int)) pa_nil)))) (blkOk_by (own := [(("_law_spot" : Str), 6)]) (N := N_law_choices) (sc := defScope s_law_choices) (by decide +kernel)) (fun _ _ _ _ _ => zgw_name (by decide) (pg_name (i := 6) sc_law_choices.nd rfl (Or.inl rfl))) (fun _ _ _ _ _ => zts_one (zt_cmp zo_notInL (zv 6) (zv 4))) (fun _ _ _ _ _ => zv 6)))), fun _ _ h => rd_law_choices h⟩
theorem bd_law_flat (t : Tx K mg a) : Binds K a.d_law_flat [("_law_held" : Str)] [] := t.F_law_flat.binds fun _ _ _ _ _ _ us hl => match us, hl with | [_], _ => rfl
theorem ok_law_flat (t : Tx K mg a) (tb : LamX.TabB base mg a.cL a.tL) : FnOk P w K mg base CX0 1 a.f_law_flat a.d_law_flat [("_law_held" : Str)] (upSp K (TT a) (sp_law_flat K a.CLine)) :=
 okP t.F_law_flat sc_law_flat (fun _ _ h => len_law_flat h) (by decide) fun cdv A outer s H E hr => ⟨ts_law_flat K a.CLine, zs_one (z_ret (z_callTy zc_tupleK (by rfl) t.b_tuple (by decide +kernel) (za_cons (z_val (zf_lc (own := [(("_law_word" : Str), 1)]) (pe_lc (own := [(("_law_word" : Str), 1)]) rfl sc_law_flat.nd (zi_list (z_callB (zc_sortK rfl) (by rfl) t.b_sorted (by decide +kernel) (za_cons (zv 0) (za_nil)))) (blkOk_by (own := [(("_law_word" : Str), 1)]) (N := N_law_flat) (sc := defScope s_law_flat) (by decide +kernel)) (fun _ _ _ _ _ => zgw_name (by decide) (pg_name (i := 1) sc_law_flat.nd rfl (Or.inl rfl))) (fun _ _ _ _ _ => zts_nil) (fun _ _ _ _ _ => z_tup (za_cons (zv 1) (za_cons (z_dget (Room.u1 hr) (zv 0) (zv 1)) (za_nil))))))) (za_nil)))), fun _ _ h => rd_law_flat h⟩
theorem bd_law_drawnN (t : Tx K mg a) : Binds K a.d_law_drawnN [("_law_pool_here" : Str), ("_law_width" : Str), ("_law_rides_here" : Str)] [] := t.F_law_drawnN.binds fun _ _ _ _ _ _ us hl => match us, hl with | [_, _, _], _ => rfl
theorem ok_law_drawnN (t : Tx K mg a) (tb : LamX.TabB base mg a.cL a.tL) : FnOk P w K mg base CX0 3 a.f_law_drawnN a.d_law_drawnN [("_law_pool_here" : Str), ("_law_width" : Str), ("_law_rides_here" : Str)] (upSpR K (TT a) (sp_law_drawnN K a.CLine)) :=
 okR (nm := ("_law_pool_here" : Str)) (N := [("_law_width" : Str), ("_law_rides_here" : Str), ("_law_held" : Str), ("_law_ride" : Str), ("_law_spots" : Str)]) (ps := [("_law_width" : Str), ("_law_rides_here" : Str)]) t.F_law_drawnN sc_law_drawnN (fun _ _ _ h => len_law_drawnN h) (by decide) fun cdv A outer s H E hr => ⟨ts_law_drawnN K a.CLine, zs_cons (z_setFD (i := 3) sc_law_drawnN.nd rfl (Or.inl rfl) (zd_dic0)) (zs_cons (z_for PassesOwn.never rfl (zi_list (z_call (ok_law_by_start t tb) (hr.mono (by decide)) (by rfl) t.g__law_by_start t.k__law_by_start (bd_law_by_start t) .nil (fun _ _ => .nil) (za_cons (zv 2) (za_nil)))) (zg_name (i := 4) sc_law_drawnN.nd rfl (Or.inl rfl)) (zs_cons (z_set (i := 5) sc_law_drawnN.nd rfl (Or.inl rfl) (z_val (z_callFB (ok_law_choices t tb) (hr.mono (by decide)) (by rfl) t.g__law_choices t.k__law_choices (bd_law_choices t) (zb_v (zv 1) (zb_v (zv 2) (zb_b (pv 3) (zb_v (zv 4) (zb_nil)))))))) (zs_cons (z_if (zt_cmp (zo_eq hr.units) (zv 5) (z_lst (za_nil))) (zs_one (z_ret (z_non))) (zs_nil)) (zs_one (z_dput (Room.u1 hr) (pv 3) (z_ix (zv 4) (z_int)) (z_ix (zv 5) (z_callR (ok_law_draw t tb) (hr.mono (by decide)) (by rfl) t.g__law_draw t.k__law_draw (bd_law_draw t) (pa_cons (pv 0) (za_cons (z_callB zc_len (by rfl) t.b_len (by decide +kernel) (za_cons (zv 5) (za_nil))) (za_nil)))))))))) (zs_one (z_ret (z_callB' (ok_law_flat t tb) (hr.mono (by decide)) (by rfl) t.g__law_flat t.k__law_flat (bd_law_flat t) (zb_b (pv 3) (zb_nil)))))), fun _ _ _ h => rd_law_drawnN h⟩
theorem bd_law_product (t : Tx K mg a) : Binds K a.d_law_product [("_law_width" : Str), ("_law_rides_here" : Str)] [] := t.F_law_product.binds fun _ _ _ _ _ _ us hl => match us, hl with | [_, _], _ => rfl
theorem ok_law_product (t : Tx K mg a) (tb : LamX.TabB base mg a.cL a.tL) : FnOk P w K mg base CX0 2 a.f_law_product a.d_law_product [("_law_width" : Str), ("_law_rides_here" : Str)] (upSp K (TT a) (sp_law_product K a.CLine)) :=
 okP t.F_law_product sc_law_product (fun _ _ h => len_law_product h) (by decide) fun cdv A outer s H E hr => ⟨ts_law_product K a.CLine, zs_cons (z_asg (z_tup (za_cons (z_call (ok_law_by_start t tb) (hr.mono (by decide)) (by rfl) t.g__law_by_start t.k__law_by_start (bd_law_by_start t) .nil (fun _ _ => .nil) (za_cons (zv 1) (za_nil))) (za_cons (z_int) (za_nil)))) (zg_tup (pg_tup rfl (zgs_cons1 (zg_name (i := 2) sc_law_product.nd rfl (Or.inr rfl)) (zgs_cons1 (zg_name (i := 3) sc_law_product.nd rfl (Or.inl rfl)) (zgs_nil)))))) (zs_cons (z_for PassesOwn.never rfl (zi_range1 (by rfl) t.b_range (z_callB zc_len (by rfl) t.b_len (by decide +kernel) (za_cons (zv 2) (za_nil)))) (zg_name (i := 4) sc_law_product.nd rfl (Or.inr rfl)) (zs_one (z_set (i := 3) sc_law_product.nd rfl (Or.inl rfl) (z_op zo_mulA (zv 3) (z_callB (zc_max2 rfl) (by rfl) t.b_max (by decide +kernel) (za_cons (z_int) (za_cons (z_op zo_sub (zv 0) (z_callB zc_len (by rfl) t.b_len (by decide +kernel) (za_cons (z_val (zf_lc (own := [(("_law_each" : Str), 5)]) (pe_lc (own := [(("_law_each" : Str), 5)]) rfl sc_law_product.nd (zi_list (z_slice (zv 2) (zp_none) (zp_some (zv 4)))) (blkOk_by (own := [(("_law_each" : Str), 5)]) (N := N_law_product) (sc := defScope s_law_product) (by decide +kernel)) (fun _ _ _ _ _ => zgw_name (by decide) (pg_name (i := 5) sc_law_product.nd rfl (Or.inl rfl))) (fun _ _ _ _ _ => zts_one (zt_val (z_call (ok_law_meet t tb) (hr.mono (by decide)) (by rfl) t.g__law_meet t.k__law_meet (bd_law_meet t) .nil (fun _ _ => .nil) (za_cons (zv 5) (za_cons (z_ix (zv 2) (zv 4)) (za_nil)))))) (fun _ _ _ _ _ => zv 5)))) (za_nil)))) (za_nil)))))))) (zs_one (z_ret (zv 3)))), fun _ _ h => rd_law_product h⟩
theorem bd_law_sizes (t : Tx K mg a) : Binds K a.d_law_sizes [("_law_width" : Str), ("_law_rides_here" : Str)] [] := t.F_law_sizes.binds fun _ _ _ _ _ _ us hl => match us, hl with | [_, _], _ => rfl
theorem ok_law_sizes (t : Tx K mg a) (tb : LamX.TabB base mg a.cL a.tL) : FnOk P w K mg base CX0 2 a.f_law_sizes a.d_law_sizes [("_law_width" : Str), ("_law_rides_here" : Str)] (upSp K (TT a) (sp_law_sizes K a.CLine)) :=
 okP t.F_law_sizes sc_law_sizes (fun _ _ h => len_law_sizes h) (by decide) fun cdv A outer s H E hr => ⟨ts_law_sizes K a.CLine, zs_cons (z_set (i := 2) sc_law_sizes.nd rfl (Or.inr rfl) (z_call (ok_law_by_start t tb) (hr.mono (by decide)) (by rfl) t.g__law_by_start t.k__law_by_start (bd_law_by_start t) .nil (fun _ _ => .nil) (za_cons (zv 1) (za_nil)))) (zs_cons (z_setF (i := 3) sc_law_sizes.nd rfl (Or.inl rfl) (zf_lst (za_nil))) (zs_cons (z_for PassesOwn.never rfl (zi_range1 (by rfl) t.b_range (z_callB zc_len (by rfl) t.b_len (by decide +kernel) (za_cons (zv 2) (za_nil)))) (zg_name (i := 4) sc_law_sizes.nd rfl (Or.inr rfl)) (zs_one (z_app rfl (ps_expr (pe_bm PySem.F.plainAttrs_list PySem.F.slot_list_append PySem.F.type_list_append mt_append (pv 3) (pa_cons (z_callB (zc_max2 rfl) (by rfl) t.b_max (by decide +kernel) (za_cons (z_int) (za_cons (z_op zo_sub (zv 0) (z_callB zc_len (by rfl) t.b_len (by decide +kernel) (za_cons (z_val (zf_lc (own := [(("_law_each" : Str), 5)]) (pe_lc (own := [(("_law_each" : Str), 5)]) rfl sc_law_sizes.nd (zi_list (z_slice (zv 2) (zp_none) (zp_some (zv 4)))) (blkOk_by (own := [(("_law_each" : Str), 5)]) (N := N_law_sizes) (sc := defScope s_law_sizes) (by decide +kernel)) (fun _ _ _ _ _ => zgw_name (by decide) (pg_name (i := 5) sc_law_sizes.nd rfl (Or.inl rfl))) (fun _ _ _ _ _ => zts_one (zt_val (z_call (ok_law_meet t tb) (hr.mono (by decide)) (by rfl) t.g__law_meet t.k__law_meet (bd_law_meet t) .nil (fun _ _ => .nil) (za_cons (zv 5) (za_cons (z_ix (zv 2) (zv 4)) (za_nil)))))) (fun _ _ _ _ _ => zv 5)))) (za_nil)))) (za_nil)))) pa_nil)))))) (zs_one (z_ret (zv 3))))), fun _ _ h => rd_law_sizes h⟩
theorem bd_law_spots_at (t : Tx K mg a) : Binds K a.d_law_spots_at [("_law_width" : Str), ("_law_rides_here" : Str), ("_law_wanted" : Str)] [] := t.F_law_spots_at.binds fun _ _ _ _ _ _ us hl => match us, hl with | [_, _, _], _ => rfl
theorem ok_law_spots_at (t : Tx K mg a) (tb : LamX.TabB base mg a.cL a.tL) : FnOk P w K mg base CX0 3 a.f_law_spots_at a.d_law_spots_at [("_law_width" : Str), ("_law_rides_here" : Str), ("_law_wanted" : Str)] (upSp K (TT a) (sp_law_spots_at K a.CLine)) :=
 okP t.F_law_spots_at sc_law_spots_at (fun _ _ h => len_law_spots_at h) (by decide) fun cdv A outer s H E hr => ⟨ts_law_spots_at K a.CLine, zs_cons (z_par2 (i := 3) (j := 4) rfl (ps_par (i := 3) (j := 4) rfl sc_law_spots_at.nd rfl rfl (by decide) rfl rfl (zr_f (zf_lst (za_nil)) (zr_fd (zd_dic0) (zr_nil))) (by rfl))) (zs_cons (z_for PassesOwn.never rfl (zi_list (z_revL (z_call (ok_law_sizes t tb) (hr.mono (by decide)) (by rfl) t.g__law_sizes t.k__law_sizes (bd_law_sizes t) .nil (fun _ _ => .nil) (za_cons (zv 0) (za_cons (zv 1) (za_nil)))))) (zg_name (i := 5) sc_law_spots_at.nd rfl (Or.inl rfl)) (zs_cons (z_asg (z_callB zc_divmodW (by rfl) t.b_divmod (by decide +kernel) (za_cons (zv 2) (za_cons (zv 5) (za_nil)))) (zg_tup (pg_tup rfl (zgs_cons1 (zg_name (i := 2) sc_law_spots_at.nd rfl (Or.inl rfl)) (zgs_cons1 (zg_name (i := 6) sc_law_spots_at.nd rfl (Or.inl rfl)) (zgs_nil)))))) (zs_one (z_app rfl (ps_expr (pe_bm PySem.F.plainAttrs_list PySem.F.slot_list_append PySem.F.type_list_append mt_append (pv 3) (pa_cons (zv 6) pa_nil))))))) (zs_cons (z_for PassesOwn.never rfl (zi_zip (by rfl) t.b_zip (za_cons (z_call (ok_law_by_start t tb) (hr.mono (by decide)) (by rfl) t.g__law_by_start t.k__law_by_start (bd_law_by_start t) .nil (fun _ _ => .nil) (za_cons (zv 1) (za_nil))) (za_cons (z_revL (zv 3)) (za_nil)))) (zg_tup (pg_tup rfl (zgs_cons1 (zg_name (i := 7) sc_law_spots_at.nd rfl (Or.inl rfl)) (zgs_cons1 (zg_name (i := 6) sc_law_spots_at.nd rfl (Or.inl rfl)) (zgs_nil))))) (zs_one (z_dput (Room.u1 hr) (pv 4) (z_ix (zv 7) (z_int)) (z_ix (z_val (z_callFB (ok_law_choices t tb) (hr.mono (by decide)) (by rfl) t.g__law_choices t.k__law_choices (bd_law_choices t) (zb_v (zv 0) (zb_v (zv 1) (zb_b (pv 4) (zb_v (zv 7) (zb_nil))))))) (zv 6))))) (zs_one (z_ret (z_callB' (ok_law_flat t tb) (hr.mono (by decide)) (by rfl) t.g__law_flat t.k__law_flat (bd_law_flat t) (zb_b (pv 4) (zb_nil))))))), fun _ _ h => rd_law_spots_at h⟩
theorem bd_law_some_planN (t : Tx K mg a) : Binds K a.d_law_some_planN [("_law_pool_here" : Str), ("_law_width" : Str), ("_law_rides_here" : Str)] [] := t.F_law_some_planN.binds fun _ _ _ _ _ _ us hl => match us, hl with | [_, _, _], _ => rfl
theorem ok_law_some_planN (t : Tx K mg a) (tb : LamX.TabB base mg a.cL a.tL) : FnOk P w K mg base CX0 4 a.f_law_some_planN a.d_law_some_planN [("_law_pool_here" : Str), ("_law_width" : Str), ("_law_rides_here" : Str)] (upSpR K (TT a) (sp_law_some_planN K a.CLine)) :=
 okR (nm := ("_law_pool_here" : Str)) (N := [("_law_width" : Str), ("_law_rides_here" : Str), ("_law_whole" : Str)]) (ps := [("_law_width" : Str), ("_law_rides_here" : Str)]) t.F_law_some_planN sc_law_some_planN (fun _ _ _ h => len_law_some_planN h) (by decide) fun cdv A outer s H E hr => ⟨ts_law_some_planN K a.CLine, zs_cons (z_if (zt_cmp zo_eqI (z_callR (ok_law_draw t tb) (hr.mono (by decide)) (by rfl) t.g__law_draw t.k__law_draw (bd_law_draw t) (pa_cons (pv 0) (za_cons (z_int) (za_nil)))) (z_int)) (zs_one (z_ret (z_callR (ok_law_drawnN t tb) (hr.mono (by decide)) (by rfl) t.g__law_drawn t.k__law_drawn (bd_law_drawnN t) (pa_cons (pv 0) (za_cons (zv 1) (za_cons (zv 2) (za_nil))))))) (zs_nil)) (zs_cons (z_set (i := 3) sc_law_some_planN.nd rfl (Or.inl rfl) (z_call (ok_law_product t tb) (hr.mono (by decide)) (by rfl) t.g__law_product t.k__law_product (bd_law_product t) .nil (fun _ _ => .nil) (za_cons (zv 1) (za_cons (zv 2) (za_nil))))) (zs_one (z_ret (z_ifExp (zt_cmp zo_gt (zv 3) (z_int)) (z_call (ok_law_spots_at t tb) (hr.mono (by decide)) (by rfl) t.g__law_spots_at t.k__law_spots_at (bd_law_spots_at t) .nil (fun _ _ => .nil) (za_cons (zv 1) (za_cons (zv 2) (za_cons (z_callR (ok_law_draw t tb) (hr.mono (by decide)) (by rfl) t.g__law_draw t.k__law_draw (bd_law_draw t) (pa_cons (pv 0) (za_cons (zv 3) (za_nil)))) (za_nil))))) (z_non))))), fun _ _ _ h => rd_law_some_planN h⟩
theorem bd_law_fault (t : Tx K mg a) : Binds K a.d_law_fault [("_law_width" : Str), ("_law_rides_here" : Str), ("_law_spots" : Str)] [] := t.F_law_fault.binds fun _ _ _ _ _ _ us hl => match us, hl with | [_, _, _], _ => rfl
theorem ok_law_fault (t : Tx K mg a) (tb : LamX.TabB base mg a.cL a.tL) : FnOk P w K mg base CX0 2 a.f_law_fault a.d_law_fault [("_law_width" : Str), ("_law_rides_here" : Str), ("_law_spots" : Str)] (upSp K (TT a) (sp_law_fault K a.CLine)) :=
 okP t.F_law_fault sc_law_fault (fun _ _ h => len_law_fault h) (by decide) fun cdv A outer s H E hr => ⟨ts_law_fault K a.CLine, zs_cons (z_if (zt_not (zt_val (z_callB zc_isi (by rfl) t.b_isinstance (by decide +kernel) (za_cons (zv 2) (za_cons (z_ty (by rfl) t.b_tuple (by decide +kernel)) (za_nil)))))) (zs_one (z_ret (z_lst (za_cons (z_non) (za_nil))))) (zs_nil)) (zs_cons (z_for PassesOwn.never rfl (zi_range1 (by rfl) t.b_range (z_callB zc_len (by rfl) t.b_len (by decide +kernel) (za_cons (zv 2) (za_nil)))) (zg_name (i := 3) sc_law_fault.nd rfl (Or.inl rfl)) (zs_cons (z_set (i := 4) sc_law_fault.nd rfl (Or.inl rfl) (z_ix (zv 2) (zv 3))) (zs_cons (z_if ((zw_or (zt_cmp zo_ge (zv 3) (z_callB zc_len (by rfl) t.b_len (by decide +kernel) (za_cons (zv 1) (za_nil)))) (zw_or (zt_not (zt_val (z_callB zc_isi (by rfl) t.b_isinstance (by decide +kernel) (za_cons (zv 4) (za_cons (z_ty (by rfl) t.b_tuple (by decide +kernel)) (za_nil)))))) (zw_or (zt_cmp zo_neI (z_callB zc_len (by rfl) t.b_len (by decide +kernel) (za_cons (zv 4) (za_nil))) (z_int)) (zw_or1 (zt_eit (zt_cmp (zo_ne hr.units) (z_ix (zv 4) (z_int)) (z_ix (z_ix (zv 1) (zv 3)) (z_int))) (zt_cmp (zo_neDS (Nat.lt_of_le_of_lt (Nat.le_add_right _ _) hr.units)) (z_ix (zv 4) (z_int)) (z_ix (z_ix (zv 1) (zv 3)) (z_int)))))))).pt) (zs_one (z_ret (z_lst (za_cons (zv 3) (za_nil))))) (zs_nil)) (zs_cons (z_if ((zw_or (zt_not (zt_val (z_callB zc_isi (by rfl) t.b_isinstance (by decide +kernel) (za_cons (z_ix (zv 4) (z_int)) (za_cons (z_ty (by rfl) t.b_int (by decide +kernel)) (za_nil)))))) (zw_or (zt_val (z_callB zc_isi (by rfl) t.b_isinstance (by decide +kernel) (za_cons (z_ix (zv 4) (z_int)) (za_cons (z_ty (by rfl) t.b_bool (by decide +kernel)) (za_nil))))) (zw_or1 (zt_not (zt_chain zo_lt zo_le (z_int) (z_ix (zv 4) (z_int)) (zv 0)))))).pt) (zs_one (z_ret (z_lst (za_cons (zv 3) (za_nil))))) (zs_nil)) (zs_one (z_for PassesOwn.never rfl (zi_range1 (by rfl) t.b_range (zv 3)) (zg_name (i := 5) sc_law_fault.nd rfl (Or.inl rfl)) (zs_one (z_if ((zw_and (zt_cmp zo_eqI (z_ix (z_ix (zv 2) (zv 5)) (z_int)) (z_ix (zv 4) (z_int))) (zw_and1 (zt_val (z_call (ok_law_meet t tb) (hr.mono (by decide)) (by rfl) t.g__law_meet t.k__law_meet (bd_law_meet t) .nil (fun _ _ => .nil) (za_cons (z_ix (zv 1) (zv 5)) (za_cons (z_ix (zv 1) (zv 3)) (za_nil))))))).pt) (zs_one (z_ret (z_lst (za_cons (zv 3) (za_nil))))) (zs_nil))))))))) (zs_one (z_ret (z_ifExp (zt_cmp zo_eqI (z_callB zc_len (by rfl) t.b_len (by decide +kernel) (za_cons (zv 2) (za_nil))) (z_callB zc_len (by rfl) t.b_len (by decide +kernel) (za_cons (zv 1) (za_nil)))) (z_lst (za_nil)) (z_lst (za_cons (z_callB zc_len (by rfl) t.b_len (by decide +kernel) (za_cons (zv 2) (za_nil))) (za_nil))))))), fun _ _ h => rd_law_fault h⟩
theorem bd_Line_trips (t : Tx K mg a) : Binds K a.d_Line_trips [("self" : Str)] [] := t.F_Line_trips.binds fun _ _ _ _ _ _ us hl => match us, hl with | [_], _ => rfl
theorem ok_Line_trips (t : Tx K mg a) (tb : LamX.TabB base mg a.cL a.tL) : FnOk P w K mg base CX0 1 a.f_Line_trips a.d_Line_trips [("self" : Str)] (upSp K (TT a) (sp_Line_trips K a.CLine)) :=
 okP t.F_Line_trips sc_Line_trips (fun _ _ h => len_Line_trips h) (by decide) fun cdv A outer s H E hr => ⟨ts_Line_trips K a.CLine, zs_one (z_ret (z_fld t.cl t.n_rows (zv 0))), fun _ _ h => rd_Line_trips h⟩
theorem bd_check_line (t : Tx K mg a) : Binds K a.d_check_line [("line" : Str)] [] := t.F_check_line.binds fun _ _ _ _ _ _ us hl => match us, hl with | [_], _ => rfl
theorem ok_check_line (t : Tx K mg a) (tb : LamX.TabB base mg a.cL a.tL) : FnOk P w K mg base CX0 7 a.f_check_line a.d_check_line [("line" : Str)] (upSp K (TT a) (sp_check_line K a.CLine)) :=
 okP t.F_check_line sc_check_line (fun _ _ h => len_check_line h) (by decide) fun cdv A outer s H E hr => ⟨ts_check_line K a.CLine, zs_one (z_if (zt_not (zt_val (z_callB zc_isi (by rfl) t.b_isinstance (by decide +kernel) (za_cons (zv 0) (za_cons (z_gc (by rfl) t.g_Line) (za_nil)))))) (zs_one (z_never)) (zs_nil)), fun _ _ h => rd_check_line h⟩
theorem bd_Line_capacity (t : Tx K mg a) : Binds K a.d_Line_capacity [("self" : Str)] [] := t.F_Line_capacity.binds fun _ _ _ _ _ _ us hl => match us, hl with | [_], _ => rfl
theorem ok_Line_capacity (t : Tx K mg a) (tb : LamX.TabB base mg a.cL a.tL) : FnOk P w K mg base CX0 1 a.f_Line_capacity a.d_Line_capacity [("self" : Str)] (upSp K (TT a) (sp_Line_capacity K a.CLine)) :=
 okP t.F_Line_capacity sc_Line_capacity (fun _ _ h => len_Line_capacity h) (by decide) fun cdv A outer s H E hr => ⟨ts_Line_capacity K a.CLine, zs_one (z_ret (z_fld t.cl t.n_seat_count (zv 0))), fun _ _ h => rd_Line_capacity h⟩
theorem bd_is_pair (t : Tx K mg a) : Binds K a.d_is_pair [("thing" : Str)] [] := t.F_is_pair.binds fun _ _ _ _ _ _ us hl => match us, hl with | [_], _ => rfl
theorem ok_is_pair (t : Tx K mg a) (tb : LamX.TabB base mg a.cL a.tL) : FnOk P w K mg base CX0 1 a.f_is_pair a.d_is_pair [("thing" : Str)] (upSp K (TT a) (sp_is_pair K a.CLine)) :=
 okP t.F_is_pair sc_is_pair (fun _ _ h => len_is_pair h) (by decide) fun cdv A outer s H E hr => ⟨ts_is_pair K a.CLine, zs_one (z_ret (z_and (z_callB zc_isi (by rfl) t.b_isinstance (by decide +kernel) (za_cons (zv 0) (za_cons (z_ty (by rfl) t.b_tuple (by decide +kernel)) (za_nil)))) (z_one (z_cmp zo_eqI (z_callB zc_len (by rfl) t.b_len (by decide +kernel) (za_cons (zv 0) (za_nil))) (z_int))))), fun _ _ h => rd_is_pair h⟩
theorem bd_is_seat (t : Tx K mg a) : Binds K a.d_is_seat [("thing" : Str), ("seats" : Str)] [] := t.F_is_seat.binds fun _ _ _ _ _ _ us hl => match us, hl with | [_, _], _ => rfl
theorem ok_is_seat (t : Tx K mg a) (tb : LamX.TabB base mg a.cL a.tL) : FnOk P w K mg base CX0 2 a.f_is_seat a.d_is_seat [("thing" : Str), ("seats" : Str)] (upSp K (TT a) (sp_is_seat K a.CLine)) :=
 okP t.F_is_seat sc_is_seat (fun _ _ h => len_is_seat h) (by decide) fun cdv A outer s H E hr => ⟨ts_is_seat K a.CLine, zs_one (z_ret (z_and (z_call (ok_is_integer t tb) (hr.mono (by decide)) (by rfl) t.g_is_integer t.k_is_integer (bd_is_integer t) .nil (fun _ _ => .nil) (za_cons (zv 0) (za_nil))) (z_one (z_chain1 zo_le zo_le (z_int) (zv 0) (zv 1))))), fun _ _ h => rd_is_seat h⟩
theorem bd_trip_named (t : Tx K mg a) : Binds K a.d_trip_named [("trips" : Str), ("name" : Str)] [] := t.F_trip_named.binds fun _ _ _ _ _ _ us hl => match us, hl with | [_, _], _ => rfl
theorem ok_trip_named (t : Tx K mg a) (tb : LamX.TabB base mg a.cL a.tL) : FnOk P w K mg base CX0 1 a.f_trip_named a.d_trip_named [("trips" : Str), ("name" : Str)] (upSp K (TT a) (sp_trip_named K a.CLine)) :=
 okP t.F_trip_named sc_trip_named (fun _ _ h => len_trip_named h) (by decide) fun cdv A outer s H E hr => ⟨ts_trip_named K a.CLine, zs_cons (z_if (zt_not (zt_val (z_callB zc_isi (by rfl) t.b_isinstance (by decide +kernel) (za_cons (zv 1) (za_cons (z_ty (by rfl) t.b_str (by decide +kernel)) (za_nil)))))) (zs_one (z_ret (z_non))) (zs_nil)) (zs_cons (z_for PassesOwn.never rfl (zi_tup (zv 0)) (zg_name (i := 2) sc_trip_named.nd rfl (Or.inl rfl)) (zs_one (z_if (zt_cmp zo_eqI (z_ix (zv 2) (z_int)) (zv 1)) (zs_one (z_ret (zv 2))) (zs_nil)))) (zs_one (z_ret (z_non)))), fun _ _ h => rd_trip_named h⟩
theorem bd_names_trip_and_seat (t : Tx K mg a) : Binds K a.d_names_trip_and_seat [("line" : Str), ("thing" : Str)] [] := t.F_names_trip_and_seat.binds fun _ _ _ _ _ _ us hl => match us, hl with | [_, _], _ => rfl
theorem ok_names_trip_and_seat (t : Tx K mg a) (tb : LamX.TabB base mg a.cL a.tL) : FnOk P w K mg base CX0 3 a.f_names_trip_and_seat a.d_names_trip_and_seat [("line" : Str), ("thing" : Str)] (upSp K (TT a) (sp_names_trip_and_seat K a.CLine)) :=
 okP t.F_names_trip_and_seat sc_names_trip_and_seat (fun _ _ h => len_names_trip_and_seat h) (by decide) fun cdv A outer s H E hr => ⟨ts_names_trip_and_seat K a.CLine, zs_cons (z_if (zt_not (zt_val (z_call (ok_is_pair t tb) (hr.mono (by decide)) (by rfl) t.g_is_pair t.k_is_pair (bd_is_pair t) .nil (fun _ _ => .nil) (za_cons (zv 1) (za_nil))))) (zs_one (z_ret (z_bl))) (zs_nil)) (zs_cons (z_asg (zv 1) (zg_tup (pg_tup rfl (zgs_cons1 (zg_name (i := 2) sc_names_trip_and_seat.nd rfl (Or.inl rfl)) (zgs_cons1 (zg_name (i := 3) sc_names_trip_and_seat.nd rfl (Or.inl rfl)) (zgs_nil)))))) (zs_one (z_ret (z_and (z_cmp zo_isnot (z_call (ok_trip_named t tb) (hr.mono (by decide)) (by rfl) t.g_trip_named t.k_trip_named (bd_trip_named t) .nil (fun _ _ => .nil) (za_cons (z_prop (zv 0) t.cl t.p_trips (ok_Line_trips t tb) (hr.mono (by decide)) (bd_Line_trips t)) (za_cons (zv 2) (za_nil)))) (z_non)) (z_one (z_call (ok_is_seat t tb) (hr.mono (by decide)) (by rfl) t.g_is_seat t.k_is_seat (bd_is_seat t) .nil (fun _ _ => .nil) (za_cons (zv 3) (za_cons (z_prop (zv 0) t.cl t.p_capacity (ok_Line_capacity t tb) (hr.mono (by decide)) (bd_Line_capacity t)) (za_nil))))))))), fun _ _ h => rd_names_trip_and_seat h⟩
theorem bd_meet (t : Tx K mg a) : Binds K a.d_meet [("trip" : Str), ("other" : Str)] [] := t.F_meet.binds fun _ _ _ _ _ _ us hl => match us, hl with | [_, _], _ => rfl
theorem ok_meet (t : Tx K mg a) (tb : LamX.TabB base mg a.cL a.tL) : FnOk P w K mg base CX0 1 a.f_meet a.d_meet [("trip" : Str), ("other" : Str)] (upSp K (TT a) (sp_meet K a.CLine)) :=
 okP t.F_meet sc_meet (fun _ _ h => len_meet h) (by decide) fun cdv A outer s H E hr => ⟨ts_meet K a.CLine, zs_one (z_ret (z_and (z_cmp zo_lt (z_ix (zv 0) (z_int)) (z_ix (zv 1) (z_int))) (z_one (z_cmp zo_lt (z_ix (zv 1) (z_int)) (z_ix (zv 0) (z_int)))))), fun _ _ h => rd_meet h⟩
theorem bd_seats_left (t : Tx K mg a) : Binds K a.d_seats_left [("seats" : Str), ("trip" : Str), ("seated" : Str)] [] := t.F_seats_left.binds fun _ _ _ _ _ _ us hl => match us, hl with | [_, _, _], _ => rfl
theorem ok_seats_left (t : Tx K mg a) (tb : LamX.TabB base mg a.cL a.tL) : FnOk P w K mg base CX0 2 a.f_seats_left a.d_seats_left [("seats" : Str), ("trip" : Str), ("seated" : Str)] (upSpF K (TT a) (sp_seats_left K a.CLine)) :=
 okF t.F_seats_left sc_seats_left (fun _ _ h => len_seats_left h) (by decide) fun cdv A outer s H E hr => ⟨ts_seats_left K a.CLine, zsf_cons (z_set (i := 3) sc_seats_left.nd rfl (Or.inr rfl) (z_val (zf_lc (own := [(("other" : Str), 4), (("seat" : Str), 5)]) (pe_lc (own := [(("other" : Str), 4), (("seat" : Str), 5)]) rfl sc_seats_left.nd (zi_list (zv 2)) (blkOk_by (own := [(("other" : Str), 4), (("seat" : Str), 5)]) (N := N_seats_left) (sc := defScope s_seats_left) (by decide +kernel)) (fun _ _ _ _ _ => zgw_tup (pg_tup rfl (zgsw_cons (pgs_cons (zgw_name (by decide) (pg_name (i := 4) sc_seats_left.nd rfl (Or.inl rfl))) (zgsw_cons (pgs_cons (zgw_name (by decide) (pg_name (i := 5) sc_seats_left.nd rfl (Or.inl rfl))) (zgsw_nil))))))) (fun _ _ _ _ _ => zts_one (zt_val (z_call (ok_meet t tb) (hr.mono (by decide)) (by rfl) t.g_meet t.k_meet (bd_meet t) .nil (fun _ _ => .nil) (za_cons (zv 1) (za_cons (zv 4) (za_nil)))))) (fun _ _ _ _ _ => zv 5))))) (zsf_ret (zf_lc (own := [(("seat" : Str), 5)]) (pe_lc (own := [(("seat" : Str), 5)]) rfl sc_seats_left.nd (zi_range2 (by rfl) t.b_range (z_int) (z_op zo_add (zv 0) (z_int)) rfl rfl (pi_range2 (by rfl) t.b_range (pa_cons (z_int) (pa_cons (z_op zo_add (zv 0) (z_int)) pa_nil)))) (blkOk_by (own := [(("seat" : Str), 5)]) (N := N_seats_left) (sc := defScope s_seats_left) (by decide +kernel)) (fun _ _ _ _ _ => zgw_name (by decide) (pg_name (i := 5) sc_seats_left.nd rfl (Or.inl rfl))) (fun _ _ _ _ _ => zts_one (zt_cmp zo_notInL (zv 5) (zv 3))) (fun _ _ _ _ _ => zv 5)))), fun _ _ h => rd_seats_left h⟩
theorem bd_valid_pairs (t : Tx K mg a) : Binds K a.d_valid_pairs [("line" : Str), ("things" : Str)] [] := t.F_valid_pairs.binds fun _ _ _ _ _ _ us hl => match us, hl with | [_, _], _ => rfl
theorem ok_valid_pairs (t : Tx K mg a) (tb : LamX.TabB base mg a.cL a.tL) : FnOk P w K mg base CX0 4 a.f_valid_pairs a.d_valid_pairs [("line" : Str), ("things" : Str)] (upSp K (TT a) (sp_valid_pairs K a.CLine)) :=
 okP t.F_valid_pairs sc_valid_pairs (fun _ _ h => len_valid_pairs h) (by decide) fun cdv A outer s H E hr => ⟨ts_valid_pairs K a.CLine, zs_cons (z_setF (i := 2) sc_valid_pairs.nd rfl (Or.inl rfl) (zf_lst (za_nil))) (zs_cons (z_for PassesOwn.never rfl (zi_zip (by rfl) t.b_zip (za_cons (z_prop (zv 0) t.cl t.p_trips (ok_Line_trips t tb) (hr.mono (by decide)) (bd_Line_trips t)) (za_cons (zv 1) (za_nil)))) (zg_tup (pg_tup rfl (zgs_cons1 (zg_name (i := 3) sc_valid_pairs.nd rfl (Or.inl rfl)) (zgs_cons1 (zg_name (i := 4) sc_valid_pairs.nd rfl (Or.inl rfl)) (zgs_nil))))) (zs_cons (z_if ((zw_or (zt_not (zt_val (z_call (ok_names_trip_and_seat t tb) (hr.mono (by decide)) (by rfl) t.g_names_trip_and_seat t.k_names_trip_and_seat (bd_names_trip_and_seat t) .nil (fun _ _ => .nil) (za_cons (zv 0) (za_cons (zv 4) (za_nil)))))) (zw_or1 (zt_cmp zo_neI (z_ix (zv 4) (z_int)) (z_ix (zv 3) (z_int))))).pt) (zs_one (z_ret (z_callB zc_len (by rfl) t.b_len (by decide +kernel) (za_cons (zv 2) (za_nil))))) (zs_nil)) (zs_cons (z_if (zt_cmp zo_notInL (z_ix (zv 4) (z_int)) (z_val (z_callFO (ok_seats_left t tb) (hr.mono (by decide)) (by rfl) t.g_seats_left t.k_seats_left (bd_seats_left t) (zo_cons (z_prop (zv 0) t.cl t.p_capacity (ok_Line_capacity t tb) (hr.mono (by decide)) (bd_Line_capacity t)) (zo_cons (zv 3) (zo_last (pv 2))))))) (zs_one (z_ret (z_callB zc_len (by rfl) t.b_len (by decide +kernel) (za_cons (zv 2) (za_nil))))) (zs_nil)) (zs_one (z_app rfl (ps_expr (pe_bm PySem.F.plainAttrs_list PySem.F.slot_list_append PySem.F.type_list_append mt_append (pv 2) (pa_cons (z_tup (za_cons (zv 3) (za_cons (z_ix (zv 4) (z_int)) (za_nil)))) pa_nil)))))))) (zs_one (z_ret (z_callB zc_len (by rfl) t.b_len (by decide +kernel) (za_cons (zv 2) (za_nil)))))), fun _ _ h => rd_valid_pairs h⟩
theorem bd_is_plan (t : Tx K mg a) : Binds K a.d_is_plan [("line" : Str), ("thing" : Str)] [] := t.F_is_plan.binds fun _ _ _ _ _ _ us hl => match us, hl with | [_, _], _ => rfl
theorem kw_is_plan_0_thing_line (t : Tx K mg a) : KwB K a.d_is_plan [("line" : Str), ("thing" : Str)] 0 [("thing" : Str), ("line" : Str)] [1, 0] := by
 obtain ⟨oc, od, kV, doc, pm, an, cdv, ct, osl, e, _, _⟩ := t.F_is_plan.ex
 rw [e]
 exact ⟨fun s us ws _ h1 h2 => match us, ws, h1, h2 with
  | [], [_, _], _, _ => .of_eq rfl, by decide⟩
theorem ok_is_plan (t : Tx K mg a) (tb : LamX.TabB base mg a.cL a.tL) : FnOk P w K mg base CX0 8 a.f_is_plan a.d_is_plan [("line" : Str), ("thing" : Str)] (upSp K (TT a) (sp_is_plan K a.CLine)) :=
 okP t.F_is_plan sc_is_plan (fun _ _ h => len_is_plan h) (by decide) fun cdv A outer s H E hr => ⟨ts_is_plan K a.CLine, zs_cons (z_expr (z_call (ok_check_line t tb) (hr.mono (by decide)) (by rfl) t.g_check_line t.k_check_line (bd_check_line t) .nil (fun _ _ => .nil) (za_cons (zv 0) (za_nil)))) (zs_cons (z_if ((zw_or (zt_not (zt_val (z_callB zc_isi (by rfl) t.b_isinstance (by decide +kernel) (za_cons (zv 1) (za_cons (z_ty (by rfl) t.b_tuple (by decide +kernel)) (za_nil)))))) (zw_or1 (zt_cmp zo_neI (z_callB zc_len (by rfl) t.b_len (by decide +kernel) (za_cons (zv 1) (za_nil))) (z_callB zc_len (by rfl) t.b_len (by decide +kernel) (za_cons (z_prop (zv 0) t.cl t.p_trips (ok_Line_trips t tb) (hr.mono (by decide)) (bd_Line_trips t)) (za_nil)))))).pt) (zs_one (z_ret (z_bl))) (zs_nil)) (zs_one (z_ret (z_cmp zo_eqI (z_call (ok_valid_pairs t tb) (hr.mono (by decide)) (by rfl) t.g_valid_pairs t.k_valid_pairs (bd_valid_pairs t) .nil (fun _ _ => .nil) (za_cons (zv 0) (za_cons (zv 1) (za_nil)))) (z_callB zc_len (by rfl) t.b_len (by decide +kernel) (za_cons (zv 1) (za_nil))))))), fun _ _ h => rd_is_plan h⟩
theorem bd_law_told (t : Tx K mg a) : Binds K a.d_law_told [("_law_board" : Str), ("_law_width" : Str), ("_law_rides_here" : Str), ("_law_spots" : Str)] [] := t.F_law_told.binds fun _ _ _ _ _ _ us hl => match us, hl with | [_, _, _, _], _ => rfl
theorem ok_law_told (t : Tx K mg a) (tb : LamX.TabB base mg a.cL a.tL) : FnG P w K mg base 9 a.f_law_told a.d_law_told [("_law_board" : Str), ("_law_width" : Str), ("_law_rides_here" : Str), ("_law_spots" : Str)] (upSp K (TT a) (sp_law_told K a.CLine)) :=
 okGP t.F_law_told sc_law_told (fun _ _ h => len_law_told h) (by decide) fun cdv A outer s H E hG hr => ⟨ts_law_told K a.CLine, zs_cons (z_set (i := 4) sc_law_told.nd rfl (Or.inl rfl) (z_callB (zc_reprE hG hr.units) (by rfl) t.b_repr (by decide +kernel) (za_cons (zvK 3) (za_nil)))) (zs_cons (z_set (i := 5) sc_law_told.nd rfl (Or.inl rfl) (z_cmp (zo_eq hr.units) (z_call (ok_law_fault t tb) (hr.mono (by decide)) (by rfl) t.g__law_fault t.k__law_fault (bd_law_fault t) .nil (fun _ _ => .nil) (za_cons (zv 1) (za_cons (zv 2) (za_cons (zvK 3) (za_nil))))) (z_lst (za_nil)))) (zs_cons (z_set (i := 6) sc_law_told.nd rfl (Or.inl rfl) (z_lst (za_cons (z_call (ok_is_plan t tb) (hr.mono (by decide)) (by rfl) t.g_is_plan t.k_is_plan (bd_is_plan t) .nil (fun _ _ => .nil) (za_cons (zv 0) (za_cons (zvK 3) (za_nil)))) (za_cons (z_callK0 (pe_callKw0 (ok_is_plan t tb) (hr.mono (by decide)) (by rfl) t.g_is_plan t.k_is_plan (kw_is_plan_0_thing_line t) pass0 (zk_cons (zvK 3) (zk_cons (zv 0) (zk_nil))))) (za_nil))))) (zs_one (z_ret (z_and (z_cmp zo_eqI (z_callB (zc_repr hG hr.units) (by rfl) t.b_repr (by decide +kernel) (za_cons (zv 6) (za_nil))) (z_callB (zc_repr hG hr.units) (by rfl) t.b_repr (by decide +kernel) (za_cons (z_op zo_mulL (z_lst (za_cons (zv 5) (za_nil))) (z_int)) (za_nil)))) (z_one (z_cmp zo_eqI (z_callB (zc_reprE hG hr.units) (by rfl) t.b_repr (by decide +kernel) (za_cons (zvK 3) (za_nil))) (zv 4)))))))), fun _ _ h => rd_law_told h⟩
theorem bd_law_right11 (t : Tx K mg a) : Binds K a.d_law_right11 [("_law_pool_here" : Str)] [] := t.F_law_right11.binds fun _ _ _ _ _ _ us hl => match us, hl with | [_], _ => rfl
theorem ok_law_right11 (t : Tx K mg a) (tb : LamX.TabB base mg a.cL a.tL) : FnG P w K mg base 10 a.f_law_right11 a.d_law_right11 [("_law_pool_here" : Str)] (upSpR K (TT a) (sp_law_right11 K a.CLine)) :=
 okGR (nm := ("_law_pool_here" : Str)) (N := [("_law_width" : Str), ("_law_rides_here" : Str), ("_law_spots" : Str), ("_law_trues" : Str), ("_law_some" : Str), ("_law_wide" : Str), ("_law_others_here" : Str), ("_law_board" : Str), ("_law_ride" : Str), ("_law_word" : Str), ("_law_own" : Str), ("_law_turn" : Str), ("_law_each" : Str)]) (ps := []) t.F_law_right11 sc_law_right11 (fun _ _ _ h => len_law_right11 h) (by decide) fun cdv A outer s H E hG hr => ⟨ts_law_right11 K a.CLine, zs_cons (z_asg (z_callR (ok_law_long_case t tb) (hr.mono (by decide)) (by rfl) t.g__law_long_case t.k__law_long_case (bd_law_long_case t) (pa_cons (pv 0) (za_nil))) (zg_lst (pg_lst rfl (zgs_cons1 (zg_name (i := 1) sc_law_right11.nd rfl (Or.inr rfl)) (zgs_cons1 (zg_name (i := 2) sc_law_right11.nd rfl (Or.inr rfl)) (zgs_nil)))))) (zs_cons (z_set (i := 3) sc_law_right11.nd rfl (Or.inr rfl) (z_callR (ok_law_some_planN t tb) (hr.mono (by decide)) (by rfl) t.g__law_some_plan t.k__law_some_plan (bd_law_some_planN t) (pa_cons (pv 0) (za_cons (zv 1) (za_cons (zv 2) (za_nil)))))) (zs_cons (z_if (zt_cmp zo_is (zv 3) (z_non)) (zs_one (z_set (i := 3) sc_law_right11.nd rfl (Or.inr rfl) (z_callTy zc_tupleK (by rfl) t.b_tuple (by decide +kernel) (za_cons (z_val (zf_lc (own := [(("_law_ride" : Str), 9)]) (pe_lc (own := [(("_law_ride" : Str), 9)]) rfl sc_law_right11.nd (zi_tup (zv 2)) (blkOk_by (own := [(("_law_ride" : Str), 9)]) (N := N_law_right11) (sc := defScope s_law_right11) (by decide +kernel)) (fun _ _ _ _ _ => zgw_name (by decide) (pg_name (i := 9) sc_law_right11.nd rfl (Or.inl rfl))) (fun _ _ _ _ _ => zts_nil) (fun _ _ _ _ _ => z_tup (za_cons (z_ix (zv 9) (z_int)) (za_cons (z_op zo_add (z_int) (z_callR (ok_law_draw t tb) (hr.mono (by decide)) (by rfl) t.g__law_draw t.k__law_draw (bd_law_draw t) (pa_cons (pv 0) (za_cons (zv 1) (za_nil))))) (za_nil))))))) (za_nil))))) (zs_nil)) (zs_cons (z_set (i := 4) sc_law_right11.nd rfl (Or.inl rfl) (z_callTy zc_tuple (by rfl) t.b_tuple (by decide +kernel) (za_cons (z_val (zf_lc (own := [(("_law_word" : Str), 10), (("_law_own" : Str), 11)]) (pe_lc (own := [(("_law_word" : Str), 10), (("_law_own" : Str), 11)]) rfl sc_law_right11.nd (zi_tup (z_wk (zv 3))) (blkOk_by (own := [(("_law_word" : Str), 10), (("_law_own" : Str), 11)]) (N := N_law_right11) (sc := defScope s_law_right11) (by decide +kernel)) (fun _ _ _ _ _ => zgw_tup (pg_tup rfl (zgsw_cons (pgs_cons (zgw_name (by decide) (pg_name (i := 10) sc_law_right11.nd rfl (Or.inl rfl))) (zgsw_cons (pgs_cons (zgw_name (by decide) (pg_name (i := 11) sc_law_right11.nd rfl (Or.inl rfl))) (zgsw_nil))))))) (fun _ _ _ _ _ => zts_nil) (fun _ _ _ _ _ => z_tup (za_cons (zv 10) (za_cons (z_ix (z_lst (za_cons (zv 11) (za_cons (z_bl) (za_nil)))) (z_callTy zc_int1 (by rfl) t.b_int (by decide +kernel) (za_cons (z_cmp zo_eqI (zv 11) (z_int)) (za_nil)))) (za_nil))))))) (za_nil)))) (zs_cons (z_set (i := 5) sc_law_right11.nd rfl (Or.inl rfl) (z_op zo_add (z_lst (za_cons (zv 3) (za_cons (zv 4) (za_cons (zv 3) (za_nil))))) (z_val (zf_lc (own := [(("_law_turn" : Str), 12)]) (pe_lc (own := [(("_law_turn" : Str), 12)]) rfl sc_law_right11.nd (zi_range1 (by rfl) t.b_range (z_int)) (blkOk_by (own := [(("_law_turn" : Str), 12)]) (N := N_law_right11) (sc := defScope s_law_right11) (by decide +kernel)) (fun _ _ _ _ _ => zgw_name (by decide) (pg_name (i := 12) sc_law_right11.nd rfl (Or.inl rfl))) (fun _ _ _ _ _ => zts_nil) (fun _ _ _ _ _ => z_callR (ok_law_no_plan t tb) (hr.mono (by decide)) (by rfl) t.g__law_no_plan t.k__law_no_plan (bd_law_no_plan t) (pa_cons (pv 0) (za_cons (zv 1) (za_cons (zv 2) (za_cons (zv 3) (za_nil))))))))))) (zs_cons (z_for PassesOwn.never rfl (zi_list (z_callR (ok_law_others t tb) (hr.mono (by decide)) (by rfl) t.g__law_others t.k__law_others (bd_law_others t) (pa_cons (pv 0) (za_cons (zv 1) (za_cons (zv 2) (za_nil)))))) (zg_lst (pg_lst rfl (zgs_cons1 (zg_name (i := 6) sc_law_right11.nd rfl (Or.inr rfl)) (zgs_cons1 (zg_name (i := 7) sc_law_right11.nd rfl (Or.inr rfl)) (zgs_nil))))) (zs_cons (z_set (i := 8) sc_law_right11.nd rfl (Or.inr rfl) (z_new t.mkL (ok_Line_init t tb) (hr.mono (by decide)) (by rfl) t.g_Line (bd_Line_init t) .nil (fun _ _ => .nil) (za_cons (zv 6) (za_cons (zv 7) (za_nil))))) (zs_one (z_if (zt_not (zt_val (z_callB (zc_all rfl) (by rfl) t.b_all (by decide +kernel) (za_cons (z_val (zf_lc (own := [(("_law_each" : Str), 13)]) (pe_lc (own := [(("_law_each" : Str), 13)]) rfl sc_law_right11.nd (zi_list (zv 5)) (blkOk_by (own := [(("_law_each" : Str), 13)]) (N := N_law_right11) (sc := defScope s_law_right11) (by decide +kernel)) (fun _ _ _ _ _ => zgw_name (by decide) (pg_name (i := 13) sc_law_right11.nd rfl (Or.inl rfl))) (fun _ _ _ _ _ => zts_nil) (fun _ _ _ _ _ => z_callG (ok_law_told t tb) hG (hr.mono (by decide)) (by rfl) t.g__law_told t.k__law_told (bd_law_told t) .nil (fun _ _ => .nil) (za_cons (zv 8) (za_cons (zv 6) (za_cons (zv 7) (za_cons (zv 13) (za_nil))))))))) (za_nil))))) (zs_one (z_ret (z_bl))) (zs_nil))))) (zs_one (z_ret (z_bl)))))))), fun _ _ _ h => rd_law_right11 h⟩
theorem ok_law (t : Tx K mg a) (tb : LamX.TabB base mg a.cL a.tL) : FnG P w K mg base 11 a.f_law a.d_law [("_law_script" : Str)] (upSp K (TT a) (sp_law K a.CLine)) :=
 okGP t.F_law sc_law (fun _ _ h => len_law h) (by decide) fun cdv A outer s H E hG hr => ⟨ts_law K a.CLine, zs_cons (z_set (i := 1) sc_law.nd rfl (Or.inl rfl) (z_new t.mkL (ok_Line_init t tb) (hr.mono (by decide)) (by rfl) t.g_Line (bd_Line_init t) .nil (fun _ _ => .nil) (za_cons (z_int) (za_cons (z_tup (za_cons (z_tup (za_cons (z_str) (za_cons (z_int) (za_cons (z_int) (za_nil))))) (za_cons (z_tup (za_cons (z_str) (za_cons (z_int) (za_cons (z_int) (za_nil))))) (za_nil)))) (za_nil))))) (zs_cons (z_set (i := 2) sc_law.nd rfl (Or.inl rfl) (z_lst (za_cons (z_call (ok_is_plan t tb) (hr.mono (by decide)) (by rfl) t.g_is_plan t.k_is_plan (bd_is_plan t) .nil (fun _ _ => .nil) (za_cons (zv 1) (za_cons (z_tup (za_cons (z_tup (za_cons (z_str) (za_cons (z_int) (za_nil)))) (za_cons (z_tup (za_cons (z_str) (za_cons (z_int) (za_nil)))) (za_nil)))) (za_nil)))) (za_cons (z_call (ok_is_plan t tb) (hr.mono (by decide)) (by rfl) t.g_is_plan t.k_is_plan (bd_is_plan t) .nil (fun _ _ => .nil) (za_cons (zv 1) (za_cons (z_tup (za_cons (z_tup (za_cons (z_str) (za_cons (z_int) (za_nil)))) (za_cons (z_tup (za_cons (z_str) (za_cons (z_int) (za_nil)))) (za_nil)))) (za_nil)))) (za_cons (z_call (ok_is_plan t tb) (hr.mono (by decide)) (by rfl) t.g_is_plan t.k_is_plan (bd_is_plan t) .nil (fun _ _ => .nil) (za_cons (zv 1) (za_cons (z_tup (za_nil)) (za_nil)))) (za_nil)))))) (zs_cons (z_if ((zw_or (zt_cmp (zo_ne hr.units) (zv 2) (z_lst (za_cons (z_bl) (za_cons (z_bl) (za_cons (z_bl) (za_nil)))))) (zw_or1 (zt_cmp zo_isnotT (z_call (ok_is_plan t tb) (hr.mono (by decide)) (by rfl) t.g_is_plan t.k_is_plan (bd_is_plan t) .nil (fun _ _ => .nil) (za_cons (z_new t.mkL (ok_Line_init t tb) (hr.mono (by decide)) (by rfl) t.g_Line (b1_Line_init t).choose_spec.2 (b1_Line_init t).choose_spec.1 (fun _ _ => t.dfl) (za_cons (z_int) (za_nil))) (za_cons (z_tup (za_nil)) (za_nil)))) (z_bl)))).pt) (zs_one (z_ret (z_bl))) (zs_nil)) (zs_one (z_ret (z_callB (zc_all rfl) (by rfl) t.b_all (by decide +kernel) (za_cons (z_val (zf_lc (own := [(("_law_k" : Str), 3)]) (pe_lc (own := [(("_law_k" : Str), 3)]) rfl sc_law.nd (zi_range1 (by rfl) t.b_range (z_callB (zc_max2 rfl) (by rfl) t.b_max (by decide +kernel) (za_cons (z_int) (za_cons (z_callB (zc_min2 rfl) (by rfl) t.b_min (by decide +kernel) (za_cons (z_callB zc_len (by rfl) t.b_len (by decide +kernel) (za_cons (zv 0) (za_nil))) (za_cons (z_int) (za_nil)))) (za_nil))))) (blkOk_by (own := [(("_law_k" : Str), 3)]) (N := N_law) (sc := defScope s_law) (by decide +kernel)) (fun _ _ _ _ _ => zgw_name (by decide) (pg_name (i := 3) sc_law.nd rfl (Or.inl rfl))) (fun _ _ _ _ _ => zts_nil) (fun _ _ _ _ _ => z_callRFG (ok_law_right11 t tb) hG (hr.mono (by decide)) (by rfl) t.g__law_right t.k__law_right (bd_law_right11 t) (pa_cons (z_callF (ok_law_pool t tb) (hr.mono (by decide)) (by rfl) t.g__law_pool t.k__law_pool (bd_law_pool t) (za_cons (z_call (ok_law_cell t tb) (hr.mono (by decide)) (by rfl) t.g__law_cell t.k__law_cell (bd_law_cell t) .nil (fun _ _ => .nil) (za_cons (zv 0) (za_cons (zv 3) (za_nil)))) (za_nil))) (za_nil)))))) (za_nil))))))), fun _ _ h => rd_law h⟩
end
end ZK
namespace ZK
open PySem PySem.Spec L2 Z
open PyProof.Rows hiding St
theorem law_mk {l : PySem.W.OpenLaw} {w : World} {K : PySem.W.Frag} {h : Heap} {mg : Str → Option Value} {fa CLine cL tL eL qT qC TD f_is_integer f_check_seats f_is_later f_is_station f_is_trip_name f_is_trip f_valid_beginning f_Line_init f_law_cell f_law_pool f_law_draw f_law_loadS f_law_peakS f_law_far f_law_rides f_law_words f_law_long_case f_law_no_plan f_law_others f_law_by_start f_law_meet f_law_choices f_law_flat f_law_drawnN f_law_product f_law_sizes f_law_spots_at f_law_some_planN f_law_fault f_Line_trips f_check_line f_Line_capacity f_is_pair f_is_seat f_trip_named f_names_trip_and_seat f_meet f_seats_left f_valid_pairs f_is_plan f_law_told f_law_right11 f_law : Addr}  {rT : List Value} {rC : List Value}
  {oc_is_integer kV_is_integer dc_is_integer pm_is_integer cd_is_integer ct_is_integer : Value} {od_is_integer an_is_integer : Option Addr} {sl_is_integer : Array (Option Value)} {oc_check_seats kV_check_seats dc_check_seats pm_check_seats cd_check_seats ct_check_seats : Value} {od_check_seats an_check_seats : Option Addr} {sl_check_seats : Array (Option Value)} {oc_is_later kV_is_later dc_is_later pm_is_later cd_is_later ct_is_later : Value} {od_is_later an_is_later : Option Addr} {sl_is_later : Array (Option Value)} {oc_is_station kV_is_station dc_is_station pm_is_station cd_is_station ct_is_station : Value} {od_is_station an_is_station : Option Addr} {sl_is_station : Array (Option Value)} {oc_is_trip_name kV_is_trip_name dc_is_trip_name pm_is_trip_name cd_is_trip_name ct_is_trip_name : Value} {od_is_trip_name an_is_trip_name : Option Addr} {sl_is_trip_name : Array (Option Value)} {oc_is_trip kV_is_trip dc_is_trip pm_is_trip cd_is_trip ct_is_trip : Value} {od_is_trip an_is_trip : Option Addr} {sl_is_trip : Array (Option Value)} {oc_valid_beginning kV_valid_beginning dc_valid_beginning pm_valid_beginning cd_valid_beginning ct_valid_beginning : Value} {od_valid_beginning an_valid_beginning : Option Addr} {sl_valid_beginning : Array (Option Value)} {oc_Line_init kV_Line_init dc_Line_init pm_Line_init  ct_Line_init : Value} {od_Line_init an_Line_init : Option Addr} {sl_Line_init : Array (Option Value)} {oTD oEL oCL : Option Addr} {nTD nEL : Nat} {slT slE slC : Array (Option Value)} {cvs : Array Value} {oc_law_cell kV_law_cell dc_law_cell pm_law_cell cd_law_cell ct_law_cell : Value} {od_law_cell an_law_cell : Option Addr} {sl_law_cell : Array (Option Value)} {oc_law_pool kV_law_pool dc_law_pool pm_law_pool cd_law_pool ct_law_pool : Value} {od_law_pool an_law_pool : Option Addr} {sl_law_pool : Array (Option Value)} {oc_law_draw kV_law_draw dc_law_draw pm_law_draw cd_law_draw ct_law_draw : Value} {od_law_draw an_law_draw : Option Addr} {sl_law_draw : Array (Option Value)} {oc_law_loadS kV_law_loadS dc_law_loadS pm_law_loadS cd_law_loadS ct_law_loadS : Value} {od_law_loadS an_law_loadS : Option Addr} {sl_law_loadS : Array (Option Value)} {oc_law_peakS kV_law_peakS dc_law_peakS pm_law_peakS cd_law_peakS ct_law_peakS : Value} {od_law_peakS an_law_peakS : Option Addr} {sl_law_peakS : Array (Option Value)} {oc_law_far kV_law_far dc_law_far pm_law_far cd_law_far ct_law_far : Value} {od_law_far an_law_far : Option Addr} {sl_law_far : Array (Option Value)} {oc_law_rides kV_law_rides dc_law_rides pm_law_rides cd_law_rides ct_law_rides : Value} {od_law_rides an_law_rides : Option Addr} {sl_law_rides : Array (Option Value)} {oc_law_words kV_law_words dc_law_words pm_law_words cd_law_words ct_law_words : Value} {od_law_words an_law_words : Option Addr} {sl_law_words : Array (Option Value)} {oc_law_long_case kV_law_long_case dc_law_long_case pm_law_long_case cd_law_long_case ct_law_long_case : Value} {od_law_long_case an_law_long_case : Option Addr} {sl_law_long_case : Array (Option Value)} {oc_law_no_plan kV_law_no_plan dc_law_no_plan pm_law_no_plan cd_law_no_plan ct_law_no_plan : Value} {od_law_no_plan an_law_no_plan : Option Addr} {sl_law_no_plan : Array (Option Value)} {oc_law_others kV_law_others dc_law_others pm_law_others cd_law_others ct_law_others : Value} {od_law_others an_law_others : Option Addr} {sl_law_others : Array (Option Value)} {oc_law_by_start kV_law_by_start dc_law_by_start pm_law_by_start cd_law_by_start ct_law_by_start : Value} {od_law_by_start an_law_by_start : Option Addr} {sl_law_by_start : Array (Option Value)} {oc_law_meet kV_law_meet dc_law_meet pm_law_meet cd_law_meet ct_law_meet : Value} {od_law_meet an_law_meet : Option Addr} {sl_law_meet : Array (Option Value)} {oc_law_choices kV_law_choices dc_law_choices pm_law_choices cd_law_choices ct_law_choices : Value} {od_law_choices an_law_choices : Option Addr} {sl_law_choices : Array (Option Value)} {oc_law_flat kV_law_flat dc_law_flat pm_law_flat cd_law_flat ct_law_flat : Value} {od_law_flat an_law_flat : Option Addr} {sl_law_flat : Array (Option Value)} {oc_law_drawnN kV_law_drawnN dc_law_drawnN pm_law_drawnN cd_law_drawnN ct_law_drawnN : Value} {od_law_drawnN an_law_drawnN : Option Addr} {sl_law_drawnN : Array (Option Value)} {oc_law_product kV_law_product dc_law_product pm_law_product cd_law_product ct_law_product : Value} {od_law_product an_law_product : Option Addr} {sl_law_product : Array (Option Value)} {oc_law_sizes kV_law_sizes dc_law_sizes pm_law_sizes cd_law_sizes ct_law_sizes : Value} {od_law_sizes an_law_sizes : Option Addr} {sl_law_sizes : Array (Option Value)} {oc_law_spots_at kV_law_spots_at dc_law_spots_at pm_law_spots_at cd_law_spots_at ct_law_spots_at : Value} {od_law_spots_at an_law_spots_at : Option Addr} {sl_law_spots_at : Array (Option Value)} {oc_law_some_planN kV_law_some_planN dc_law_some_planN pm_law_some_planN cd_law_some_planN ct_law_some_planN : Value} {od_law_some_planN an_law_some_planN : Option Addr} {sl_law_some_planN : Array (Option Value)} {oc_law_fault kV_law_fault dc_law_fault pm_law_fault cd_law_fault ct_law_fault : Value} {od_law_fault an_law_fault : Option Addr} {sl_law_fault : Array (Option Value)} {oc_Line_trips kV_Line_trips dc_Line_trips pm_Line_trips cd_Line_trips ct_Line_trips : Value} {od_Line_trips an_Line_trips : Option Addr} {sl_Line_trips : Array (Option Value)} {oc_check_line kV_check_line dc_check_line pm_check_line cd_check_line ct_check_line : Value} {od_check_line an_check_line : Option Addr} {sl_check_line : Array (Option Value)} {oc_Line_capacity kV_Line_capacity dc_Line_capacity pm_Line_capacity cd_Line_capacity ct_Line_capacity : Value} {od_Line_capacity an_Line_capacity : Option Addr} {sl_Line_capacity : Array (Option Value)} {oc_is_pair kV_is_pair dc_is_pair pm_is_pair cd_is_pair ct_is_pair : Value} {od_is_pair an_is_pair : Option Addr} {sl_is_pair : Array (Option Value)} {oc_is_seat kV_is_seat dc_is_seat pm_is_seat cd_is_seat ct_is_seat : Value} {od_is_seat an_is_seat : Option Addr} {sl_is_seat : Array (Option Value)} {oc_trip_named kV_trip_named dc_trip_named pm_trip_named cd_trip_named ct_trip_named : Value} {od_trip_named an_trip_named : Option Addr} {sl_trip_named : Array (Option Value)} {oc_names_trip_and_seat kV_names_trip_and_seat dc_names_trip_and_seat pm_names_trip_and_seat cd_names_trip_and_seat ct_names_trip_and_seat : Value} {od_names_trip_and_seat an_names_trip_and_seat : Option Addr} {sl_names_trip_and_seat : Array (Option Value)} {oc_meet kV_meet dc_meet pm_meet cd_meet ct_meet : Value} {od_meet an_meet : Option Addr} {sl_meet : Array (Option Value)} {oc_seats_left kV_seats_left dc_seats_left pm_seats_left cd_seats_left ct_seats_left : Value} {od_seats_left an_seats_left : Option Addr} {sl_seats_left : Array (Option Value)} {oc_valid_pairs kV_valid_pairs dc_valid_pairs pm_valid_pairs cd_valid_pairs ct_valid_pairs : Value} {od_valid_pairs an_valid_pairs : Option Addr} {sl_valid_pairs : Array (Option Value)} {oc_is_plan kV_is_plan dc_is_plan pm_is_plan cd_is_plan ct_is_plan : Value} {od_is_plan an_is_plan : Option Addr} {sl_is_plan : Array (Option Value)} {oc_law_told kV_law_told dc_law_told pm_law_told cd_law_told ct_law_told : Value} {od_law_told an_law_told : Option Addr} {sl_law_told : Array (Option Value)} {oc_law_right11 kV_law_right11 dc_law_right11 pm_law_right11 cd_law_right11 ct_law_right11 : Value} {od_law_right11 an_law_right11 : Option Addr} {sl_law_right11 : Array (Option Value)} {oc_law kV_law dc_law pm_law cd_law ct_law : Value} {od_law an_law : Option Addr} {sl_law : Array (Option Value)} {tv_LETTERS : Tok} {tv_LONGEST_NAME : Tok} {tv_MAX_SEATS : Tok} {tv_MAX_TRIPS : Tok}
  (X : K.In h) (G : h.Ns mainGlobals mg) (hfa : mg "law" = some (.ref fa))
  (hC : PySem.W.nsIn K mainGlobals "Line" = some (some (.ref CLine)))
  (c1 : PySem.W.plainGet K CLine Str.empty = true)
  (c2 : PySem.W.hasDictIn K CLine = true)
  (c3 : PySem.W.plainOver K CLine = true)
  (c4 : PySem.W.findIn K (.ref CLine) "__setattr__" = some (some (.builtin "object.__setattr__")))
  (t1 : PySem.W.findIn K (.ref CLine) "__class__" = some (some (.builtin "object.__class__")))
  (t2 : PySem.W.specialIn K (.builtin "object.__class__") "__get__" = some (some (.builtin "getset_descriptor.__get__")))
  (t3 : PySem.W.takesIn K (.builtin "object.__class__") = some true)
  (t4 : PySem.W.mroIn K CLine (.type "object") = some true)
  (t5 : PySem.W.kitOne K (.ref CLine) (.ref CLine) = some true)
  (ty0 : PySem.W.kitOne K (.ref CLine) (.type "int") = some false)
  (ty1 : PySem.W.kitOne K (.ref CLine) (.type "bool") = some false)
  (ty2 : PySem.W.kitOne K (.ref CLine) (.type "str") = some false)
  (ty3 : PySem.W.kitOne K (.ref CLine) (.type "tuple") = some false)
  (ty4 : PySem.W.kitOne K (.ref CLine) (.type "list") = some false)
  (ty5 : PySem.W.kitOne K (.ref CLine) (.type "dict") = some false)
  (no0 : PySem.W.kitOne K (.type "NoneType") (.ref CLine) = some false)
  (no1 : PySem.W.kitOne K (.type "int") (.ref CLine) = some false)
  (no2 : PySem.W.kitOne K (.type "bool") (.ref CLine) = some false)
  (no3 : PySem.W.kitOne K (.type "str") (.ref CLine) = some false)
  (no4 : PySem.W.kitOne K (.type "tuple") (.ref CLine) = some false)
  (no5 : PySem.W.kitOne K (.type "list") (.ref CLine) = some false)
  (no6 : PySem.W.kitOne K (.type "dict") (.ref CLine) = some false)
  (m1 : PySem.W.makesIn K CLine = true)
  (m2 : PySem.W.findIn K (.ref CLine) "__init__" = some (some (.ref f_Line_init)))
  (m3 : PySem.W.isFn K (.ref f_Line_init) = true)
  (m4 : PySem.W.keepIn K (.ref CLine) = true)
  (u1 : PySem.W.findIn K (.ref CLine) "capacity" = some (some (.ref qC)))
  (u2 : PySem.W.specialIn K (.ref qC) "__get__" = some (some (.builtin "property.__get__")))
  (u3 : PySem.W.takesIn K (.ref qC) = some true)
  (u4 : PySem.W.recIn K qC "property" = some (.ref f_Line_capacity :: rC))
  (q1 : PySem.W.findIn K (.ref CLine) "trips" = some (some (.ref qT)))
  (q2 : PySem.W.specialIn K (.ref qT) "__get__" = some (some (.builtin "property.__get__")))
  (q3 : PySem.W.takesIn K (.ref qT) = some true)
  (q4 : PySem.W.recIn K qT "property" = some (.ref f_Line_trips :: rT))
  (n_seat_count : PySem.W.findIn K (.ref CLine) "seat_count" = some none)
  (n_rows : PySem.W.findIn K (.ref CLine) "rows" = some none)
  (n_queue : PySem.W.findIn K (.ref CLine) "queue" = some none)
  (a_is_integer : PySem.W.nsIn K mainGlobals "is_integer" = some (some (.ref f_is_integer)))
  (l_is_integer : K.lookup f_is_integer = some ⟨oc_is_integer, od_is_integer, .func (PySem.W.fnOf "is_integer" "is_integer" (defArgs s_is_integer) (defBody s_is_integer) (defScope s_is_integer) .none kV_is_integer dc_is_integer pm_is_integer an_is_integer cd_is_integer ct_is_integer), sl_is_integer⟩)
  (e_is_integer : PySem.W.codeIn K cd_is_integer "is_integer" = true)
  (k_is_integer : PySem.W.keepIn K (.ref f_is_integer) = true)
  (a_check_seats : PySem.W.nsIn K mainGlobals "check_seats" = some (some (.ref f_check_seats)))
  (l_check_seats : K.lookup f_check_seats = some ⟨oc_check_seats, od_check_seats, .func (PySem.W.fnOf "check_seats" "check_seats" (defArgs s_check_seats) (defBody s_check_seats) (defScope s_check_seats) .none kV_check_seats dc_check_seats pm_check_seats an_check_seats cd_check_seats ct_check_seats), sl_check_seats⟩)
  (e_check_seats : PySem.W.codeIn K cd_check_seats "check_seats" = true)
  (k_check_seats : PySem.W.keepIn K (.ref f_check_seats) = true)
  (a_is_later : PySem.W.nsIn K mainGlobals "is_later" = some (some (.ref f_is_later)))
  (l_is_later : K.lookup f_is_later = some ⟨oc_is_later, od_is_later, .func (PySem.W.fnOf "is_later" "is_later" (defArgs s_is_later) (defBody s_is_later) (defScope s_is_later) .none kV_is_later dc_is_later pm_is_later an_is_later cd_is_later ct_is_later), sl_is_later⟩)
  (e_is_later : PySem.W.codeIn K cd_is_later "is_later" = true)
  (k_is_later : PySem.W.keepIn K (.ref f_is_later) = true)
  (a_is_station : PySem.W.nsIn K mainGlobals "is_station" = some (some (.ref f_is_station)))
  (l_is_station : K.lookup f_is_station = some ⟨oc_is_station, od_is_station, .func (PySem.W.fnOf "is_station" "is_station" (defArgs s_is_station) (defBody s_is_station) (defScope s_is_station) .none kV_is_station dc_is_station pm_is_station an_is_station cd_is_station ct_is_station), sl_is_station⟩)
  (e_is_station : PySem.W.codeIn K cd_is_station "is_station" = true)
  (k_is_station : PySem.W.keepIn K (.ref f_is_station) = true)
  (a_is_trip_name : PySem.W.nsIn K mainGlobals "is_trip_name" = some (some (.ref f_is_trip_name)))
  (l_is_trip_name : K.lookup f_is_trip_name = some ⟨oc_is_trip_name, od_is_trip_name, .func (PySem.W.fnOf "is_trip_name" "is_trip_name" (defArgs s_is_trip_name) (defBody s_is_trip_name) (defScope s_is_trip_name) .none kV_is_trip_name dc_is_trip_name pm_is_trip_name an_is_trip_name cd_is_trip_name ct_is_trip_name), sl_is_trip_name⟩)
  (e_is_trip_name : PySem.W.codeIn K cd_is_trip_name "is_trip_name" = true)
  (k_is_trip_name : PySem.W.keepIn K (.ref f_is_trip_name) = true)
  (a_is_trip : PySem.W.nsIn K mainGlobals "is_trip" = some (some (.ref f_is_trip)))
  (l_is_trip : K.lookup f_is_trip = some ⟨oc_is_trip, od_is_trip, .func (PySem.W.fnOf "is_trip" "is_trip" (defArgs s_is_trip) (defBody s_is_trip) (defScope s_is_trip) .none kV_is_trip dc_is_trip pm_is_trip an_is_trip cd_is_trip ct_is_trip), sl_is_trip⟩)
  (e_is_trip : PySem.W.codeIn K cd_is_trip "is_trip" = true)
  (k_is_trip : PySem.W.keepIn K (.ref f_is_trip) = true)
  (a_valid_beginning : PySem.W.nsIn K mainGlobals "valid_beginning" = some (some (.ref f_valid_beginning)))
  (l_valid_beginning : K.lookup f_valid_beginning = some ⟨oc_valid_beginning, od_valid_beginning, .func (PySem.W.fnOf "valid_beginning" "valid_beginning" (defArgs s_valid_beginning) (defBody s_valid_beginning) (defScope s_valid_beginning) .none kV_valid_beginning dc_valid_beginning pm_valid_beginning an_valid_beginning cd_valid_beginning ct_valid_beginning), sl_valid_beginning⟩)
  (e_valid_beginning : PySem.W.codeIn K cd_valid_beginning "valid_beginning" = true)
  (k_valid_beginning : PySem.W.keepIn K (.ref f_valid_beginning) = true)
  (l_Line_init : K.lookup f_Line_init = some ⟨oc_Line_init, od_Line_init, .func (PySem.W.fnOf "__init__" "Line.__init__" (defArgs s_Line_init) (defBody s_Line_init) (defScope s_Line_init) (.ref TD) kV_Line_init dc_Line_init pm_Line_init an_Line_init (.ref cL) ct_Line_init), sl_Line_init⟩)
  (e_Line_init : PySem.W.codeIn K (.ref cL) "Line.__init__" = true)
  (k_Line_init : PySem.W.keepIn K (.ref f_Line_init) = true)
  (w1 : K.lookup TD = some ⟨.type "tuple", oTD, .seq #[.ref eL] nTD, slT⟩)
  (w2 : K.lookup eL = some ⟨.type "tuple", oEL, .seq #[] nEL, slE⟩)
  (w3 : K.lookup cL = some ⟨.type "code", oCL, .fields cvs, slC⟩)
  (w4 : (cvs[11]? : Option Value) = some (.ref tL))
  (w5 : PySem.W.codeHdIn K cL tL = true)
  (w6 : K.lookup tL = none)
  (a_law_cell : PySem.W.nsIn K mainGlobals "_law_cell" = some (some (.ref f_law_cell)))
  (l_law_cell : K.lookup f_law_cell = some ⟨oc_law_cell, od_law_cell, .func (PySem.W.fnOf "_law_cell" "_law_cell" (defArgs s_law_cell) (defBody s_law_cell) (defScope s_law_cell) .none kV_law_cell dc_law_cell pm_law_cell an_law_cell cd_law_cell ct_law_cell), sl_law_cell⟩)
  (e_law_cell : PySem.W.codeIn K cd_law_cell "_law_cell" = true)
  (k_law_cell : PySem.W.keepIn K (.ref f_law_cell) = true)
  (a_law_pool : PySem.W.nsIn K mainGlobals "_law_pool" = some (some (.ref f_law_pool)))
  (l_law_pool : K.lookup f_law_pool = some ⟨oc_law_pool, od_law_pool, .func (PySem.W.fnOf "_law_pool" "_law_pool" (defArgs s_law_pool) (defBody s_law_pool) (defScope s_law_pool) .none kV_law_pool dc_law_pool pm_law_pool an_law_pool cd_law_pool ct_law_pool), sl_law_pool⟩)
  (e_law_pool : PySem.W.codeIn K cd_law_pool "_law_pool" = true)
  (k_law_pool : PySem.W.keepIn K (.ref f_law_pool) = true)
  (a_law_draw : PySem.W.nsIn K mainGlobals "_law_draw" = some (some (.ref f_law_draw)))
  (l_law_draw : K.lookup f_law_draw = some ⟨oc_law_draw, od_law_draw, .func (PySem.W.fnOf "_law_draw" "_law_draw" (defArgs s_law_draw) (defBody s_law_draw) (defScope s_law_draw) .none kV_law_draw dc_law_draw pm_law_draw an_law_draw cd_law_draw ct_law_draw), sl_law_draw⟩)
  (e_law_draw : PySem.W.codeIn K cd_law_draw "_law_draw" = true)
  (k_law_draw : PySem.W.keepIn K (.ref f_law_draw) = true)
  (a_law_loadS : PySem.W.nsIn K mainGlobals "_law_load" = some (some (.ref f_law_loadS)))
  (l_law_loadS : K.lookup f_law_loadS = some ⟨oc_law_loadS, od_law_loadS, .func (PySem.W.fnOf "_law_load" "_law_load" (defArgs s_law_loadS) (defBody s_law_loadS) (defScope s_law_loadS) .none kV_law_loadS dc_law_loadS pm_law_loadS an_law_loadS cd_law_loadS ct_law_loadS), sl_law_loadS⟩)
  (e_law_loadS : PySem.W.codeIn K cd_law_loadS "_law_load" = true)
  (k_law_loadS : PySem.W.keepIn K (.ref f_law_loadS) = true)
  (a_law_peakS : PySem.W.nsIn K mainGlobals "_law_peak" = some (some (.ref f_law_peakS)))
  (l_law_peakS : K.lookup f_law_peakS = some ⟨oc_law_peakS, od_law_peakS, .func (PySem.W.fnOf "_law_peak" "_law_peak" (defArgs s_law_peakS) (defBody s_law_peakS) (defScope s_law_peakS) .none kV_law_peakS dc_law_peakS pm_law_peakS an_law_peakS cd_law_peakS ct_law_peakS), sl_law_peakS⟩)
  (e_law_peakS : PySem.W.codeIn K cd_law_peakS "_law_peak" = true)
  (k_law_peakS : PySem.W.keepIn K (.ref f_law_peakS) = true)
  (a_law_far : PySem.W.nsIn K mainGlobals "_law_far" = some (some (.ref f_law_far)))
  (l_law_far : K.lookup f_law_far = some ⟨oc_law_far, od_law_far, .func (PySem.W.fnOf "_law_far" "_law_far" (defArgs s_law_far) (defBody s_law_far) (defScope s_law_far) .none kV_law_far dc_law_far pm_law_far an_law_far cd_law_far ct_law_far), sl_law_far⟩)
  (e_law_far : PySem.W.codeIn K cd_law_far "_law_far" = true)
  (k_law_far : PySem.W.keepIn K (.ref f_law_far) = true)
  (a_law_rides : PySem.W.nsIn K mainGlobals "_law_rides" = some (some (.ref f_law_rides)))
  (l_law_rides : K.lookup f_law_rides = some ⟨oc_law_rides, od_law_rides, .func (PySem.W.fnOf "_law_rides" "_law_rides" (defArgs s_law_rides) (defBody s_law_rides) (defScope s_law_rides) .none kV_law_rides dc_law_rides pm_law_rides an_law_rides cd_law_rides ct_law_rides), sl_law_rides⟩)
  (e_law_rides : PySem.W.codeIn K cd_law_rides "_law_rides" = true)
  (k_law_rides : PySem.W.keepIn K (.ref f_law_rides) = true)
  (a_law_words : PySem.W.nsIn K mainGlobals "_law_words" = some (some (.ref f_law_words)))
  (l_law_words : K.lookup f_law_words = some ⟨oc_law_words, od_law_words, .func (PySem.W.fnOf "_law_words" "_law_words" (defArgs s_law_words) (defBody s_law_words) (defScope s_law_words) .none kV_law_words dc_law_words pm_law_words an_law_words cd_law_words ct_law_words), sl_law_words⟩)
  (e_law_words : PySem.W.codeIn K cd_law_words "_law_words" = true)
  (k_law_words : PySem.W.keepIn K (.ref f_law_words) = true)
  (a_law_long_case : PySem.W.nsIn K mainGlobals "_law_long_case" = some (some (.ref f_law_long_case)))
  (l_law_long_case : K.lookup f_law_long_case = some ⟨oc_law_long_case, od_law_long_case, .func (PySem.W.fnOf "_law_long_case" "_law_long_case" (defArgs s_law_long_case) (defBody s_law_long_case) (defScope s_law_long_case) .none kV_law_long_case dc_law_long_case pm_law_long_case an_law_long_case cd_law_long_case ct_law_long_case), sl_law_long_case⟩)
  (e_law_long_case : PySem.W.codeIn K cd_law_long_case "_law_long_case" = true)
  (k_law_long_case : PySem.W.keepIn K (.ref f_law_long_case) = true)
  (a_law_no_plan : PySem.W.nsIn K mainGlobals "_law_no_plan" = some (some (.ref f_law_no_plan)))
  (l_law_no_plan : K.lookup f_law_no_plan = some ⟨oc_law_no_plan, od_law_no_plan, .func (PySem.W.fnOf "_law_no_plan" "_law_no_plan" (defArgs s_law_no_plan) (defBody s_law_no_plan) (defScope s_law_no_plan) .none kV_law_no_plan dc_law_no_plan pm_law_no_plan an_law_no_plan cd_law_no_plan ct_law_no_plan), sl_law_no_plan⟩)
  (e_law_no_plan : PySem.W.codeIn K cd_law_no_plan "_law_no_plan" = true)
  (k_law_no_plan : PySem.W.keepIn K (.ref f_law_no_plan) = true)
  (a_law_others : PySem.W.nsIn K mainGlobals "_law_others" = some (some (.ref f_law_others)))
  (l_law_others : K.lookup f_law_others = some ⟨oc_law_others, od_law_others, .func (PySem.W.fnOf "_law_others" "_law_others" (defArgs s_law_others) (defBody s_law_others) (defScope s_law_others) .none kV_law_others dc_law_others pm_law_others an_law_others cd_law_others ct_law_others), sl_law_others⟩)
  (e_law_others : PySem.W.codeIn K cd_law_others "_law_others" = true)
  (k_law_others : PySem.W.keepIn K (.ref f_law_others) = true)
  (a_law_by_start : PySem.W.nsIn K mainGlobals "_law_by_start" = some (some (.ref f_law_by_start)))
  (l_law_by_start : K.lookup f_law_by_start = some ⟨oc_law_by_start, od_law_by_start, .func (PySem.W.fnOf "_law_by_start" "_law_by_start" (defArgs s_law_by_start) (defBody s_law_by_start) (defScope s_law_by_start) .none kV_law_by_start dc_law_by_start pm_law_by_start an_law_by_start cd_law_by_start ct_law_by_start), sl_law_by_start⟩)
  (e_law_by_start : PySem.W.codeIn K cd_law_by_start "_law_by_start" = true)
  (k_law_by_start : PySem.W.keepIn K (.ref f_law_by_start) = true)
  (a_law_meet : PySem.W.nsIn K mainGlobals "_law_meet" = some (some (.ref f_law_meet)))
  (l_law_meet : K.lookup f_law_meet = some ⟨oc_law_meet, od_law_meet, .func (PySem.W.fnOf "_law_meet" "_law_meet" (defArgs s_law_meet) (defBody s_law_meet) (defScope s_law_meet) .none kV_law_meet dc_law_meet pm_law_meet an_law_meet cd_law_meet ct_law_meet), sl_law_meet⟩)
  (e_law_meet : PySem.W.codeIn K cd_law_meet "_law_meet" = true)
  (k_law_meet : PySem.W.keepIn K (.ref f_law_meet) = true)
  (a_law_choices : PySem.W.nsIn K mainGlobals "_law_choices" = some (some (.ref f_law_choices)))
  (l_law_choices : K.lookup f_law_choices = some ⟨oc_law_choices, od_law_choices, .func (PySem.W.fnOf "_law_choices" "_law_choices" (defArgs s_law_choices) (defBody s_law_choices) (defScope s_law_choices) .none kV_law_choices dc_law_choices pm_law_choices an_law_choices cd_law_choices ct_law_choices), sl_law_choices⟩)
  (e_law_choices : PySem.W.codeIn K cd_law_choices "_law_choices" = true)
  (k_law_choices : PySem.W.keepIn K (.ref f_law_choices) = true)
  (a_law_flat : PySem.W.nsIn K mainGlobals "_law_flat" = some (some (.ref f_law_flat)))
  (l_law_flat : K.lookup f_law_flat = some ⟨oc_law_flat, od_law_flat, .func (PySem.W.fnOf "_law_flat" "_law_flat" (defArgs s_law_flat) (defBody s_law_flat) (defScope s_law_flat) .none kV_law_flat dc_law_flat pm_law_flat an_law_flat cd_law_flat ct_law_flat), sl_law_flat⟩)
  (e_law_flat : PySem.W.codeIn K cd_law_flat "_law_flat" = true)
  (k_law_flat : PySem.W.keepIn K (.ref f_law_flat) = true)
  (a_law_drawnN : PySem.W.nsIn K mainGlobals "_law_drawn" = some (some (.ref f_law_drawnN)))
  (l_law_drawnN : K.lookup f_law_drawnN = some ⟨oc_law_drawnN, od_law_drawnN, .func (PySem.W.fnOf "_law_drawn" "_law_drawn" (defArgs s_law_drawnN) (defBody s_law_drawnN) (defScope s_law_drawnN) .none kV_law_drawnN dc_law_drawnN pm_law_drawnN an_law_drawnN cd_law_drawnN ct_law_drawnN), sl_law_drawnN⟩)
  (e_law_drawnN : PySem.W.codeIn K cd_law_drawnN "_law_drawn" = true)
  (k_law_drawnN : PySem.W.keepIn K (.ref f_law_drawnN) = true)
  (a_law_product : PySem.W.nsIn K mainGlobals "_law_product" = some (some (.ref f_law_product)))
  (l_law_product : K.lookup f_law_product = some ⟨oc_law_product, od_law_product, .func (PySem.W.fnOf "_law_product" "_law_product" (defArgs s_law_product) (defBody s_law_product) (defScope s_law_product) .none kV_law_product dc_law_product pm_law_product an_law_product cd_law_product ct_law_product), sl_law_product⟩)
  (e_law_product : PySem.W.codeIn K cd_law_product "_law_product" = true)
  (k_law_product : PySem.W.keepIn K (.ref f_law_product) = true)
  (a_law_sizes : PySem.W.nsIn K mainGlobals "_law_sizes" = some (some (.ref f_law_sizes)))
  (l_law_sizes : K.lookup f_law_sizes = some ⟨oc_law_sizes, od_law_sizes, .func (PySem.W.fnOf "_law_sizes" "_law_sizes" (defArgs s_law_sizes) (defBody s_law_sizes) (defScope s_law_sizes) .none kV_law_sizes dc_law_sizes pm_law_sizes an_law_sizes cd_law_sizes ct_law_sizes), sl_law_sizes⟩)
  (e_law_sizes : PySem.W.codeIn K cd_law_sizes "_law_sizes" = true)
  (k_law_sizes : PySem.W.keepIn K (.ref f_law_sizes) = true)
  (a_law_spots_at : PySem.W.nsIn K mainGlobals "_law_spots_at" = some (some (.ref f_law_spots_at)))
  (l_law_spots_at : K.lookup f_law_spots_at = some ⟨oc_law_spots_at, od_law_spots_at, .func (PySem.W.fnOf "_law_spots_at" "_law_spots_at" (defArgs s_law_spots_at) (defBody s_law_spots_at) (defScope s_law_spots_at) .none kV_law_spots_at dc_law_spots_at pm_law_spots_at an_law_spots_at cd_law_spots_at ct_law_spots_at), sl_law_spots_at⟩)
  (e_law_spots_at : PySem.W.codeIn K cd_law_spots_at "_law_spots_at" = true)
  (k_law_spots_at : PySem.W.keepIn K (.ref f_law_spots_at) = true)
  (a_law_some_planN : PySem.W.nsIn K mainGlobals "_law_some_plan" = some (some (.ref f_law_some_planN)))
  (l_law_some_planN : K.lookup f_law_some_planN = some ⟨oc_law_some_planN, od_law_some_planN, .func (PySem.W.fnOf "_law_some_plan" "_law_some_plan" (defArgs s_law_some_planN) (defBody s_law_some_planN) (defScope s_law_some_planN) .none kV_law_some_planN dc_law_some_planN pm_law_some_planN an_law_some_planN cd_law_some_planN ct_law_some_planN), sl_law_some_planN⟩)
  (e_law_some_planN : PySem.W.codeIn K cd_law_some_planN "_law_some_plan" = true)
  (k_law_some_planN : PySem.W.keepIn K (.ref f_law_some_planN) = true)
  (a_law_fault : PySem.W.nsIn K mainGlobals "_law_fault" = some (some (.ref f_law_fault)))
  (l_law_fault : K.lookup f_law_fault = some ⟨oc_law_fault, od_law_fault, .func (PySem.W.fnOf "_law_fault" "_law_fault" (defArgs s_law_fault) (defBody s_law_fault) (defScope s_law_fault) .none kV_law_fault dc_law_fault pm_law_fault an_law_fault cd_law_fault ct_law_fault), sl_law_fault⟩)
  (e_law_fault : PySem.W.codeIn K cd_law_fault "_law_fault" = true)
  (k_law_fault : PySem.W.keepIn K (.ref f_law_fault) = true)
  (l_Line_trips : K.lookup f_Line_trips = some ⟨oc_Line_trips, od_Line_trips, .func (PySem.W.fnOf "trips" "Line.trips" (defArgs s_Line_trips) (defBody s_Line_trips) (defScope s_Line_trips) .none kV_Line_trips dc_Line_trips pm_Line_trips an_Line_trips cd_Line_trips ct_Line_trips), sl_Line_trips⟩)
  (e_Line_trips : PySem.W.codeIn K cd_Line_trips "Line.trips" = true)
  (k_Line_trips : PySem.W.keepIn K (.ref f_Line_trips) = true)
  (a_check_line : PySem.W.nsIn K mainGlobals "check_line" = some (some (.ref f_check_line)))
  (l_check_line : K.lookup f_check_line = some ⟨oc_check_line, od_check_line, .func (PySem.W.fnOf "check_line" "check_line" (defArgs s_check_line) (defBody s_check_line) (defScope s_check_line) .none kV_check_line dc_check_line pm_check_line an_check_line cd_check_line ct_check_line), sl_check_line⟩)
  (e_check_line : PySem.W.codeIn K cd_check_line "check_line" = true)
  (k_check_line : PySem.W.keepIn K (.ref f_check_line) = true)
  (l_Line_capacity : K.lookup f_Line_capacity = some ⟨oc_Line_capacity, od_Line_capacity, .func (PySem.W.fnOf "capacity" "Line.capacity" (defArgs s_Line_capacity) (defBody s_Line_capacity) (defScope s_Line_capacity) .none kV_Line_capacity dc_Line_capacity pm_Line_capacity an_Line_capacity cd_Line_capacity ct_Line_capacity), sl_Line_capacity⟩)
  (e_Line_capacity : PySem.W.codeIn K cd_Line_capacity "Line.capacity" = true)
  (k_Line_capacity : PySem.W.keepIn K (.ref f_Line_capacity) = true)
  (a_is_pair : PySem.W.nsIn K mainGlobals "is_pair" = some (some (.ref f_is_pair)))
  (l_is_pair : K.lookup f_is_pair = some ⟨oc_is_pair, od_is_pair, .func (PySem.W.fnOf "is_pair" "is_pair" (defArgs s_is_pair) (defBody s_is_pair) (defScope s_is_pair) .none kV_is_pair dc_is_pair pm_is_pair an_is_pair cd_is_pair ct_is_pair), sl_is_pair⟩)
  (e_is_pair : PySem.W.codeIn K cd_is_pair "is_pair" = true)
  (k_is_pair : PySem.W.keepIn K (.ref f_is_pair) = true)
  (a_is_seat : PySem.W.nsIn K mainGlobals "is_seat" = some (some (.ref f_is_seat)))
  (l_is_seat : K.lookup f_is_seat = some ⟨oc_is_seat, od_is_seat, .func (PySem.W.fnOf "is_seat" "is_seat" (defArgs s_is_seat) (defBody s_is_seat) (defScope s_is_seat) .none kV_is_seat dc_is_seat pm_is_seat an_is_seat cd_is_seat ct_is_seat), sl_is_seat⟩)
  (e_is_seat : PySem.W.codeIn K cd_is_seat "is_seat" = true)
  (k_is_seat : PySem.W.keepIn K (.ref f_is_seat) = true)
  (a_trip_named : PySem.W.nsIn K mainGlobals "trip_named" = some (some (.ref f_trip_named)))
  (l_trip_named : K.lookup f_trip_named = some ⟨oc_trip_named, od_trip_named, .func (PySem.W.fnOf "trip_named" "trip_named" (defArgs s_trip_named) (defBody s_trip_named) (defScope s_trip_named) .none kV_trip_named dc_trip_named pm_trip_named an_trip_named cd_trip_named ct_trip_named), sl_trip_named⟩)
  (e_trip_named : PySem.W.codeIn K cd_trip_named "trip_named" = true)
  (k_trip_named : PySem.W.keepIn K (.ref f_trip_named) = true)
  (a_names_trip_and_seat : PySem.W.nsIn K mainGlobals "names_trip_and_seat" = some (some (.ref f_names_trip_and_seat)))
  (l_names_trip_and_seat : K.lookup f_names_trip_and_seat = some ⟨oc_names_trip_and_seat, od_names_trip_and_seat, .func (PySem.W.fnOf "names_trip_and_seat" "names_trip_and_seat" (defArgs s_names_trip_and_seat) (defBody s_names_trip_and_seat) (defScope s_names_trip_and_seat) .none kV_names_trip_and_seat dc_names_trip_and_seat pm_names_trip_and_seat an_names_trip_and_seat cd_names_trip_and_seat ct_names_trip_and_seat), sl_names_trip_and_seat⟩)
  (e_names_trip_and_seat : PySem.W.codeIn K cd_names_trip_and_seat "names_trip_and_seat" = true)
  (k_names_trip_and_seat : PySem.W.keepIn K (.ref f_names_trip_and_seat) = true)
  (a_meet : PySem.W.nsIn K mainGlobals "meet" = some (some (.ref f_meet)))
  (l_meet : K.lookup f_meet = some ⟨oc_meet, od_meet, .func (PySem.W.fnOf "meet" "meet" (defArgs s_meet) (defBody s_meet) (defScope s_meet) .none kV_meet dc_meet pm_meet an_meet cd_meet ct_meet), sl_meet⟩)
  (e_meet : PySem.W.codeIn K cd_meet "meet" = true)
  (k_meet : PySem.W.keepIn K (.ref f_meet) = true)
  (a_seats_left : PySem.W.nsIn K mainGlobals "seats_left" = some (some (.ref f_seats_left)))
  (l_seats_left : K.lookup f_seats_left = some ⟨oc_seats_left, od_seats_left, .func (PySem.W.fnOf "seats_left" "seats_left" (defArgs s_seats_left) (defBody s_seats_left) (defScope s_seats_left) .none kV_seats_left dc_seats_left pm_seats_left an_seats_left cd_seats_left ct_seats_left), sl_seats_left⟩)
  (e_seats_left : PySem.W.codeIn K cd_seats_left "seats_left" = true)
  (k_seats_left : PySem.W.keepIn K (.ref f_seats_left) = true)
  (a_valid_pairs : PySem.W.nsIn K mainGlobals "valid_pairs" = some (some (.ref f_valid_pairs)))
  (l_valid_pairs : K.lookup f_valid_pairs = some ⟨oc_valid_pairs, od_valid_pairs, .func (PySem.W.fnOf "valid_pairs" "valid_pairs" (defArgs s_valid_pairs) (defBody s_valid_pairs) (defScope s_valid_pairs) .none kV_valid_pairs dc_valid_pairs pm_valid_pairs an_valid_pairs cd_valid_pairs ct_valid_pairs), sl_valid_pairs⟩)
  (e_valid_pairs : PySem.W.codeIn K cd_valid_pairs "valid_pairs" = true)
  (k_valid_pairs : PySem.W.keepIn K (.ref f_valid_pairs) = true)
  (a_is_plan : PySem.W.nsIn K mainGlobals "is_plan" = some (some (.ref f_is_plan)))
  (l_is_plan : K.lookup f_is_plan = some ⟨oc_is_plan, od_is_plan, .func (PySem.W.fnOf "is_plan" "is_plan" (defArgs s_is_plan) (defBody s_is_plan) (defScope s_is_plan) .none kV_is_plan dc_is_plan pm_is_plan an_is_plan cd_is_plan ct_is_plan), sl_is_plan⟩)
  (e_is_plan : PySem.W.codeIn K cd_is_plan "is_plan" = true)
  (k_is_plan : PySem.W.keepIn K (.ref f_is_plan) = true)
  (a_law_told : PySem.W.nsIn K mainGlobals "_law_told" = some (some (.ref f_law_told)))
  (l_law_told : K.lookup f_law_told = some ⟨oc_law_told, od_law_told, .func (PySem.W.fnOf "_law_told" "_law_told" (defArgs s_law_told) (defBody s_law_told) (defScope s_law_told) .none kV_law_told dc_law_told pm_law_told an_law_told cd_law_told ct_law_told), sl_law_told⟩)
  (e_law_told : PySem.W.codeIn K cd_law_told "_law_told" = true)
  (k_law_told : PySem.W.keepIn K (.ref f_law_told) = true)
  (a_law_right11 : PySem.W.nsIn K mainGlobals "_law_right" = some (some (.ref f_law_right11)))
  (l_law_right11 : K.lookup f_law_right11 = some ⟨oc_law_right11, od_law_right11, .func (PySem.W.fnOf "_law_right" "_law_right" (defArgs s_law_right11) (defBody s_law_right11) (defScope s_law_right11) .none kV_law_right11 dc_law_right11 pm_law_right11 an_law_right11 cd_law_right11 ct_law_right11), sl_law_right11⟩)
  (e_law_right11 : PySem.W.codeIn K cd_law_right11 "_law_right" = true)
  (k_law_right11 : PySem.W.keepIn K (.ref f_law_right11) = true)
  (a_law : PySem.W.nsIn K mainGlobals "law" = some (some (.ref f_law)))
  (l_law : K.lookup f_law = some ⟨oc_law, od_law, .func (PySem.W.fnOf "law" "law" (defArgs s_law) (defBody s_law) (defScope s_law) .none kV_law dc_law pm_law an_law cd_law ct_law), sl_law⟩)
  (e_law : PySem.W.codeIn K cd_law "law" = true)
  (k_law : PySem.W.keepIn K (.ref f_law) = true)
  (v_LETTERS : PySem.W.nsIn K mainGlobals "LETTERS" = some (some (.str ("abcdefghijklmnopqrstuvwxyz" : Str) tv_LETTERS)))
  (v_LONGEST_NAME : PySem.W.nsIn K mainGlobals "LONGEST_NAME" = some (some (.int 8 tv_LONGEST_NAME)))
  (v_MAX_SEATS : PySem.W.nsIn K mainGlobals "MAX_SEATS" = some (some (.int 20 tv_MAX_SEATS)))
  (v_MAX_TRIPS : PySem.W.nsIn K mainGlobals "MAX_TRIPS" = some (some (.int 24 tv_MAX_TRIPS)))
  (b_abs : PySem.W.nsIn K mainGlobals "abs" = some none)
  (b_all : PySem.W.nsIn K mainGlobals "all" = some none)
  (b_bool : PySem.W.nsIn K mainGlobals "bool" = some none)
  (b_dict : PySem.W.nsIn K mainGlobals "dict" = some none)
  (b_divmod : PySem.W.nsIn K mainGlobals "divmod" = some none)
  (b_enumerate : PySem.W.nsIn K mainGlobals "enumerate" = some none)
  (b_int : PySem.W.nsIn K mainGlobals "int" = some none)
  (b_isinstance : PySem.W.nsIn K mainGlobals "isinstance" = some none)
  (b_len : PySem.W.nsIn K mainGlobals "len" = some none)
  (b_list : PySem.W.nsIn K mainGlobals "list" = some none)
  (b_max : PySem.W.nsIn K mainGlobals "max" = some none)
  (b_min : PySem.W.nsIn K mainGlobals "min" = some none)
  (b_range : PySem.W.nsIn K mainGlobals "range" = some none)
  (b_repr : PySem.W.nsIn K mainGlobals "repr" = some none)
  (b_sorted : PySem.W.nsIn K mainGlobals "sorted" = some none)
  (b_str : PySem.W.nsIn K mainGlobals "str" = some none)
  (b_tuple : PySem.W.nsIn K mainGlobals "tuple" = some none)
  (b_zip : PySem.W.nsIn K mainGlobals "zip" = some none)
  (nl : NoList K = true)
  (ht : h.get? tL = some (PySem.W.tabObj #[]))
  : LawG l w K 11 63 "_law_script" mg fa h := by
 have e := hfa.symm.trans (PySem.W.mg_of X G a_law)
 obtain rfl : fa = f_law := Value.ref.inj (Option.some.inj e)
 let a : Ad := {
  CLine := CLine,
  cL := cL,
  tL := tL,
  eL := eL,
  qT := qT,
  qC := qC,
  pS := CLine,
  mL := .none,
  f_is_integer := f_is_integer,
  d_is_integer := PySem.W.fnOf "is_integer" "is_integer" (defArgs s_is_integer) (defBody s_is_integer) (defScope s_is_integer) .none kV_is_integer dc_is_integer pm_is_integer an_is_integer cd_is_integer ct_is_integer,
  f_check_seats := f_check_seats,
  d_check_seats := PySem.W.fnOf "check_seats" "check_seats" (defArgs s_check_seats) (defBody s_check_seats) (defScope s_check_seats) .none kV_check_seats dc_check_seats pm_check_seats an_check_seats cd_check_seats ct_check_seats,
  f_is_later := f_is_later,
  d_is_later := PySem.W.fnOf "is_later" "is_later" (defArgs s_is_later) (defBody s_is_later) (defScope s_is_later) .none kV_is_later dc_is_later pm_is_later an_is_later cd_is_later ct_is_later,
  f_is_station := f_is_station,
  d_is_station := PySem.W.fnOf "is_station" "is_station" (defArgs s_is_station) (defBody s_is_station) (defScope s_is_station) .none kV_is_station dc_is_station pm_is_station an_is_station cd_is_station ct_is_station,
  f_is_trip_name := f_is_trip_name,
  d_is_trip_name := PySem.W.fnOf "is_trip_name" "is_trip_name" (defArgs s_is_trip_name) (defBody s_is_trip_name) (defScope s_is_trip_name) .none kV_is_trip_name dc_is_trip_name pm_is_trip_name an_is_trip_name cd_is_trip_name ct_is_trip_name,
  f_is_trip := f_is_trip,
  d_is_trip := PySem.W.fnOf "is_trip" "is_trip" (defArgs s_is_trip) (defBody s_is_trip) (defScope s_is_trip) .none kV_is_trip dc_is_trip pm_is_trip an_is_trip cd_is_trip ct_is_trip,
  f_valid_beginning := f_valid_beginning,
  d_valid_beginning := PySem.W.fnOf "valid_beginning" "valid_beginning" (defArgs s_valid_beginning) (defBody s_valid_beginning) (defScope s_valid_beginning) .none kV_valid_beginning dc_valid_beginning pm_valid_beginning an_valid_beginning cd_valid_beginning ct_valid_beginning,
  f_Line_init := f_Line_init,
  d_Line_init := PySem.W.fnOf "__init__" "Line.__init__" (defArgs s_Line_init) (defBody s_Line_init) (defScope s_Line_init) (.ref TD) kV_Line_init dc_Line_init pm_Line_init an_Line_init (.ref cL) ct_Line_init,
  f_law_cell := f_law_cell,
  d_law_cell := PySem.W.fnOf "_law_cell" "_law_cell" (defArgs s_law_cell) (defBody s_law_cell) (defScope s_law_cell) .none kV_law_cell dc_law_cell pm_law_cell an_law_cell cd_law_cell ct_law_cell,
  f_law_pool := f_law_pool,
  d_law_pool := PySem.W.fnOf "_law_pool" "_law_pool" (defArgs s_law_pool) (defBody s_law_pool) (defScope s_law_pool) .none kV_law_pool dc_law_pool pm_law_pool an_law_pool cd_law_pool ct_law_pool,
  f_law_draw := f_law_draw,
  d_law_draw := PySem.W.fnOf "_law_draw" "_law_draw" (defArgs s_law_draw) (defBody s_law_draw) (defScope s_law_draw) .none kV_law_draw dc_law_draw pm_law_draw an_law_draw cd_law_draw ct_law_draw,
  f_law_loadS := f_law_loadS,
  d_law_loadS := PySem.W.fnOf "_law_load" "_law_load" (defArgs s_law_loadS) (defBody s_law_loadS) (defScope s_law_loadS) .none kV_law_loadS dc_law_loadS pm_law_loadS an_law_loadS cd_law_loadS ct_law_loadS,
  f_law_peakS := f_law_peakS,
  d_law_peakS := PySem.W.fnOf "_law_peak" "_law_peak" (defArgs s_law_peakS) (defBody s_law_peakS) (defScope s_law_peakS) .none kV_law_peakS dc_law_peakS pm_law_peakS an_law_peakS cd_law_peakS ct_law_peakS,
  f_law_far := f_law_far,
  d_law_far := PySem.W.fnOf "_law_far" "_law_far" (defArgs s_law_far) (defBody s_law_far) (defScope s_law_far) .none kV_law_far dc_law_far pm_law_far an_law_far cd_law_far ct_law_far,
  f_law_rides := f_law_rides,
  d_law_rides := PySem.W.fnOf "_law_rides" "_law_rides" (defArgs s_law_rides) (defBody s_law_rides) (defScope s_law_rides) .none kV_law_rides dc_law_rides pm_law_rides an_law_rides cd_law_rides ct_law_rides,
  f_law_words := f_law_words,
  d_law_words := PySem.W.fnOf "_law_words" "_law_words" (defArgs s_law_words) (defBody s_law_words) (defScope s_law_words) .none kV_law_words dc_law_words pm_law_words an_law_words cd_law_words ct_law_words,
  f_law_long_case := f_law_long_case,
  d_law_long_case := PySem.W.fnOf "_law_long_case" "_law_long_case" (defArgs s_law_long_case) (defBody s_law_long_case) (defScope s_law_long_case) .none kV_law_long_case dc_law_long_case pm_law_long_case an_law_long_case cd_law_long_case ct_law_long_case,
  f_law_no_plan := f_law_no_plan,
  d_law_no_plan := PySem.W.fnOf "_law_no_plan" "_law_no_plan" (defArgs s_law_no_plan) (defBody s_law_no_plan) (defScope s_law_no_plan) .none kV_law_no_plan dc_law_no_plan pm_law_no_plan an_law_no_plan cd_law_no_plan ct_law_no_plan,
  f_law_others := f_law_others,
  d_law_others := PySem.W.fnOf "_law_others" "_law_others" (defArgs s_law_others) (defBody s_law_others) (defScope s_law_others) .none kV_law_others dc_law_others pm_law_others an_law_others cd_law_others ct_law_others,
  f_law_by_start := f_law_by_start,
  d_law_by_start := PySem.W.fnOf "_law_by_start" "_law_by_start" (defArgs s_law_by_start) (defBody s_law_by_start) (defScope s_law_by_start) .none kV_law_by_start dc_law_by_start pm_law_by_start an_law_by_start cd_law_by_start ct_law_by_start,
  f_law_meet := f_law_meet,
  d_law_meet := PySem.W.fnOf "_law_meet" "_law_meet" (defArgs s_law_meet) (defBody s_law_meet) (defScope s_law_meet) .none kV_law_meet dc_law_meet pm_law_meet an_law_meet cd_law_meet ct_law_meet,
  f_law_choices := f_law_choices,
  d_law_choices := PySem.W.fnOf "_law_choices" "_law_choices" (defArgs s_law_choices) (defBody s_law_choices) (defScope s_law_choices) .none kV_law_choices dc_law_choices pm_law_choices an_law_choices cd_law_choices ct_law_choices,
  f_law_flat := f_law_flat,
  d_law_flat := PySem.W.fnOf "_law_flat" "_law_flat" (defArgs s_law_flat) (defBody s_law_flat) (defScope s_law_flat) .none kV_law_flat dc_law_flat pm_law_flat an_law_flat cd_law_flat ct_law_flat,
  f_law_drawnN := f_law_drawnN,
  d_law_drawnN := PySem.W.fnOf "_law_drawn" "_law_drawn" (defArgs s_law_drawnN) (defBody s_law_drawnN) (defScope s_law_drawnN) .none kV_law_drawnN dc_law_drawnN pm_law_drawnN an_law_drawnN cd_law_drawnN ct_law_drawnN,
  f_law_product := f_law_product,
  d_law_product := PySem.W.fnOf "_law_product" "_law_product" (defArgs s_law_product) (defBody s_law_product) (defScope s_law_product) .none kV_law_product dc_law_product pm_law_product an_law_product cd_law_product ct_law_product,
  f_law_sizes := f_law_sizes,
  d_law_sizes := PySem.W.fnOf "_law_sizes" "_law_sizes" (defArgs s_law_sizes) (defBody s_law_sizes) (defScope s_law_sizes) .none kV_law_sizes dc_law_sizes pm_law_sizes an_law_sizes cd_law_sizes ct_law_sizes,
  f_law_spots_at := f_law_spots_at,
  d_law_spots_at := PySem.W.fnOf "_law_spots_at" "_law_spots_at" (defArgs s_law_spots_at) (defBody s_law_spots_at) (defScope s_law_spots_at) .none kV_law_spots_at dc_law_spots_at pm_law_spots_at an_law_spots_at cd_law_spots_at ct_law_spots_at,
  f_law_some_planN := f_law_some_planN,
  d_law_some_planN := PySem.W.fnOf "_law_some_plan" "_law_some_plan" (defArgs s_law_some_planN) (defBody s_law_some_planN) (defScope s_law_some_planN) .none kV_law_some_planN dc_law_some_planN pm_law_some_planN an_law_some_planN cd_law_some_planN ct_law_some_planN,
  f_law_fault := f_law_fault,
  d_law_fault := PySem.W.fnOf "_law_fault" "_law_fault" (defArgs s_law_fault) (defBody s_law_fault) (defScope s_law_fault) .none kV_law_fault dc_law_fault pm_law_fault an_law_fault cd_law_fault ct_law_fault,
  f_Line_trips := f_Line_trips,
  d_Line_trips := PySem.W.fnOf "trips" "Line.trips" (defArgs s_Line_trips) (defBody s_Line_trips) (defScope s_Line_trips) .none kV_Line_trips dc_Line_trips pm_Line_trips an_Line_trips cd_Line_trips ct_Line_trips,
  f_check_line := f_check_line,
  d_check_line := PySem.W.fnOf "check_line" "check_line" (defArgs s_check_line) (defBody s_check_line) (defScope s_check_line) .none kV_check_line dc_check_line pm_check_line an_check_line cd_check_line ct_check_line,
  f_Line_capacity := f_Line_capacity,
  d_Line_capacity := PySem.W.fnOf "capacity" "Line.capacity" (defArgs s_Line_capacity) (defBody s_Line_capacity) (defScope s_Line_capacity) .none kV_Line_capacity dc_Line_capacity pm_Line_capacity an_Line_capacity cd_Line_capacity ct_Line_capacity,
  f_is_pair := f_is_pair,
  d_is_pair := PySem.W.fnOf "is_pair" "is_pair" (defArgs s_is_pair) (defBody s_is_pair) (defScope s_is_pair) .none kV_is_pair dc_is_pair pm_is_pair an_is_pair cd_is_pair ct_is_pair,
  f_is_seat := f_is_seat,
  d_is_seat := PySem.W.fnOf "is_seat" "is_seat" (defArgs s_is_seat) (defBody s_is_seat) (defScope s_is_seat) .none kV_is_seat dc_is_seat pm_is_seat an_is_seat cd_is_seat ct_is_seat,
  f_trip_named := f_trip_named,
  d_trip_named := PySem.W.fnOf "trip_named" "trip_named" (defArgs s_trip_named) (defBody s_trip_named) (defScope s_trip_named) .none kV_trip_named dc_trip_named pm_trip_named an_trip_named cd_trip_named ct_trip_named,
  f_names_trip_and_seat := f_names_trip_and_seat,
  d_names_trip_and_seat := PySem.W.fnOf "names_trip_and_seat" "names_trip_and_seat" (defArgs s_names_trip_and_seat) (defBody s_names_trip_and_seat) (defScope s_names_trip_and_seat) .none kV_names_trip_and_seat dc_names_trip_and_seat pm_names_trip_and_seat an_names_trip_and_seat cd_names_trip_and_seat ct_names_trip_and_seat,
  f_meet := f_meet,
  d_meet := PySem.W.fnOf "meet" "meet" (defArgs s_meet) (defBody s_meet) (defScope s_meet) .none kV_meet dc_meet pm_meet an_meet cd_meet ct_meet,
  f_seats_left := f_seats_left,
  d_seats_left := PySem.W.fnOf "seats_left" "seats_left" (defArgs s_seats_left) (defBody s_seats_left) (defScope s_seats_left) .none kV_seats_left dc_seats_left pm_seats_left an_seats_left cd_seats_left ct_seats_left,
  f_valid_pairs := f_valid_pairs,
  d_valid_pairs := PySem.W.fnOf "valid_pairs" "valid_pairs" (defArgs s_valid_pairs) (defBody s_valid_pairs) (defScope s_valid_pairs) .none kV_valid_pairs dc_valid_pairs pm_valid_pairs an_valid_pairs cd_valid_pairs ct_valid_pairs,
  f_is_plan := f_is_plan,
  d_is_plan := PySem.W.fnOf "is_plan" "is_plan" (defArgs s_is_plan) (defBody s_is_plan) (defScope s_is_plan) .none kV_is_plan dc_is_plan pm_is_plan an_is_plan cd_is_plan ct_is_plan,
  f_law_told := f_law_told,
  d_law_told := PySem.W.fnOf "_law_told" "_law_told" (defArgs s_law_told) (defBody s_law_told) (defScope s_law_told) .none kV_law_told dc_law_told pm_law_told an_law_told cd_law_told ct_law_told,
  f_law_right11 := f_law_right11,
  d_law_right11 := PySem.W.fnOf "_law_right" "_law_right" (defArgs s_law_right11) (defBody s_law_right11) (defScope s_law_right11) .none kV_law_right11 dc_law_right11 pm_law_right11 an_law_right11 cd_law_right11 ct_law_right11,
  f_law := fa,
  d_law := PySem.W.fnOf "law" "law" (defArgs s_law) (defBody s_law) (defScope s_law) .none kV_law dc_law pm_law an_law cd_law ct_law }
 have t : Tx K mg a := {
  cl := ⟨c1, c2, c3, c4⟩,
  clt := ⟨⟨c1, c2, c3, c4⟩, t1, t2, t3, t4, t5, (fun n hn => by rcases List.mem_cons.mp hn with rfl | hn; exact ty0; rcases List.mem_cons.mp hn with rfl | hn; exact ty1; rcases List.mem_cons.mp hn with rfl | hn; exact ty2; rcases List.mem_cons.mp hn with rfl | hn; exact ty3; rcases List.mem_cons.mp hn with rfl | hn; exact ty4; rcases List.mem_cons.mp hn with rfl | hn; exact ty5; cases hn), (fun n hn => by rcases List.mem_cons.mp hn with rfl | hn; exact no0; rcases List.mem_cons.mp hn with rfl | hn; exact no1; rcases List.mem_cons.mp hn with rfl | hn; exact no2; rcases List.mem_cons.mp hn with rfl | hn; exact no3; rcases List.mem_cons.mp hn with rfl | hn; exact no4; rcases List.mem_cons.mp hn with rfl | hn; exact no5; rcases List.mem_cons.mp hn with rfl | hn; exact no6; cases hn)⟩,
  g_Line := PySem.W.mg_of X G hC,
  mkL := ⟨m1, m2, m3, m4⟩,
  p_capacity := ⟨u1, u2, u3, ⟨_, u4⟩⟩,
  p_trips := ⟨q1, q2, q3, ⟨_, q4⟩⟩,
  n_seat_count := n_seat_count,
  n_rows := n_rows,
  n_queue := n_queue,
  F_is_integer := fun_mk l_is_integer e_is_integer k_is_integer,
  g_is_integer := PySem.W.mg_of X G a_is_integer,
  k_is_integer := k_is_integer,
  F_check_seats := fun_mk l_check_seats e_check_seats k_check_seats,
  g_check_seats := PySem.W.mg_of X G a_check_seats,
  k_check_seats := k_check_seats,
  F_is_later := fun_mk l_is_later e_is_later k_is_later,
  g_is_later := PySem.W.mg_of X G a_is_later,
  k_is_later := k_is_later,
  F_is_station := fun_mk l_is_station e_is_station k_is_station,
  g_is_station := PySem.W.mg_of X G a_is_station,
  k_is_station := k_is_station,
  F_is_trip_name := fun_mk l_is_trip_name e_is_trip_name k_is_trip_name,
  g_is_trip_name := PySem.W.mg_of X G a_is_trip_name,
  k_is_trip_name := k_is_trip_name,
  F_is_trip := fun_mk l_is_trip e_is_trip k_is_trip,
  g_is_trip := PySem.W.mg_of X G a_is_trip,
  k_is_trip := k_is_trip,
  F_valid_beginning := fun_mk l_valid_beginning e_valid_beginning k_valid_beginning,
  g_valid_beginning := PySem.W.mg_of X G a_valid_beginning,
  k_valid_beginning := k_valid_beginning,
  F_Line_init := ⟨⟨oc_Line_init, od_Line_init, .ref TD, kV_Line_init, dc_Line_init, pm_Line_init, an_Line_init, ct_Line_init, sl_Line_init, rfl, l_Line_init, e_Line_init, .inr ⟨by simp, TD, _, [.ref eL], _, rfl, w1, rfl, .cons rfl .nil⟩⟩, k_Line_init⟩,
  dfl := by
   intro O H
   unfold Reps
   refine ⟨.ref eL, [], rfl, ?_, by unfold Reps; rfl⟩
   unfold Rep
   exact ⟨eL, [], rfl, .inr ⟨_, #[], nEL, w2, rfl, rfl, by decide, .nil⟩, by unfold Reps; rfl⟩,
  F_law_cell := fun_mk l_law_cell e_law_cell k_law_cell,
  g__law_cell := PySem.W.mg_of X G a_law_cell,
  k__law_cell := k_law_cell,
  F_law_pool := fun_mk l_law_pool e_law_pool k_law_pool,
  g__law_pool := PySem.W.mg_of X G a_law_pool,
  k__law_pool := k_law_pool,
  F_law_draw := fun_mk l_law_draw e_law_draw k_law_draw,
  g__law_draw := PySem.W.mg_of X G a_law_draw,
  k__law_draw := k_law_draw,
  F_law_loadS := fun_mk l_law_loadS e_law_loadS k_law_loadS,
  g__law_load := PySem.W.mg_of X G a_law_loadS,
  k__law_load := k_law_loadS,
  F_law_peakS := fun_mk l_law_peakS e_law_peakS k_law_peakS,
  g__law_peak := PySem.W.mg_of X G a_law_peakS,
  k__law_peak := k_law_peakS,
  F_law_far := fun_mk l_law_far e_law_far k_law_far,
  g__law_far := PySem.W.mg_of X G a_law_far,
  k__law_far := k_law_far,
  F_law_rides := fun_mk l_law_rides e_law_rides k_law_rides,
  g__law_rides := PySem.W.mg_of X G a_law_rides,
  k__law_rides := k_law_rides,
  F_law_words := fun_mk l_law_words e_law_words k_law_words,
  g__law_words := PySem.W.mg_of X G a_law_words,
  k__law_words := k_law_words,
  F_law_long_case := fun_mk l_law_long_case e_law_long_case k_law_long_case,
  g__law_long_case := PySem.W.mg_of X G a_law_long_case,
  k__law_long_case := k_law_long_case,
  F_law_no_plan := fun_mk l_law_no_plan e_law_no_plan k_law_no_plan,
  g__law_no_plan := PySem.W.mg_of X G a_law_no_plan,
  k__law_no_plan := k_law_no_plan,
  F_law_others := fun_mk l_law_others e_law_others k_law_others,
  g__law_others := PySem.W.mg_of X G a_law_others,
  k__law_others := k_law_others,
  F_law_by_start := fun_mk l_law_by_start e_law_by_start k_law_by_start,
  g__law_by_start := PySem.W.mg_of X G a_law_by_start,
  k__law_by_start := k_law_by_start,
  F_law_meet := fun_mk l_law_meet e_law_meet k_law_meet,
  g__law_meet := PySem.W.mg_of X G a_law_meet,
  k__law_meet := k_law_meet,
  F_law_choices := fun_mk l_law_choices e_law_choices k_law_choices,
  g__law_choices := PySem.W.mg_of X G a_law_choices,
  k__law_choices := k_law_choices,
  F_law_flat := fun_mk l_law_flat e_law_flat k_law_flat,
  g__law_flat := PySem.W.mg_of X G a_law_flat,
  k__law_flat := k_law_flat,
  F_law_drawnN := fun_mk l_law_drawnN e_law_drawnN k_law_drawnN,
  g__law_drawn := PySem.W.mg_of X G a_law_drawnN,
  k__law_drawn := k_law_drawnN,
  F_law_product := fun_mk l_law_product e_law_product k_law_product,
  g__law_product := PySem.W.mg_of X G a_law_product,
  k__law_product := k_law_product,
  F_law_sizes := fun_mk l_law_sizes e_law_sizes k_law_sizes,
  g__law_sizes := PySem.W.mg_of X G a_law_sizes,
  k__law_sizes := k_law_sizes,
  F_law_spots_at := fun_mk l_law_spots_at e_law_spots_at k_law_spots_at,
  g__law_spots_at := PySem.W.mg_of X G a_law_spots_at,
  k__law_spots_at := k_law_spots_at,
  F_law_some_planN := fun_mk l_law_some_planN e_law_some_planN k_law_some_planN,
  g__law_some_plan := PySem.W.mg_of X G a_law_some_planN,
  k__law_some_plan := k_law_some_planN,
  F_law_fault := fun_mk l_law_fault e_law_fault k_law_fault,
  g__law_fault := PySem.W.mg_of X G a_law_fault,
  k__law_fault := k_law_fault,
  F_Line_trips := fun_mk l_Line_trips e_Line_trips k_Line_trips,
  F_check_line := fun_mk l_check_line e_check_line k_check_line,
  g_check_line := PySem.W.mg_of X G a_check_line,
  k_check_line := k_check_line,
  F_Line_capacity := fun_mk l_Line_capacity e_Line_capacity k_Line_capacity,
  F_is_pair := fun_mk l_is_pair e_is_pair k_is_pair,
  g_is_pair := PySem.W.mg_of X G a_is_pair,
  k_is_pair := k_is_pair,
  F_is_seat := fun_mk l_is_seat e_is_seat k_is_seat,
  g_is_seat := PySem.W.mg_of X G a_is_seat,
  k_is_seat := k_is_seat,
  F_trip_named := fun_mk l_trip_named e_trip_named k_trip_named,
  g_trip_named := PySem.W.mg_of X G a_trip_named,
  k_trip_named := k_trip_named,
  F_names_trip_and_seat := fun_mk l_names_trip_and_seat e_names_trip_and_seat k_names_trip_and_seat,
  g_names_trip_and_seat := PySem.W.mg_of X G a_names_trip_and_seat,
  k_names_trip_and_seat := k_names_trip_and_seat,
  F_meet := fun_mk l_meet e_meet k_meet,
  g_meet := PySem.W.mg_of X G a_meet,
  k_meet := k_meet,
  F_seats_left := fun_mk l_seats_left e_seats_left k_seats_left,
  g_seats_left := PySem.W.mg_of X G a_seats_left,
  k_seats_left := k_seats_left,
  F_valid_pairs := fun_mk l_valid_pairs e_valid_pairs k_valid_pairs,
  g_valid_pairs := PySem.W.mg_of X G a_valid_pairs,
  k_valid_pairs := k_valid_pairs,
  F_is_plan := fun_mk l_is_plan e_is_plan k_is_plan,
  g_is_plan := PySem.W.mg_of X G a_is_plan,
  k_is_plan := k_is_plan,
  F_law_told := fun_mk l_law_told e_law_told k_law_told,
  g__law_told := PySem.W.mg_of X G a_law_told,
  k__law_told := k_law_told,
  F_law_right11 := fun_mk l_law_right11 e_law_right11 k_law_right11,
  g__law_right := PySem.W.mg_of X G a_law_right11,
  k__law_right := k_law_right11,
  F_law := fun_mk l_law e_law k_law,
  g_law := PySem.W.mg_of X G a_law,
  k_law := k_law,
  v_LETTERS := ⟨_, PySem.W.mg_of X G v_LETTERS, ⟨_, rfl⟩⟩,
  v_LONGEST_NAME := ⟨_, PySem.W.mg_of X G v_LONGEST_NAME, ⟨_, rfl⟩⟩,
  v_MAX_SEATS := ⟨_, PySem.W.mg_of X G v_MAX_SEATS, ⟨_, rfl⟩⟩,
  v_MAX_TRIPS := ⟨_, PySem.W.mg_of X G v_MAX_TRIPS, ⟨_, rfl⟩⟩,
  b_abs := PySem.W.mg_none_of X G b_abs,
  b_all := PySem.W.mg_none_of X G b_all,
  b_bool := PySem.W.mg_none_of X G b_bool,
  b_dict := PySem.W.mg_none_of X G b_dict,
  b_divmod := PySem.W.mg_none_of X G b_divmod,
  b_enumerate := PySem.W.mg_none_of X G b_enumerate,
  b_int := PySem.W.mg_none_of X G b_int,
  b_isinstance := PySem.W.mg_none_of X G b_isinstance,
  b_len := PySem.W.mg_none_of X G b_len,
  b_list := PySem.W.mg_none_of X G b_list,
  b_max := PySem.W.mg_none_of X G b_max,
  b_min := PySem.W.mg_none_of X G b_min,
  b_range := PySem.W.mg_none_of X G b_range,
  b_repr := PySem.W.mg_none_of X G b_repr,
  b_sorted := PySem.W.mg_none_of X G b_sorted,
  b_str := PySem.W.mg_none_of X G b_str,
  b_tuple := PySem.W.mg_none_of X G b_tuple,
  b_zip := PySem.W.mg_none_of X G b_zip }
 refine ⟨a.d_law, [(cL, tL)], TT a, sp_law K a.CLine, ?_, ?_, ?_, nl, ?_, fun s u => .of_eq rfl, fun ns hl _ => ⟨ns, rfl, hl, t.clt, rfl⟩, ?_⟩
 ·exact fun p hp => by
   rcases List.mem_cons.mp hp with rfl | hp
   ·exact PySem.W.codeHd_of_K X w5
   ·cases hp
 ·exact fun p hp => by
   rcases List.mem_cons.mp hp with rfl | hp
   ·exact ht
   ·cases hp
 ·exact fun p hp => by
   rcases List.mem_cons.mp hp with rfl | hp
   ·exact w6
   ·cases hp
 ·exact fun p hp => by
   rcases List.mem_cons.mp hp with rfl | hp
   ·exact List.mem_cons_self
   ·cases hp
 ·exact fun base _ _ TB => ok_law t (TB (cL, tL) List.mem_cons_self)
end ZK
open PySem PySem.W PyProof.Rows
set_option maxRecDepth 100000 in
set_option maxHeartbeats 0 in
theorem PySem.Challenge.cw_seatchains_k11_plans_told_from_others_holds : PySem.Challenge.rw_seatchains_k11_plans_told_from_others.Holds :=
 PySem.Challenge.hd11 (by
 k_fill
 refine Z.walkG (l := PySem.Challenge.rw_seatchains_k11_plans_told_from_others) (n := 63) (k := 11) (x := "_law_script") rfl (by decide) rfl ⟨rfl, by decide, by decide⟩ (fun w h Y => PySem.W.km_in_of Y) ?F
 case F =>
  intro w mg fa h Y KX G hmg
  refine' ZK.law_mk KX G hmg ?hC ?c1 ?c2 ?c3 ?c4 ?t1 ?t2 ?t3 ?t4 ?t5 ?ty0 ?ty1 ?ty2 ?ty3 ?ty4 ?ty5 ?no0 ?no1 ?no2 ?no3 ?no4 ?no5 ?no6 ?m1 ?m2 ?m3 ?m4 ?u1 ?u2 ?u3 ?u4 ?q1 ?q2 ?q3 ?q4 ?n_seat_count ?n_rows ?n_queue ?a_is_integer ?l_is_integer ?e_is_integer ?k_is_integer ?a_check_seats ?l_check_seats ?e_check_seats ?k_check_seats ?a_is_later ?l_is_later ?e_is_later ?k_is_later ?a_is_station ?l_is_station ?e_is_station ?k_is_station ?a_is_trip_name ?l_is_trip_name ?e_is_trip_name ?k_is_trip_name ?a_is_trip ?l_is_trip ?e_is_trip ?k_is_trip ?a_valid_beginning ?l_valid_beginning ?e_valid_beginning ?k_valid_beginning ?l_Line_init ?e_Line_init ?k_Line_init ?w1 ?w2 ?w3 ?w4 ?w5 ?w6 ?a_law_cell ?l_law_cell ?e_law_cell ?k_law_cell ?a_law_pool ?l_law_pool ?e_law_pool ?k_law_pool ?a_law_draw ?l_law_draw ?e_law_draw ?k_law_draw ?a_law_loadS ?l_law_loadS ?e_law_loadS ?k_law_loadS ?a_law_peakS ?l_law_peakS ?e_law_peakS ?k_law_peakS ?a_law_far ?l_law_far ?e_law_far ?k_law_far ?a_law_rides ?l_law_rides ?e_law_rides ?k_law_rides ?a_law_words ?l_law_words ?e_law_words ?k_law_words ?a_law_long_case ?l_law_long_case ?e_law_long_case ?k_law_long_case ?a_law_no_plan ?l_law_no_plan ?e_law_no_plan ?k_law_no_plan ?a_law_others ?l_law_others ?e_law_others ?k_law_others ?a_law_by_start ?l_law_by_start ?e_law_by_start ?k_law_by_start ?a_law_meet ?l_law_meet ?e_law_meet ?k_law_meet ?a_law_choices ?l_law_choices ?e_law_choices ?k_law_choices ?a_law_flat ?l_law_flat ?e_law_flat ?k_law_flat ?a_law_drawnN ?l_law_drawnN ?e_law_drawnN ?k_law_drawnN ?a_law_product ?l_law_product ?e_law_product ?k_law_product ?a_law_sizes ?l_law_sizes ?e_law_sizes ?k_law_sizes ?a_law_spots_at ?l_law_spots_at ?e_law_spots_at ?k_law_spots_at ?a_law_some_planN ?l_law_some_planN ?e_law_some_planN ?k_law_some_planN ?a_law_fault ?l_law_fault ?e_law_fault ?k_law_fault ?l_Line_trips ?e_Line_trips ?k_Line_trips ?a_check_line ?l_check_line ?e_check_line ?k_check_line ?l_Line_capacity ?e_Line_capacity ?k_Line_capacity ?a_is_pair ?l_is_pair ?e_is_pair ?k_is_pair ?a_is_seat ?l_is_seat ?e_is_seat ?k_is_seat ?a_trip_named ?l_trip_named ?e_trip_named ?k_trip_named ?a_names_trip_and_seat ?l_names_trip_and_seat ?e_names_trip_and_seat ?k_names_trip_and_seat ?a_meet ?l_meet ?e_meet ?k_meet ?a_seats_left ?l_seats_left ?e_seats_left ?k_seats_left ?a_valid_pairs ?l_valid_pairs ?e_valid_pairs ?k_valid_pairs ?a_is_plan ?l_is_plan ?e_is_plan ?k_is_plan ?a_law_told ?l_law_told ?e_law_told ?k_law_told ?a_law_right11 ?l_law_right11 ?e_law_right11 ?k_law_right11 ?a_law ?l_law ?e_law ?k_law ?v_LETTERS ?v_LONGEST_NAME ?v_MAX_SEATS ?v_MAX_TRIPS ?b_abs ?b_all ?b_bool ?b_dict ?b_divmod ?b_enumerate ?b_int ?b_isinstance ?b_len ?b_list ?b_max ?b_min ?b_range ?b_repr ?b_sorted ?b_str ?b_tuple ?b_zip ?nl ?ht
  (case hC => k_is)
  (case c1 => k_is)
  (case c2 => k_is)
  (case c3 => k_is)
  (case c4 => k_is)
  (case t1 => k_is)
  (case t2 => k_is)
  (case t3 => k_is)
  (case t4 => k_is)
  (case t5 => kernel_rfl)
  (case ty0 => kernel_rfl)
  (case ty1 => kernel_rfl)
  (case ty2 => kernel_rfl)
  (case ty3 => kernel_rfl)
  (case ty4 => kernel_rfl)
  (case ty5 => kernel_rfl)
  (case no0 => kernel_rfl)
  (case no1 => kernel_rfl)
  (case no2 => kernel_rfl)
  (case no3 => kernel_rfl)
  (case no4 => kernel_rfl)
  (case no5 => kernel_rfl)
  (case no6 => kernel_rfl)
  (case m1 => k_is)
  (case m2 => k_is)
  (case m3 => k_is)
  (case m4 => k_is)
  (case u1 => k_is)
  (case u2 => k_is)
  (case u3 => k_is)
  (case u4 => k_is)
  (case q1 => k_is)
  (case q2 => k_is)
  (case q3 => k_is)
  (case q4 => k_is)
  (case n_seat_count => k_is)
  (case n_rows => k_is)
  (case n_queue => k_is)
  (case a_is_integer => k_is)
  (case l_is_integer => k_is)
  (case e_is_integer => k_is)
  (case k_is_integer => k_is)
  (case a_check_seats => k_is)
  (case l_check_seats => k_is)
  (case e_check_seats => k_is)
  (case k_check_seats => k_is)
  (case a_is_later => k_is)
  (case l_is_later => k_is)
  (case e_is_later => k_is)
  (case k_is_later => k_is)
  (case a_is_station => k_is)
  (case l_is_station => k_is)
  (case e_is_station => k_is)
  (case k_is_station => k_is)
  (case a_is_trip_name => k_is)
  (case l_is_trip_name => k_is)
  (case e_is_trip_name => k_is)
  (case k_is_trip_name => k_is)
  (case a_is_trip => k_is)
  (case l_is_trip => k_is)
  (case e_is_trip => k_is)
  (case k_is_trip => k_is)
  (case a_valid_beginning => k_is)
  (case l_valid_beginning => k_is)
  (case e_valid_beginning => k_is)
  (case k_valid_beginning => k_is)
  (case l_Line_init => k_is)
  (case e_Line_init => k_is)
  (case k_Line_init => k_is)
  (case w1 => k_is)
  (case w2 => k_is)
  (case w3 => k_is)
  (case w4 => rfl)
  (case w5 => kernel_rfl)
  (case w6 => kernel_rfl)
  (case a_law_cell => k_is)
  (case l_law_cell => k_is)
  (case e_law_cell => k_is)
  (case k_law_cell => k_is)
  (case a_law_pool => k_is)
  (case l_law_pool => k_is)
  (case e_law_pool => k_is)
  (case k_law_pool => k_is)
  (case a_law_draw => k_is)
  (case l_law_draw => k_is)
  (case e_law_draw => k_is)
  (case k_law_draw => k_is)
  (case a_law_loadS => k_is)
  (case l_law_loadS => k_is)
  (case e_law_loadS => k_is)
  (case k_law_loadS => k_is)
  (case a_law_peakS => k_is)
  (case l_law_peakS => k_is)
  (case e_law_peakS => k_is)
  (case k_law_peakS => k_is)
  (case a_law_far => k_is)
  (case l_law_far => k_is)
  (case e_law_far => k_is)
  (case k_law_far => k_is)
  (case a_law_rides => k_is)
  (case l_law_rides => k_is)
  (case e_law_rides => k_is)
  (case k_law_rides => k_is)
  (case a_law_words => k_is)
  (case l_law_words => k_is)
  (case e_law_words => k_is)
  (case k_law_words => k_is)
  (case a_law_long_case => k_is)
  (case l_law_long_case => k_is)
  (case e_law_long_case => k_is)
  (case k_law_long_case => k_is)
  (case a_law_no_plan => k_is)
  (case l_law_no_plan => k_is)
  (case e_law_no_plan => k_is)
  (case k_law_no_plan => k_is)
  (case a_law_others => k_is)
  (case l_law_others => k_is)
  (case e_law_others => k_is)
  (case k_law_others => k_is)
  (case a_law_by_start => k_is)
  (case l_law_by_start => k_is)
  (case e_law_by_start => k_is)
  (case k_law_by_start => k_is)
  (case a_law_meet => k_is)
  (case l_law_meet => k_is)
  (case e_law_meet => k_is)
  (case k_law_meet => k_is)
  (case a_law_choices => k_is)
  (case l_law_choices => k_is)
  (case e_law_choices => k_is)
  (case k_law_choices => k_is)
  (case a_law_flat => k_is)
  (case l_law_flat => k_is)
  (case e_law_flat => k_is)
  (case k_law_flat => k_is)
  (case a_law_drawnN => k_is)
  (case l_law_drawnN => k_is)
  (case e_law_drawnN => k_is)
  (case k_law_drawnN => k_is)
  (case a_law_product => k_is)
  (case l_law_product => k_is)
  (case e_law_product => k_is)
  (case k_law_product => k_is)
  (case a_law_sizes => k_is)
  (case l_law_sizes => k_is)
  (case e_law_sizes => k_is)
  (case k_law_sizes => k_is)
  (case a_law_spots_at => k_is)
  (case l_law_spots_at => k_is)
  (case e_law_spots_at => k_is)
  (case k_law_spots_at => k_is)
  (case a_law_some_planN => k_is)
  (case l_law_some_planN => k_is)
  (case e_law_some_planN => k_is)
  (case k_law_some_planN => k_is)
  (case a_law_fault => k_is)
  (case l_law_fault => k_is)
  (case e_law_fault => k_is)
  (case k_law_fault => k_is)
  (case l_Line_trips => k_is)
  (case e_Line_trips => k_is)
  (case k_Line_trips => k_is)
  (case a_check_line => k_is)
  (case l_check_line => k_is)
  (case e_check_line => k_is)
  (case k_check_line => k_is)
  (case l_Line_capacity => k_is)
  (case e_Line_capacity => k_is)
  (case k_Line_capacity => k_is)
  (case a_is_pair => k_is)
  (case l_is_pair => k_is)
  (case e_is_pair => k_is)
  (case k_is_pair => k_is)
  (case a_is_seat => k_is)
  (case l_is_seat => k_is)
  (case e_is_seat => k_is)
  (case k_is_seat => k_is)
  (case a_trip_named => k_is)
  (case l_trip_named => k_is)
  (case e_trip_named => k_is)
  (case k_trip_named => k_is)
  (case a_names_trip_and_seat => k_is)
  (case l_names_trip_and_seat => k_is)
  (case e_names_trip_and_seat => k_is)
  (case k_names_trip_and_seat => k_is)
  (case a_meet => k_is)
  (case l_meet => k_is)
  (case e_meet => k_is)
  (case k_meet => k_is)
  (case a_seats_left => k_is)
  (case l_seats_left => k_is)
  (case e_seats_left => k_is)
  (case k_seats_left => k_is)
  (case a_valid_pairs => k_is)
  (case l_valid_pairs => k_is)
  (case e_valid_pairs => k_is)
  (case k_valid_pairs => k_is)
  (case a_is_plan => k_is)
  (case l_is_plan => k_is)
  (case e_is_plan => k_is)
  (case k_is_plan => k_is)
  (case a_law_told => k_is)
  (case l_law_told => k_is)
  (case e_law_told => k_is)
  (case k_law_told => k_is)
  (case a_law_right11 => k_is)
  (case l_law_right11 => k_is)
  (case e_law_right11 => k_is)
  (case k_law_right11 => k_is)
  (case a_law => k_is)
  (case l_law => k_is)
  (case e_law => k_is)
  (case k_law => k_is)
  (case v_LETTERS => k_is)
  (case v_LONGEST_NAME => k_is)
  (case v_MAX_SEATS => k_is)
  (case v_MAX_TRIPS => k_is)
  (case b_abs => k_is)
  (case b_all => k_is)
  (case b_bool => k_is)
  (case b_dict => k_is)
  (case b_divmod => k_is)
  (case b_enumerate => k_is)
  (case b_int => k_is)
  (case b_isinstance => k_is)
  (case b_len => k_is)
  (case b_list => k_is)
  (case b_max => k_is)
  (case b_min => k_is)
  (case b_range => k_is)
  (case b_repr => k_is)
  (case b_sorted => k_is)
  (case b_str => k_is)
  (case b_tuple => k_is)
  (case b_zip => k_is)
  (case nl => kernel_rfl)
  (case ht => exact PySem.W.km_tabs_of Y _ (by simp)))
