import PyProof.Rows.All
import Wide.All
import OpenK.AllK
import Wide.FinOn
import KE.KNestM
import HandS.EndTab
import HandS.ForMost
import HandS.IsInst
import HandS.Wide
import HandS.Lambda
import KE.SortData
import KE.SortKeyHeap
import HandS.ExcCtx
import PyProof.ReprRoads
import PyProof.StrOps2
import HandS.Property
import KE.GoesEnum
import KE.GoesMore
import KE.KLam
import HandS.Style
import HandS.Defaults
import HandS.ClsMeth
import HandS.ForDict
import KE.KCallOwn
import KE.KFmtOwn
import PyProof.Conv_bool
import HandS.MakeKw
import HandS.FStr
import PyProof.Rows.StrIntSpec
import PyProof.Rows.ReprOcc
import PyProof.ReprText
import HandS.Star
import HandS.TupAny
import HandS.GenList
import KE.DatumOrd
import HandS.SortKw
import HandS.More
import HandS.TryOnly
import OpenK.KMore
import HandS.Set
import HandS.Zip
import HandS.Rev
import HandS.Strs
import PyProof.ListRange
import PyProof.LongRange
import OpenK.KLaw
import HandS.ExcInit
import HandS.HotCalls
import KE.KExcSuper
import KE.KSuper
import KE.KExcInit
import HandS.Flow
import KE.KDictPairs
import KE.KDictZip
import HandS.Deep
import HandS.Iter
import HandS.TupLe
import HandS.CallSlots
import KE.KTryMore
import KE.KExcIs
import HandS.ExcField
import HandS.ExcIs
import HandS.CallLocal
import HandS.SetFor
import HandS.SuiteRaise
import HandS.RaiseFrom
import PySem.Challenge.RW_seatchains_k03_texts_of_lines
set_option Elab.async false
section
open PySem PySem.W PyProof.Rows
def PySem.W.Fast.tw7358183569853149853 : Nat := 0
def PySem.W.Fast.tw3222849647663287425 : Nat := 0
def PySem.W.Fast.tw17690643400401853361 : Nat := 0
def PySem.W.Fast.tw2968903804888547285 : Nat := 0
def PySem.W.Fast.tw5229260877094849492 : Nat := 0
def PySem.W.Fast.tw9550838555809683537 : Nat := 0
def PySem.W.Fast.tw8172087437669512184 : Nat := 0
def PySem.W.Fast.tw12762166581439099819 : Nat := 0
def PySem.W.Fast.tw10831003912353072404 : Nat := 0
def PySem.W.Fast.tw11260521291254821042 : Nat := 0
def PySem.W.Fast.tw4644954391874660841 : Nat := 0
def PySem.W.Fast.tw13636456314997802185 : Nat := 0
def PySem.W.Fast.tw16106905852792283142 : Nat := 0
def PySem.W.Fast.tw11299686248893001783 : Nat := 0
def PySem.W.Fast.tw2734026826868056874 : Nat := 0
def PySem.W.Fast.tw12013578178549402210 : Nat := 0
def PySem.W.Fast.tw17491259333975754016 : Nat := 0
def PySem.W.Fast.tw8674305383635131946 : Nat := 0
def PySem.W.Fast.tw12364628406265035501 : Nat := 0
def PySem.W.Fast.tw10183523064690307749 : Nat := 0
def PySem.W.Fast.tw12677586933185591138 : Nat := 0
def PySem.W.Fast.tw15099665678244062619 : Nat := 0
def PySem.W.Fast.tw18273333492146562683 : Nat := 0
def PySem.W.Fast.tw2798129370222840844 : Nat := 0
def PySem.W.Fast.tw4750002818480446761 : Nat := 0
def PySem.W.Fast.tw749659130650814262 : Nat := 0
def PySem.W.Fast.tw10932459815275902914 : Nat := 0
def PySem.W.Fast.tw7997651509434000724 : Nat := 0
def PySem.W.Fast.tw6405527232453964992 : Nat := 0
def PySem.W.Fast.tw5481033403038107909 : Nat := 0
def PySem.W.Fast.tw13289819919650170609 : Nat := 0
def PySem.W.Fast.tw5647316089682402399 : Nat := 0
def PySem.W.Fast.tw1441739957104798869 : Nat := 0
def PySem.W.Fast.tw9498724331003387672 : Nat := 0
def PySem.W.Fast.tw709517549714979575 : Nat := 0
def PySem.W.Fast.tw11444643791073935140 : Nat := 0
def PySem.W.Fast.tw2725275948411115451 : Nat := 0
def PySem.W.Fast.tw880268490082799594 : Nat := 0
def PySem.W.Fast.tw3084717781610087960 : Nat := 0
def PySem.W.Fast.tw8452411140527762742 : Nat := 0
def PySem.W.Fast.tw8089742118691096506 : Nat := 0
def PySem.W.Fast.tw1156818786284805643 : Nat := 0
def PySem.W.Fast.tw15405240911332579033 : Nat := 0
def PySem.W.Fast.tw6814188032471348625 : Nat := 0
def PySem.W.Fast.tw5572911053660578276 : Nat := 0
def PySem.W.Fast.tw16242069049638219346 : Nat := 0
def PySem.W.Fast.tw8610630348280065644 : Nat := 0
def PySem.W.Fast.tw7084161114816536077 : Nat := 0
def PySem.W.Fast.tw2797137760206577511 : Nat := 0
def PySem.W.Fast.tw4549870981672014332 : Nat := 0
def PySem.W.Fast.tw8919262459235516264 : Nat := 0
def PySem.W.Fast.tw7632205638528082595 : Nat := 0
def PySem.W.Fast.tw14989379622277966347 : Nat := 0
def PySem.W.Fast.tw3280304771504146024 : Nat := 0
def PySem.W.Fast.tw15903996233728978366 : Nat := 0
def PySem.W.Fast.tw9515010311112586530 : Nat := 0
def PySem.W.Fast.tw15788003407349409733 : Nat := 0
def PySem.W.Fast.tw18120745638732398022 : Nat := 0
def PySem.W.Fast.tw2628161377698138909 : Nat := 0
def PySem.W.Fast.tw12647225766734031915 : Nat := 0
def PySem.W.Fast.tw9134223267858640661 : Nat := 0
def PySem.W.Fast.tw6824089366948763585 : Nat := 0
def PySem.W.Fast.tw4469274837406266804 : Nat := 0
def PySem.W.Fast.tw2289521572784142728 : Nat := 0
def PySem.W.Fast.tw8902208031455226641 : Nat := 0
def PySem.W.Fast.tw2850681892557665889 : Nat := 0
def PySem.W.Fast.tw17536605729608916764 : Nat := 0
def PySem.W.Fast.tw3584974694618210080 : Nat := 0
def PySem.W.Fast.tw10005015771896198850 : Nat := 0
def PySem.W.Fast.tw5102984862571924168 : Nat := 0
def PySem.W.Fast.tw3851146774606473421 : Nat := 0
def PySem.W.Fast.tw84101111696485834 : Nat := 0
def PySem.W.Fast.tw6658061397258609944 : Nat := 0
def PySem.W.Fast.tw15825078195741822520 : Nat := 0
def PySem.W.Fast.tw11838602841225188532 : Nat := 0
def PySem.W.Fast.tw13858205278361285051 : Nat := 0
def PySem.W.Fast.tw18143282348871868813 : Nat := 0
def PySem.W.Fast.tw5333463148867068064 : Nat := 0
def PySem.W.Fast.tw1171016276741578784 : Nat := 0
def PySem.W.Fast.tw8165035810732550122 : Nat := 0
def PySem.W.Fast.tw2982550864960438929 : Nat := 0
def PySem.W.Fast.tw8558703739693087201 : Nat := 0
def PySem.W.Fast.tw7166117020998391332 : Nat := 0
def PySem.W.Fast.tw17112657110970707595 : Nat := 0
def PySem.W.Fast.tw1013458567883897046 : Nat := 0
def PySem.W.Fast.tw12252209198161110461 : Nat := 0
def PySem.W.Fast.tw14769730592399680427 : Nat := 0
def PySem.W.Fast.tw4332998550845622751 : Nat := 0
def PySem.W.Fast.tw12021729786065646690 : Nat := 0
def PySem.W.Fast.tw11321781367062952696 : Nat := 0
def PySem.W.Fast.tw7522956821337650554 : Nat := 0
def PySem.W.Fast.tw835202746038703576 : Nat := 0
def PySem.W.Fast.tw9482002607560355050 : Nat := 0
def PySem.W.Fast.tw9738245565331876939 : Nat := 0
def PySem.W.Fast.tw15345094761314904560 : Nat := 0
def PySem.W.Fast.tw5409650232898802264 : Nat := 0
def PySem.W.Fast.tw3809073194320630092 : Nat := 0
def PySem.W.Fast.tw18189655388549616270 : Nat := 0
def PySem.W.Fast.tw13089443775676180289 : Nat := 0
def PySem.W.Fast.tw4902504009650009173 : Nat := 0
def PySem.W.Fast.tw15975362304610539484 : Nat := 0
def PySem.W.Fast.tw9002925397365722847 : Nat := 0
def PySem.W.Fast.tw13654155880253117274 : Nat := 0
def PySem.W.Fast.tw15481988473774983853 : Nat := 0
def PySem.W.Fast.tw4781531677076955483 : Nat := 0
def PySem.W.Fast.tw912660379105815635 : Nat := 0
def PySem.W.Fast.tw6137259686141187405 : Nat := 0
def PySem.W.Fast.tw14619028383400757247 : Nat := 0
def PySem.W.Fast.tw5082116219661528835 : Nat := 0
def PySem.W.Fast.tw1525641842821389615 : Nat := 0
def PySem.W.Fast.tw7788564112335271133 : Nat := 0
def PySem.W.Fast.tw1153464651152082434 : Nat := 0
def PySem.W.Fast.tw16791138631815894850 : Nat := 0
def PySem.W.Fast.tw16091995071595300198 : Nat := 0
def PySem.W.Fast.tw13823008634664063906 : Nat := 0
def PySem.W.Fast.tw16096905007549516809 : Nat := 0
def PySem.W.Fast.tw5089460571048541513 : Nat := 0
def PySem.W.Fast.tw16161213901423712915 : Nat := 0
def PySem.W.Fast.tw5755688954846255460 : Nat := 0
def PySem.W.Fast.tw12679901958842873119 : Nat := 0
def PySem.W.Fast.tw15522026578205179210 : Nat := 0
def PySem.W.Fast.tw8858911235115801343 : Nat := 0
def PySem.W.Fast.tw4063224261623403324 : Nat := 0
def PySem.W.Fast.tw17152008874055210272 : Nat := 0
def PySem.W.Fast.tw1161051736316890399 : Nat := 0
def PySem.W.Fast.tw9345807976389634851 : Nat := 0
def PySem.W.Fast.tw1324158682045385162 : Nat := 0
def PySem.W.Fast.tw11941542823884102733 : Nat := 0
def PySem.W.Fast.tw11959414221942540787 : Nat := 0
def PySem.W.Fast.tw5287404540916849507 : Nat := 0
def PySem.W.Fast.tw2412307185279793903 : Nat := 0
def PySem.W.Fast.tw1468685668964192321 : Nat := 0
def PySem.W.Fast.tw7745297526718471064 : Nat := 0
def PySem.W.Fast.tw15337110368103575866 : Nat := 0
def PySem.W.Fast.tw9949600295917866670 : Nat := 0
def PySem.W.Fast.tw9013912548961248672 : Nat := 0
def PySem.W.Fast.tw2253432898037522768 : Nat := 0
def PySem.W.Fast.tw10595075514781623609 : Nat := 0
def PySem.W.Fast.tw3180627201593912660 : Nat := 0
def PySem.W.Fast.tw1815838057576400001 : Nat := 0
def PySem.W.Fast.tw11631218144903526970 : Nat := 0
def PySem.W.Fast.tw1217398646155355443 : Nat := 0
def PySem.W.Fast.tw14777062931462619359 : Nat := 0
def PySem.W.Fast.tw17562443121890515315 : Nat := 0
def PySem.W.Fast.tw5487032263194559775 : Nat := 0
def PySem.W.Fast.tw1086482487483358233 : Nat := 0
def PySem.W.Fast.tw500987992577135086 : Nat := 0
def PySem.W.Fast.tw8503135273230453028 : Nat := 0
def PySem.W.Fast.tw10653067898754889703 : Nat := 0
def PySem.W.Fast.tw707308062909515848 : Nat := 0
def PySem.W.Fast.tw8094452730205521222 : Nat := 0
def PySem.W.Fast.tw4515565406232619204 : Nat := 0
def PySem.W.Fast.tw18257961315045838 : Nat := 0
def PySem.W.Fast.tw17803456723614626369 : Nat := 0
def PySem.W.Fast.tw8517665166162505673 : Nat := 0
def PySem.W.Fast.tw14073533628255297723 : Nat := 0
def PySem.W.Fast.tw4990444114320055124 : Nat := 0
def PySem.W.Fast.tw7149824082443638943 : Nat := 0
def PySem.W.Fast.tw16726909947593916153 : Nat := 0
def PySem.W.Fast.tw6416686698829321929 : Nat := 0
def PySem.W.Fast.tw53833244725671941 : Nat := 0
def PySem.W.Fast.tw1596220157284476183 : Nat := 0
def PySem.W.Fast.tw887592514608506223 : Nat := 0
def PySem.W.Fast.tw8466863391766919168 : Nat := 0
def PySem.W.Fast.tw373866119043168472 : Nat := 0
def PySem.W.Fast.tw11244914276252382430 : Nat := 0
def PySem.W.Fast.tw9852114086594586946 : Nat := 0
def PySem.W.Fast.tw5624961686626457269 : Nat := 0
def PySem.W.Fast.tw347267102107190473 : Nat := 0
def PySem.W.Fast.tw7716220404903952198 : Nat := 0
def PySem.W.Fast.tw214329032643498840 : Nat := 0
def PySem.W.Fast.tw7259456548156334632 : Nat := 0
def PySem.W.Fast.tw9894879019874414721 : Nat := 0
def PySem.W.Fast.tw65634320700442899 : Nat := 0
def PySem.W.Fast.tw17758248658531795692 : Nat := 0
def PySem.W.Fast.tw16963594134572276649 : Nat := 0
def PySem.W.Fast.tw3689078246519381635 : Nat := 0
def PySem.W.Fast.tw13976208307314361609 : Nat := 0
def PySem.W.Fast.tw6855559092048147964 : Nat := 0
def PySem.W.Fast.tw5559016319070744100 : Nat := 0
def PySem.W.Fast.tw12296459986870131080 : Nat := 0
def PySem.W.Fast.tw6104808674490954801 : Nat := 0
def PySem.W.Fast.tw8767383499521828370 : Nat := 0
def PySem.W.Fast.tw16140391847643114990 : Nat := 0
def PySem.W.Fast.tw9258724969333614819 : Nat := 0
def PySem.W.Fast.tw13739061799725841085 : Nat := 0
def PySem.W.Fast.tw14121108384498627489 : Nat := 0
def PySem.W.Fast.tw5596083994168464224 : Nat := 0
def PySem.W.Fast.tw12103095411599223456 : Nat := 0
def PySem.W.Fast.tw16287177407206152258 : Nat := 0
def PySem.W.Fast.tw10737761903170206812 : Nat := 0
def PySem.W.Fast.tw9776678276736202706 : Nat := 0
def PySem.W.Fast.tw2965582208933408495 : Nat := 0
def PySem.W.Fast.tw7972730550511009593 : Nat := 0
def PySem.W.Fast.tw12691680923203623026 : Nat := 0
def PySem.W.Fast.tw3656851868959293571 : Nat := 0
def PySem.W.Fast.tw12634544221256447916 : Nat := 0
def PySem.W.Fast.tw4282438152245183557 : Nat := 0
def PySem.W.Fast.tw13818729885373699162 : Nat := 0
def PySem.W.Fast.tw10318127128721147491 : Nat := 0
def PySem.W.Fast.tw8280955053124561621 : Nat := 0
def PySem.W.Fast.tw4218857913292122759 : Nat := 0
def PySem.W.Fast.tw1299700567206154743 : Nat := 0
def PySem.W.Fast.tw8626905801537907121 : Nat := 0
def PySem.W.Fast.tw11260630224786289556 : Nat := 0
def PySem.W.Fast.tw16245629397223428091 : Nat := 0
def PySem.W.Fast.tw17523270396397344706 : Nat := 0
def PySem.W.Fast.tw4003515679233661807 : Nat := 0
def PySem.W.Fast.tw4419454436030268164 : Nat := 0
def PySem.W.Fast.tw10273492304238146403 : Nat := 0
def PySem.W.Fast.tw3985908917481014946 : Nat := 0
def PySem.W.Fast.tw9154692761485391538 : Nat := 0
def PySem.W.Fast.tw350359268542683703 : Nat := 0
def PySem.W.Fast.tw1124959711214552646 : Nat := 0
def PySem.W.Fast.tw1155795327751165720 : Nat := 0
def PySem.W.Fast.tw5487071261684806666 : Nat := 0
def PySem.W.Fast.tw17311240420955798265 : Nat := 0
def PySem.W.Fast.tw13054291710345264762 : Nat := 0
def PySem.W.Fast.tw7391280655429976774 : Nat := 0
def PySem.W.Fast.tw3248157290216893267 : Nat := 0
def PySem.W.Fast.tw6342022990332171190 : Nat := 0
def PySem.W.Fast.tw4866331354019713982 : Nat := 0
def PySem.W.Fast.tw15260349968806993806 : Nat := 0
def PySem.W.Fast.tw12765073420791414378 : Nat := 0
def PySem.W.Fast.tw12074974608559555743 : Nat := 0
def PySem.W.Fast.tw12885501307599320170 : Nat := 0
def PySem.W.Fast.tw10018766455414739529 : Nat := 0
def PySem.W.Fast.tw7584762335128973773 : Nat := 0
def PySem.W.Fast.tw8158701204551797825 : Nat := 0
def PySem.W.Fast.tw12943805431859902059 : Nat := 0
def PySem.W.Fast.tw7277154357191074842 : Nat := 0
def PySem.W.Fast.tw4178535460947789122 : Nat := 0
def PySem.W.Fast.tw18430378219662572326 : Nat := 0
def PySem.W.Fast.tw16364561964624828754 : Nat := 0
def PySem.W.Fast.tw10737617642293942236 : Nat := 0
def PySem.W.Fast.tw18126349555818694768 : Nat := 0
def PySem.W.Fast.tw5459240923402609406 : Nat := 0
def PySem.W.Fast.tw6252869679042056262 : Nat := 0
def PySem.W.Fast.tw15675702979502077552 : Nat := 0
def PySem.W.Fast.tw17628107302621226593 : Nat := 0
def PySem.W.Fast.tw14357526560426681153 : Nat := 0
def PySem.W.Fast.tw17328591173485145 : Nat := 0
def PySem.W.Fast.tw6391857654020974333 : Nat := 0
def PySem.W.Fast.tw7934418018684759642 : Nat := 0
def PySem.W.Fast.tw15784023053457500108 : Nat := 0
def PySem.W.Fast.tw4688992496112905173 : Nat := 0
def PySem.W.Fast.tw12189365432705880543 : Nat := 0
def PySem.W.Fast.tw9800670702906221683 : Nat := 0
def PySem.W.Fast.tw4935897374935580406 : Nat := 0
def PySem.W.Fast.tw16043061594267234111 : Nat := 0
def PySem.W.Fast.tw14598466812709364402 : Nat := 0
def PySem.W.Fast.tw16355017729714604791 : Nat := 0
def PySem.W.Fast.tw489302755385065823 : Nat := 0
def PySem.W.Fast.tw5838357535691022897 : Nat := 0
def PySem.W.Fast.tw14012238605415597818 : Nat := 0
def PySem.W.Fast.tw10508842401811227185 : Nat := 0
def PySem.W.Fast.tw11428340885139964755 : Nat := 0
def PySem.W.Fast.tw13398287017320529830 : Nat := 0
def PySem.W.Fast.tw13320944277117790768 : Nat := 0
def PySem.W.Fast.tw11640239306364104636 : Nat := 0
def PySem.W.Fast.tw7984470810858382409 : Nat := 0
def PySem.W.Fast.tw15209277922889016984 : Nat := 0
def PySem.W.Fast.tw16448583068680951352 : Nat := 0
def PySem.W.Fast.tw4925738339908783877 : Nat := 0
def PySem.W.Fast.tw6447258169100400369 : Nat := 0
def PySem.W.Fast.tw1836341333225732300 : Nat := 0
def PySem.W.Fast.tw5811377791480521285 : Nat := 0
def PySem.W.Fast.tw17751236755269962361 : Nat := 0
def PySem.W.Fast.tw4320724542584447137 : Nat := 0
def PySem.W.Fast.tw11896963476173845830 : Nat := 0
def PySem.W.Fast.tw17451819873242544849 : Nat := 0
def PySem.W.Fast.tw13626352857044567657 : Nat := 0
def PySem.W.Fast.tw10486812514365002624 : Nat := 0
def PySem.W.Fast.tw5815084844820304141 : Nat := 0
def PySem.W.Fast.tw14148934044748053774 : Nat := 0
def PySem.W.Fast.tw3411797867886805818 : Nat := 0
def PySem.W.Fast.tw781946986694279747 : Nat := 0
def PySem.W.Fast.tw7445378032643922300 : Nat := 0
def PySem.W.Fast.tw1281445595690585980 : Nat := 0
def PySem.W.Fast.tw15996389961300517051 : Nat := 0
def PySem.W.Fast.tw3305192799720461468 : Nat := 0
def PySem.W.Fast.tw5312917507759627607 : Nat := 0
def PySem.W.Fast.tw17525543108963296786 : Nat := 0
def PySem.W.Fast.tw14067542682048664011 : Nat := 0
def PySem.W.Fast.tw14229688581147290810 : Nat := 0
def PySem.W.Fast.tw18003919196735096681 : Nat := 0
def PySem.W.Fast.tw5528047259605492299 : Nat := 0
def PySem.W.Fast.tw7067578570255153977 : Nat := 0
def PySem.W.Fast.tw3169895561551166837 : Nat := 0
def PySem.W.Fast.tw13549404194090378161 : Nat := 0
def PySem.W.Fast.tw1852356185734612660 : Nat := 0
def PySem.W.Fast.tw639385539913050561 : Nat := 0
def PySem.W.Fast.tw4545905974542715363 : Nat := 0
def PySem.W.Fast.tw3770813666369444140 : Nat := 0
def PySem.W.Fast.tw11510738035932713823 : Nat := 0
def PySem.W.Fast.tw4279882087200359337 : Nat := 0
def PySem.W.Fast.tw6424870834982378142 : Nat := 0
def PySem.W.Fast.tw10271539643512491574 : Nat := 0
def PySem.W.Fast.tw1531749428218406048 : Nat := 0
def PySem.W.Fast.tw17712117499061162219 : Nat := 0
def PySem.W.Fast.tw9242458834787558583 : Nat := 0
def PySem.W.Fast.tw4167687071958651810 : Nat := 0
def PySem.W.Fast.tw18433199431545734845 : Nat := 0
def PySem.W.Fast.tw5292735055045390764 : Nat := 0
def PySem.W.Fast.tw3297798232080307902 : Nat := 0
def PySem.W.Fast.tw7259400363371100807 : Nat := 0
def PySem.W.Fast.tw11645624562389827515 : Nat := 0
def PySem.W.Fast.tw17460972040738754212 : Nat := 0
def PySem.W.Fast.tw6788418652457856464 : Nat := 0
def PySem.W.Fast.tw18325301230301636717 : Nat := 0
def PySem.W.Fast.tw7939102175974669549 : Nat := 0
def PySem.W.Fast.tw6921019104115425275 : Nat := 0
def PySem.W.Fast.tw5724077330435434790 : Nat := 0
def PySem.W.Fast.tw11445693028359750696 : Nat := 0
def PySem.W.Fast.tw3147875266170382396 : Nat := 0
def PySem.W.Fast.tw2914837818938193850 : Nat := 0
def PySem.W.Fast.tw2895394014252131400 : Nat := 0
def PySem.W.Fast.tw14622216944285737318 : Nat := 0
def PySem.W.Fast.tw1423926752758026713 : Nat := 0
def PySem.W.Fast.tw4182414656720067509 : Nat := 0
def PySem.W.Fast.tw1608830339001328577 : Nat := 0
def PySem.W.Fast.tw335734904675234618 : Nat := 0
def PySem.W.Fast.tw3643929857302894601 : Nat := 0
def PySem.W.Fast.tw4371207160553707031 : Nat := 0
def PySem.W.Fast.tw16068140579160435783 : Nat := 0
def PySem.W.Fast.tw5757834836303209922 : Nat := 0
def PySem.W.Fast.tw13418988320600423883 : Nat := 0
def PySem.W.Fast.tw527905144781960517 : Nat := 0
def PySem.W.Fast.tw7804929422074803734 : Nat := 0
def PySem.W.Fast.tw14343670216976813372 : Nat := 0
def PySem.W.Fast.tw14223994196177376296 : Nat := 0
def PySem.W.Fast.tw14996262024382506504 : Nat := 0
def PySem.W.Fast.tw2783708721791582418 : Nat := 0
def PySem.W.Fast.tw2532309941107606720 : Nat := 0
def PySem.W.Fast.tw11976045582298956106 : Nat := 0
def PySem.W.Fast.tw1233110303289150159 : Nat := 0
def PySem.W.Fast.tw9694128711914063975 : Nat := 0
def PySem.W.Fast.tw2595367957081054998 : Nat := 0
def PySem.W.Fast.tw7663583562092995592 : Nat := 0
def PySem.W.Fast.tw3058295670959745100 : Nat := 0
def PySem.W.Fast.tw9473396494285408879 : Nat := 0
def PySem.W.Fast.tw13970415139022973967 : Nat := 0
def PySem.W.Fast.tw15559044052046391807 : Nat := 0
def PySem.W.Fast.tw2587455748153341695 : Nat := 0
def PySem.W.Fast.tw447435893368867785 : Nat := 0
def PySem.W.Fast.tw14976377242010756227 : Nat := 0
def PySem.W.Fast.tw12893775623604565486 : Nat := 0
def PySem.W.Fast.tw3478142912143527287 : Nat := 0
def PySem.W.Fast.tw7151973544578125286 : Nat := 0
def PySem.W.Fast.tw8585059407403281309 : Nat := 0
def PySem.W.Fast.tw426322239867445303 : Nat := 0
def PySem.W.Fast.tw5368680087125839538 : Nat := 0
def PySem.W.Fast.tw4006876346983272492 : Nat := 0
def PySem.W.Fast.tw13727647837677027150 : Nat := 0
def PySem.W.Fast.tw1517468125351790595 : Nat := 0
def PySem.W.Fast.tw6953104734329712975 : Nat := 0
def PySem.W.Fast.tw16215055707620523069 : Nat := 0
def PySem.W.Fast.tw6625048302558261218 : Nat := 0
def PySem.W.Fast.tw13244343789260693254 : Nat := 0
def PySem.W.Fast.tw16126642914642029043 : Nat := 0
def PySem.W.Fast.tw5129286333842704138 : Nat := 0
def PySem.W.Fast.tw17997812118845993468 : Nat := 0
def PySem.W.Fast.tw12018794073281962037 : Nat := 0
def PySem.W.Fast.tw1762819970534779987 : Nat := 0
def PySem.W.Fast.tw12422940081202236731 : Nat := 0
def PySem.W.Fast.tw6786278430642490995 : Nat := 0
def PySem.W.Fast.tw6476314889479268303 : Nat := 0
def PySem.W.Fast.tw15490303596262795325 : Nat := 0
def PySem.W.Fast.tw7038073742217717612 : Nat := 0
def PySem.W.Fast.tw3067575694427766686 : Nat := 0
def PySem.W.Fast.tw4541390929559867127 : Nat := 0
def PySem.W.Fast.tw530439119015090998 : Nat := 0
def PySem.W.Fast.tw3652706870149932636 : Nat := 0
def PySem.W.Fast.tw14759974181413113827 : Nat := 0
def PySem.W.Fast.tw7661706056568329754 : Nat := 0
def PySem.W.Fast.tw7872236944315473461 : Nat := 0
def PySem.W.Fast.tw14596269659226943835 : Nat := 0
def PySem.W.Fast.tw7352615821976552464 : Nat := 0
def PySem.W.Fast.tw6679770525118145516 : Nat := 0
def PySem.W.Fast.tw10336962532983866558 : Nat := 0
def PySem.W.Fast.tw11760262794931614373 : Nat := 0
def PySem.W.Fast.tw17563440664993534316 : Nat := 0
def PySem.W.Fast.tw12319851207656266662 : Nat := 0
def PySem.W.Fast.tw11845803605937518571 : Nat := 0
def PySem.W.Fast.tw11370375584008412814 : Nat := 0
def PySem.W.Fast.tw10389798683461528370 : Nat := 0
def PySem.W.Fast.tw10516173973614631794 : Nat := 0
def PySem.W.Fast.tw5786858904463926982 : Nat := 0
def PySem.W.Fast.tw15419477248757368055 : Nat := 0
def PySem.W.Fast.tw17662489056607451109 : Nat := 0
def PySem.W.Fast.tw1490919840786849904 : Nat := 0
def PySem.W.Fast.tw3207877307408667196 : Nat := 0
def PySem.W.Fast.tw1056569484971350388 : Nat := 0
def PySem.W.Fast.tw8661699317517216605 : Nat := 0
def PySem.W.Fast.tw11700605474052957210 : Nat := 0
def PySem.W.Fast.tw15311321514281636661 : Nat := 0
def PySem.W.Fast.tw14963099800869476798 : Nat := 0
def PySem.W.Fast.tw16114796162478280501 : Nat := 0
def PySem.W.Fast.tw1553931007626941186 : Nat := 0
def PySem.W.Fast.tw5071878867424222096 : Nat := 0
def PySem.W.Fast.tw5654233963497825394 : Nat := 0
def PySem.W.Fast.tw17261303219906694296 : Nat := 0
def PySem.W.Fast.tw3950076949367414134 : Nat := 0
def PySem.W.Fast.tw17131178256436831316 : Nat := 0
def PySem.W.Fast.tw3551980665117874361 : Nat := 0
def PySem.W.Fast.tw13372588152681150867 : Nat := 0
def PySem.W.Fast.tw5517902080834739981 : Nat := 0
def PySem.W.Fast.tw18329239920218921956 : Nat := 0
def PySem.W.Fast.tw7968657252915248004 : Nat := 0
def PySem.W.Fast.tw1755304988803569856 : Nat := 0
def PySem.W.Fast.tw651554742324506991 : Nat := 0
def PySem.W.Fast.tw4722605016773793726 : Nat := 0
def PySem.W.Fast.tw296003929055457046 : Nat := 0
def PySem.W.Fast.tw3110549873415583359 : Nat := 0
def PySem.W.Fast.tw6438890440859013514 : Nat := 0
def PySem.W.Fast.tw17704779231786645841 : Nat := 0
def PySem.W.Fast.tw12202902067154636187 : Nat := 0
def PySem.W.Fast.tw18204545942526482648 : Nat := 0
def PySem.W.Fast.tw4954645812005055364 : Nat := 0
def PySem.W.Fast.tw14943742016301403879 : Nat := 0
def PySem.W.Fast.tw2541363854088372311 : Nat := 0
def PySem.W.Fast.tw10595757402083052021 : Nat := 0
def PySem.W.Fast.tw7382853432509465790 : Nat := 0
def PySem.W.Fast.tw11574459595018904169 : Nat := 0
def PySem.W.Fast.tw8093395837393749168 : Nat := 0
def PySem.W.Fast.tw15493115675240766035 : Nat := 0
def PySem.W.Fast.tw3727688619241679107 : Nat := 0
def PySem.W.Fast.tw11128152168786980402 : Nat := 0
def PySem.W.Fast.tw12974864688314441050 : Nat := 0
def PySem.W.Fast.tw16643113902788184362 : Nat := 0
def PySem.W.Fast.tw17132138552111807190 : Nat := 0
def PySem.W.Fast.tw7666387206160153410 : Nat := 0
def PySem.W.Fast.tw8807124596746865039 : Nat := 0
def PySem.W.Fast.tw15861572651196200636 : Nat := 0
def PySem.W.Fast.tw3807403208158001013 : Nat := 0
def PySem.W.Fast.tw2245930718119326184 : Nat := 0
def PySem.W.Fast.tw13168847590653800978 : Nat := 0
def PySem.W.Fast.tw7120711092217924952 : Nat := 0
def PySem.W.Fast.tw15169149125423230560 : Nat := 0
def PySem.W.Fast.tw2216435956028555689 : Nat := 0
def PySem.W.Fast.tw9094674495420737272 : Nat := 0
def PySem.W.Fast.tw7367250944859814621 : Nat := 0
def PySem.W.Fast.tw12597387453999247808 : Nat := 0
def PySem.W.Fast.tw5683909785711300683 : Nat := 0
def PySem.W.Fast.tw16905360230290076256 : Nat := 0
def PySem.W.Fast.tw4947280356578037399 : Nat := 0
def PySem.W.Fast.tw8487810716920869227 : Nat := 0
def PySem.W.Fast.tw7222723277137258726 : Nat := 0
def PySem.W.Fast.tw17122171785237725897 : Nat := 0
def PySem.W.Fast.tw16932041609395967859 : Nat := 0
def PySem.W.Fast.tw2505917548541887559 : Nat := 0
def PySem.W.Fast.tw5420079251845987997 : Nat := 0
def PySem.W.Fast.tw16729020453549369160 : Nat := 0
def PySem.W.Fast.tw3260684109111004037 : Nat := 0
def PySem.W.Fast.tw6181926691146623282 : Nat := 0
def PySem.W.Fast.tw4308383575338604647 : Nat := 0
def PySem.W.Fast.tw879271131465670049 : Nat := 0
def PySem.W.Fast.tw5889828708419260491 : Nat := 0
def PySem.W.Fast.tw1417511808052480195 : Nat := 0
def PySem.W.Fast.tw9763534734597760539 : Nat := 0
def PySem.W.Fast.tw12592199140616630267 : Nat := 0
def PySem.W.Fast.tw5616555554665137646 : Nat := 0
def PySem.W.Fast.tw16218652453389612146 : Nat := 0
def PySem.W.Fast.tw10946693889467157399 : Nat := 0
def PySem.W.Fast.tw2097618409867515249 : Nat := 0
def PySem.W.Fast.tw2079205482526213696 : Nat := 0
def PySem.W.Fast.tw1614589012395158185 : Nat := 0
def PySem.W.Fast.tw5347971746983391250 : Nat := 0
def PySem.W.Fast.tw2813237772498292729 : Nat := 0
def PySem.W.Fast.tw1925644822135234711 : Nat := 0
def PySem.W.Fast.tw3527632235391056038 : Nat := 0
def PySem.W.Fast.tw1717964466890925605 : Nat := 0
def PySem.W.Fast.tw2236104790106666435 : Nat := 0
def PySem.W.Fast.tw10468279504255573596 : Nat := 0
def PySem.W.Fast.tw13683902234811112443 : Nat := 0
def PySem.W.Fast.tw14605556088406926142 : Nat := 0
def PySem.W.Fast.tw5508061991750113097 : Nat := 0
def PySem.W.Fast.tw7799352503440610693 : Nat := 0
def PySem.W.Fast.tw18286313140899071413 : Nat := 0
def PySem.W.Fast.tw17159340526669892399 : Nat := 0
def PySem.W.Fast.tw12554689362040341295 : Nat := 0
def PySem.W.Fast.tw3573175265862320220 : Nat := 0
def PySem.W.Fast.tw10662674832036066592 : Nat := 0
def PySem.W.Fast.tw16124738593844861868 : Nat := 0
def PySem.W.Fast.tw1417573569335960191 : Nat := 0
def PySem.W.Fast.tw18064871579512650034 : Nat := 0
def PySem.W.Fast.tw13621090981721586620 : Nat := 0
def PySem.W.Fast.tw17096202013058996694 : Nat := 0
def PySem.W.Fast.tw2514670530265393212 : Nat := 0
def PySem.W.Fast.tw9482235439331288752 : Nat := 0
def PySem.W.Fast.tw6473001348015713600 : Nat := 0
def PySem.W.Fast.tw1681873364822485838 : Nat := 0
def PySem.W.Fast.tw14394202451404904319 : Nat := 0
def PySem.W.Fast.tw9144661512161195934 : Nat := 0
def PySem.W.Fast.tw7279900845898587409 : Nat := 0
def PySem.W.Fast.tw3744590469230290350 : Nat := 0
def PySem.W.Fast.tw10489214806021005349 : Nat := 0
def PySem.W.Fast.tw15559236714811450618 : Nat := 0
def PySem.W.Fast.tw7823238238631768587 : Nat := 0
def PySem.W.Fast.tw4557008419199703510 : Nat := 0
def PySem.W.Fast.tw295107490664041271 : Nat := 0
def PySem.W.Fast.tw16446490725217472856 : Nat := 0
def PySem.W.Fast.tw9615741449701077112 : Nat := 0
def PySem.W.Fast.tw7763596044565922985 : Nat := 0
def PySem.W.Fast.tw11042572284345519682 : Nat := 0
def PySem.W.Fast.tw9175398648541932182 : Nat := 0
def PySem.W.Fast.tw1864626422415719202 : Nat := 0
def PySem.W.Fast.tw10490086182443309128 : Nat := 0
def PySem.W.Fast.tw15375873770147800660 : Nat := 0
def PySem.W.Fast.tw1849708255301034535 : Nat := 0
def PySem.W.Fast.tw8207002429101488458 : Nat := 0
def PySem.W.Fast.tw15274125771903570908 : Nat := 0
def PySem.W.Fast.tw2038589352562726542 : Nat := 0
def PySem.W.Fast.tw13438327555398111988 : Nat := 0
def PySem.W.Fast.tw644452993716088445 : Nat := 0
def PySem.W.Fast.tw12575332165678535012 : Nat := 0
def PySem.W.Fast.tw7173214179120187882 : Nat := 0
def PySem.W.Fast.tw16695036619519094840 : Nat := 0
def PySem.W.Fast.tw16378114393564610667 : Nat := 0
def PySem.W.Fast.tw8090362307831714583 : Nat := 0
def PySem.W.Fast.tw13786782327314371043 : Nat := 0
def PySem.W.Fast.tw5352297561024250853 : Nat := 0
def PySem.W.Fast.tw17158662947113143159 : Nat := 0
def PySem.W.Fast.tw13116023222539946263 : Nat := 0
def PySem.W.Fast.tw12554396448867883114 : Nat := 0
def PySem.W.Fast.tw10495368531381172235 : Nat := 0
def PySem.W.Fast.tw13306012973284159819 : Nat := 0
def PySem.W.Fast.tw11172188815107745741 : Nat := 0
def PySem.W.Fast.tw18387323754130738443 : Nat := 0
def PySem.W.Fast.tw6687376323431960468 : Nat := 0
def PySem.W.Fast.tw14704882757425045191 : Nat := 0
def PySem.W.Fast.tw6143369222038336370 : Nat := 0
def PySem.W.Fast.tw9222022842722379763 : Nat := 0
def PySem.W.Fast.tw9088551553712332446 : Nat := 0
def PySem.W.Fast.tw11781853663411203541 : Nat := 0
def PySem.W.Fast.tw14405781909064958653 : Nat := 0
def PySem.W.Fast.tw9247721241882577371 : Nat := 0
def PySem.W.Fast.tw10351619755156993610 : Nat := 0
def PySem.W.Fast.tw14915168180543193593 : Nat := 0
def PySem.W.Fast.tw7161051001125450076 : Nat := 0
def PySem.W.Fast.tw9200485476233470462 : Nat := 0
def PySem.W.Fast.tw17517852266283460539 : Nat := 0
def PySem.W.Fast.tw16395861319384570012 : Nat := 0
def PySem.W.Fast.tw9747970016470437411 : Nat := 0
def PySem.W.Fast.tw3965809232151677576 : Nat := 0
def PySem.W.Fast.tw16893149338042545787 : Nat := 0
def PySem.W.Fast.tw10129330945534592939 : Nat := 0
def PySem.W.Fast.tw14093175793697120044 : Nat := 0
def PySem.W.Fast.tw11792175716083787135 : Nat := 0
def PySem.W.Fast.tw17471242141075720338 : Nat := 0
def PySem.W.Fast.tw555838345000199383 : Nat := 0
def PySem.W.Fast.tw201981506366540773 : Nat := 0
def PySem.W.Fast.tw7688775280151875502 : Nat := 0
def PySem.W.Fast.tw15471963837938801402 : Nat := 0
def PySem.W.Fast.tw1509693377050594261 : Nat := 0
def PySem.W.Fast.tw2378237236521314148 : Nat := 0
def PySem.W.Fast.tw17947811143520989931 : Nat := 0
def PySem.W.Fast.tw11709760619386889909 : Nat := 0
def PySem.W.Fast.tw6536737307338074755 : Nat := 0
def PySem.W.Fast.tw8529923385251254274 : Nat := 0
def PySem.W.Fast.tw5246078691301263202 : Nat := 0
def PySem.W.Fast.tw12974571299283097356 : Nat := 0
def PySem.W.Fast.tw1522723674844147649 : Nat := 0
def PySem.W.Fast.tw17873922626341661151 : Nat := 0
def PySem.W.Fast.tw16312427833315874833 : Nat := 0
def PySem.W.Fast.tw4482572276531591631 : Nat := 0
def PySem.W.Fast.tw10785297908042826834 : Nat := 0
def PySem.W.Fast.tw4528017883093789049 : Nat := 0
def PySem.W.Fast.tw4417388575243906067 : Nat := 0
def PySem.W.Fast.tw1472203626695513958 : Nat := 0
def PySem.W.Fast.tw16319941680645931857 : Nat := 0
def PySem.W.Fast.tw4640301078374372004 : Nat := 0
def PySem.W.Fast.tw13005477885067956242 : Nat := 0
def PySem.W.Fast.tw9559047976163791839 : Nat := 0
def PySem.W.Fast.tw17243040914342621981 : Nat := 0
def PySem.W.Fast.tw9125482190949892196 : Nat := 0
def PySem.W.Fast.tw17639023270432878585 : Nat := 0
def PySem.W.Fast.tw9671325455989010417 : Nat := 0
def PySem.W.Fast.tw13524257418531839862 : Nat := 0
def PySem.W.Fast.tw18299759303371512611 : Nat := 0
def PySem.W.Fast.tw3598921041217457832 : Nat := 0
def PySem.W.Fast.tw3058897602070618759 : Nat := 0
def PySem.W.Fast.tw1406551672753569530 : Nat := 0
def PySem.W.Fast.tw6863392944999215 : Nat := 0
def PySem.W.Fast.tw11994870057915295394 : Nat := 0
def PySem.W.Fast.tw18316501158578625349 : Nat := 0
def PySem.W.Fast.tw4931941729951180943 : Nat := 0
def PySem.W.Fast.tw1988750212254642384 : Nat := 0
def PySem.W.Fast.tw3633870127002672077 : Nat := 0
def PySem.W.Fast.tw1810685721042229918 : Nat := 0
def PySem.W.Fast.tw12886330195551431679 : Nat := 0
def PySem.W.Fast.tw845566796342060262 : Nat := 0
def PySem.W.Fast.tw6981384608350381084 : Nat := 0
def PySem.W.Fast.tw8459217193575184622 : Nat := 0
def PySem.W.Fast.tw3326260174971399020 : Nat := 0
def PySem.W.Fast.tw17980493323684966897 : Nat := 0
def PySem.W.Fast.tw13355537510902757018 : Nat := 0
def PySem.W.Fast.tw5164230004843726380 : Nat := 0
def PySem.W.Fast.tw16606511249038506284 : Nat := 0
def PySem.W.Fast.tw10937321552006408373 : Nat := 0
def PySem.W.Fast.tw6847184913297540589 : Nat := 0
def PySem.W.Fast.tw12309115860506756060 : Nat := 0
def PySem.W.Fast.tw6521616258156928049 : Nat := 0
def PySem.W.Fast.tw6405636878246821695 : Nat := 0
def PySem.W.Fast.tw8098901315234450967 : Nat := 0
def PySem.W.Fast.tw12808884499599338294 : Nat := 0
def PySem.W.Fast.tw3664233094110508756 : Nat := 0
def PySem.W.Fast.tw7601265772245909535 : Nat := 0
def PySem.W.Fast.tw16941830205713213068 : Nat := 0
def PySem.W.Fast.tw16153138072750968725 : Nat := 0
def PySem.W.Fast.tw12133623710584220197 : Nat := 0
def PySem.W.Fast.tw5459350671055941301 : Nat := 0
def PySem.W.Fast.tw16364315787140188050 : Nat := 0
def PySem.W.Fast.tw4258764049672461184 : Nat := 0
def PySem.W.Fast.tw1989791958755127998 : Nat := 0
def PySem.W.Fast.tw7122815731470704846 : Nat := 0
def PySem.W.Fast.tw5048353092653188552 : Nat := 0
def PySem.W.Fast.tw7994685256821825618 : Nat := 0
def PySem.W.Fast.tw3749061637318018524 : Nat := 0
def PySem.W.Fast.tw14424029708376729548 : Nat := 0
def PySem.W.Fast.tw1267912718403331771 : Nat := 0
def PySem.W.Fast.tw10749741654204926449 : Nat := 0
def PySem.W.Fast.tw16251431117526717235 : Nat := 0
def PySem.W.Fast.tw6197443238500559060 : Nat := 0
def PySem.W.Fast.tw11465143308181945182 : Nat := 0
def PySem.W.Fast.tw7305355432548243846 : Nat := 0
def PySem.W.Fast.tw15756788502422944995 : Nat := 0
def PySem.W.Fast.tw14498787351316132301 : Nat := 0
def PySem.W.Fast.tw1850103224567337121 : Nat := 0
def PySem.W.Fast.tw18282269979728377379 : Nat := 0
def PySem.W.Fast.tw10166183948655218252 : Nat := 0
def PySem.W.Fast.tw12088428628907893602 : Nat := 0
def PySem.W.Fast.tw13194756208514632864 : Nat := 0
def PySem.W.Fast.tw2244456579769639632 : Nat := 0
def PySem.W.Fast.tw4699274766172255465 : Nat := 0
def PySem.W.Fast.tw13067880395332231504 : Nat := 0
def PySem.W.Fast.tw11124527715793776289 : Nat := 0
def PySem.W.Fast.tw824580054021667437 : Nat := 0
def PySem.W.Fast.tw1351567867510177620 : Nat := 0
def PySem.W.Fast.tw6416349205050509590 : Nat := 0
def PySem.W.Fast.tw3617923190270828285 : Nat := 0
def PySem.W.Fast.tw12152202882441168120 : Nat := 0
def PySem.W.Fast.tw3328664515243521506 : Nat := 0
def PySem.W.Fast.tw16145660085943126432 : Nat := 0
def PySem.W.Fast.tw12888516981933248408 : Nat := 0
def PySem.W.Fast.tw10920885669628993254 : Nat := 0
def PySem.W.Fast.tw7324280439735641577 : Nat := 0
def PySem.W.Fast.tw14421875540937614605 : Nat := 0
def PySem.W.Fast.tw9603414836318454415 : Nat := 0
def PySem.W.Fast.tw13331579058653029470 : Nat := 0
def PySem.W.Fast.tw1025964062361019772 : Nat := 0
def PySem.W.Fast.tw17397132582120263196 : Nat := 0
def PySem.W.Fast.tw4675891291427362440 : Nat := 0
def PySem.W.Fast.tw18441000655828726318 : Nat := 0
def PySem.W.Fast.tw9529463548267509799 : Nat := 0
def PySem.W.Fast.tw3726492835516920283 : Nat := 0
def PySem.W.Fast.tw6875935889927802049 : Nat := 0
def PySem.W.Fast.tw11413818109282285252 : Nat := 0
def PySem.W.Fast.tw14892009124693692986 : Nat := 0
def PySem.W.Fast.tw14241783834011570314 : Nat := 0
def PySem.W.Fast.tw5186825871830993242 : Nat := 0
def PySem.W.Fast.tw951896575105461894 : Nat := 0
def PySem.W.Fast.tw4149524585965242252 : Nat := 0
def PySem.W.Fast.tw6100533275046648270 : Nat := 0
def PySem.W.Fast.tw8208207480939637631 : Nat := 0
def PySem.W.Fast.tw14632018921055207658 : Nat := 0
def PySem.W.Fast.tw340068974732762642 : Nat := 0
def PySem.W.Fast.tw13791140437641421327 : Nat := 0
def PySem.W.Fast.tw2719837939533201718 : Nat := 0
def PySem.W.Fast.tw13027178771182972523 : Nat := 0
def PySem.W.Fast.tw5034651641519292252 : Nat := 0
def PySem.W.Fast.tw2419285301483241209 : Nat := 0
def PySem.W.Fast.tw17690570198667152210 : Nat := 0
def PySem.W.Fast.tw775780273851457071 : Nat := 0
def PySem.W.Fast.tw7833835145483611729 : Nat := 0
def PySem.W.Fast.tw16848371536813856281 : Nat := 0
def PySem.W.Fast.tw12660014510104990803 : Nat := 0
def PySem.W.Fast.tw12105018750348522353 : Nat := 0
def PySem.W.Fast.tw12756856542541437811 : Nat := 0
def PySem.W.Fast.tw6009057054299863867 : Nat := 0
def PySem.W.Fast.tw8780094769044255748 : Nat := 0
def PySem.W.Fast.tw13276057172179112951 : Nat := 0
def PySem.W.Fast.tw3624190426530660081 : Nat := 0
def PySem.W.Fast.tw12071794170633283560 : Nat := 0
def PySem.W.Fast.tw3192181556178803253 : Nat := 0
def PySem.W.Fast.tw12228894802691336561 : Nat := 0
def PySem.W.Fast.tw6460344915855338780 : Nat := 0
def PySem.W.Fast.tw17242212359317905691 : Nat := 0
def PySem.W.Fast.tw12293424014077613962 : Nat := 0
def PySem.W.Fast.tw133873151248658774 : Nat := 0
def PySem.W.Fast.tw6607436703765757290 : Nat := 0
def PySem.W.Fast.tw5305847803399128202 : Nat := 0
def PySem.W.Fast.tw8566670520120987768 : Nat := 0
def PySem.W.Fast.tw11172281172757920684 : Nat := 0
def PySem.W.Fast.tw9147599319463593722 : Nat := 0
def PySem.W.Fast.tw11102229487312106702 : Nat := 0
def PySem.W.Fast.tw14493383462927498775 : Nat := 0
def PySem.W.Fast.tw442966576333400583 : Nat := 0
def PySem.W.Fast.tw13724390142704668808 : Nat := 0
def PySem.W.Fast.tw16097074694543981618 : Nat := 0
def PySem.W.Fast.tw4117421491499931197 : Nat := 0
def PySem.W.Fast.tw8261963396132355023 : Nat := 0
def PySem.W.Fast.tw18209992093755024081 : Nat := 0
def PySem.W.Fast.tw9876035911529641895 : Nat := 0
def PySem.W.Fast.tw16046820402085181605 : Nat := 0
def PySem.W.Fast.tw16473814726468314690 : Nat := 0
def PySem.W.Fast.tw2839141749112049087 : Nat := 0
def PySem.W.Fast.tw13143399877774659048 : Nat := 0
def PySem.W.Fast.tw6151750479287289084 : Nat := 0
def PySem.W.Fast.tw13143463522622015865 : Nat := 0
def PySem.W.Fast.tw7327826763716567659 : Nat := 0
def PySem.W.Fast.tw1162648798286483558 : Nat := 0
def PySem.W.Fast.tw7036471029002397331 : Nat := 0
def PySem.W.Fast.tw10884782591595392035 : Nat := 0
def PySem.W.Fast.tw14934521078554596118 : Nat := 0
def PySem.W.Fast.tw6023126039978965919 : Nat := 0
def PySem.W.Fast.tw12472671761713541288 : Nat := 0
def PySem.W.Fast.tw14156596407971641769 : Nat := 0
def PySem.W.Fast.tw14234590571586978928 : Nat := 0
def PySem.W.Fast.tw3296520117286649440 : Nat := 0
def PySem.W.Fast.tw9304232800897142703 : Nat := 0
def PySem.W.Fast.tw12286910687322613409 : Nat := 0
def PySem.W.Fast.tw16387742835766312173 : Nat := 0
def PySem.W.Fast.tw291024392191699739 : Nat := 0
def PySem.W.Fast.tw4379782090666601252 : Nat := 0
def PySem.W.Fast.tw17340887585644584297 : Nat := 0
def PySem.W.Fast.tw15977383531177507719 : Nat := 0
def PySem.W.Fast.tw5799339541674991940 : Nat := 0
def PySem.W.Fast.tw17932574414071983879 : Nat := 0
def PySem.W.Fast.tw8773588085387603445 : Nat := 0
def PySem.W.Fast.tw2377925681793611736 : Nat := 0
def PySem.W.Fast.tw7772451572722238018 : Nat := 0
def PySem.W.Fast.tw7652858397125469175 : Nat := 0
def PySem.W.Fast.tw14890491689502706790 : Nat := 0
def PySem.W.Fast.tw539227861459928349 : Nat := 0
def PySem.W.Fast.tw13704803584174642138 : Nat := 0
def PySem.W.Fast.tw4259114023793330988 : Nat := 0
def PySem.W.Fast.tw3136841545890817886 : Nat := 0
def PySem.W.Fast.tw9556356635326821979 : Nat := 0
def PySem.W.Fast.tw5302464546433693433 : Nat := 0
def PySem.W.Fast.tw12899565548171414984 : Nat := 0
def PySem.W.Fast.tw16619044622362771072 : Nat := 0
def PySem.W.Fast.tw10298550533202160912 : Nat := 0
def PySem.W.Fast.tw16583195093517577252 : Nat := 0
def PySem.W.Fast.tw6333312773954794352 : Nat := 0
def PySem.W.Fast.tw4867103732978155270 : Nat := 0
def PySem.W.Fast.tw13943736345688144036 : Nat := 0
def PySem.W.Fast.tw1073612688579559052 : Nat := 0
def PySem.W.Fast.tw6587198597470696755 : Nat := 0
def PySem.W.Fast.tw3520321025635029551 : Nat := 0
def PySem.W.Fast.tw10419220738529690517 : Nat := 0
def PySem.W.Fast.tw14335507143194093036 : Nat := 0
def PySem.W.Fast.tw13949317326883286281 : Nat := 0
def PySem.W.Fast.tw18253265014518833026 : Nat := 0
def PySem.W.Fast.tw16251798913578496300 : Nat := 0
def PySem.W.Fast.tw2263298054870284235 : Nat := 0
def PySem.W.Fast.tw4968176676568230032 : Nat := 0
def PySem.W.Fast.tw16273614386228349265 : Nat := 0
def PySem.W.Fast.tw13258833898006432324 : Nat := 0
def PySem.W.Fast.tw2704679318219450977 : Nat := 0
def PySem.W.Fast.tw7909913724015050212 : Nat := 0
def PySem.W.Fast.tw18394648535359769049 : Nat := 0
def PySem.W.Fast.tw1419879560949330181 : Nat := 0
def PySem.W.Fast.tw6067719606442851894 : Nat := 0
def PySem.W.Fast.tw64189989168862697 : Nat := 0
def PySem.W.Fast.tw8836721967229312065 : Nat := 0
def PySem.W.Fast.tw1447095181521933813 : Nat := 0
def PySem.W.Fast.tw3719940310173934664 : Nat := 0
def PySem.W.Fast.tw15598911289994795847 : Nat := 0
def PySem.W.Fast.tw2707877739277518094 : Nat := 0
def PySem.W.Fast.tw12433858342716780689 : Nat := 0
def PySem.W.Fast.tw799155364657611764 : Nat := 0
def PySem.W.Fast.tw1022253814181542548 : Nat := 0
def PySem.W.Fast.tw13528945289934047848 : Nat := 0
def PySem.W.Fast.tw17495528326940306619 : Nat := 0
def PySem.W.Fast.tw12949282039163299952 : Nat := 0
def PySem.W.Fast.tw3376781499664743302 : Nat := 0
def PySem.W.Fast.tw2168774335545997784 : Nat := 0
def PySem.W.Fast.tw9554923538288691259 : Nat := 0
def PySem.W.Fast.tw7336230787118254913 : Nat := 0
def PySem.W.Fast.tw12310666368372412282 : Nat := 0
def PySem.W.Fast.tw4940365227069255126 : Nat := 0
def PySem.W.Fast.tw11097300900993837781 : Nat := 0
def PySem.W.Fast.tw12988488631313283591 : Nat := 0
def PySem.W.Fast.tw5240977927858401409 : Nat := 0
def PySem.W.Fast.tw18052747379773779692 : Nat := 0
def PySem.W.Fast.tw10426060540560621039 : Nat := 0
def PySem.W.Fast.tw15372560633493759551 : Nat := 0
def PySem.W.Fast.tw11181636071153305980 : Nat := 0
def PySem.W.Fast.tw17100109758259754296 : Nat := 0
def PySem.W.Fast.tw16606306196952975153 : Nat := 0
def PySem.W.Fast.tw17695893088027591963 : Nat := 0
def PySem.W.Fast.tw7946706926113516852 : Nat := 0
def PySem.W.Fast.tw6924608751089333915 : Nat := 0
def PySem.W.Fast.tw13634068413768335111 : Nat := 0
def PySem.W.Fast.tw2668604348554113861 : Nat := 0
def PySem.W.Fast.tw15832012157368864324 : Nat := 0
def PySem.W.Fast.tw11430100841632052399 : Nat := 0
def PySem.W.Fast.tw6719819032907500317 : Nat := 0
def PySem.W.Fast.tw5319799905009810350 : Nat := 0
def PySem.W.Fast.tw17529749438614592100 : Nat := 0
def PySem.W.Fast.tw18371085709221233998 : Nat := 0
def PySem.W.Fast.tw11217740911185380887 : Nat := 0
def PySem.W.Fast.tw14618042613083614500 : Nat := 0
def PySem.W.Fast.tw12715340252524738990 : Nat := 0
def PySem.W.Fast.tw13421989651210435750 : Nat := 0
def PySem.W.Fast.tw1611917236515635497 : Nat := 0
def PySem.W.Fast.tw17661044995441462392 : Nat := 0
def PySem.W.Fast.tw11375167371823168012 : Nat := 0
def PySem.W.Fast.tw4615578027240436116 : Nat := 0
def PySem.W.Fast.tw17469302336823223939 : Nat := 0
def PySem.W.Fast.tw3441290712975485300 : Nat := 0
def PySem.W.Fast.tw3007424225158258821 : Nat := 0
def PySem.W.Fast.tw18086707317942721796 : Nat := 0
def PySem.W.Fast.tw13400772586940670121 : Nat := 0
def PySem.W.Fast.tw6608004325608616726 : Nat := 0
def PySem.W.Fast.tw3740553444004786549 : Nat := 0
def PySem.W.Fast.tw13508636172109147535 : Nat := 0
def PySem.W.Fast.tw3986840673106644821 : Nat := 0
def PySem.W.Fast.tw8606403940106567622 : Nat := 0
def PySem.W.Fast.tw13039571583316658484 : Nat := 0
def PySem.W.Fast.tw3961251175290408104 : Nat := 0
def PySem.W.Fast.tw10143693465809744694 : Nat := 0
def PySem.W.Fast.tw12161311254949568585 : Nat := 0
def PySem.W.Fast.tw1187404809452957443 : Nat := 0
def PySem.W.Fast.tw12569331631170781665 : Nat := 0
def PySem.W.Fast.tw10314221784215389588 : Nat := 0
def PySem.W.Fast.tw13391500320797482072 : Nat := 0
def PySem.W.Fast.tw6095303959401043863 : Nat := 0
def PySem.W.Fast.tw8189357494163869376 : Nat := 0
def PySem.W.Fast.tw3526449221104822590 : Nat := 0
def PySem.W.Fast.tw16580734237183045979 : Nat := 0
def PySem.W.Fast.tw1664741449468880411 : Nat := 0
def PySem.W.Fast.tw937683506386453796 : Nat := 0
def PySem.W.Fast.tw1491480247955652165 : Nat := 0
def PySem.W.Fast.tw8759216442862161339 : Nat := 0
def PySem.W.Fast.tw3626272872651453053 : Nat := 0
def PySem.W.Fast.tw17162878478056602822 : Nat := 0
def PySem.W.Fast.tw15254238383392978843 : Nat := 0
def PySem.W.Fast.tw13542445740059346988 : Nat := 0
def PySem.W.Fast.tw7946303044694664405 : Nat := 0
def PySem.W.Fast.tw5216194421662894104 : Nat := 0
def PySem.W.Fast.tw8701396784492659964 : Nat := 0
def PySem.W.Fast.tw5770231377329360088 : Nat := 0
def PySem.W.Fast.tw16827981138341793292 : Nat := 0
def PySem.W.Fast.tw837830312925495695 : Nat := 0
def PySem.W.Fast.tw13183647075484210393 : Nat := 0
def PySem.W.Fast.tw4173940112695374974 : Nat := 0
def PySem.W.Fast.tw14875666266729844414 : Nat := 0
def PySem.W.Fast.tw4475899942206129403 : Nat := 0
def PySem.W.Fast.tw5939454649861286303 : Nat := 0
def PySem.W.Fast.tw3805082137912728032 : Nat := 0
def PySem.W.Fast.tw7966964108562690020 : Nat := 0
def PySem.W.Fast.tw7270401623433639257 : Nat := 0
def PySem.W.Fast.tw12626187762723642801 : Nat := 0
def PySem.W.Fast.tw2583090020450032430 : Nat := 0
def PySem.W.Fast.tw3089758987350023715 : Nat := 0
def PySem.W.Fast.tw17813035844066309771 : Nat := 0
def PySem.W.Fast.tw213017507973247068 : Nat := 0
def PySem.W.Fast.tw8319670655773885447 : Nat := 0
def PySem.W.Fast.tw1238211591172973502 : Nat := 0
def PySem.W.Fast.tw11758082578450824030 : Nat := 0
def PySem.W.Fast.tw11109226358168125274 : Nat := 0
def PySem.W.Fast.tw4520894478798998003 : Nat := 0
def PySem.W.Fast.tw2896998964885009730 : Nat := 0
def PySem.W.Fast.tw11153650557521038594 : Nat := 0
def PySem.W.Fast.tw12745607613952407295 : Nat := 0
def PySem.W.Fast.tw17133471672461081855 : Nat := 0
def PySem.W.Fast.tw672545295361945839 : Nat := 0
def PySem.W.Fast.tw2333046912670147248 : Nat := 0
def PySem.W.Fast.tw14693541956483375288 : Nat := 0
def PySem.W.Fast.tw1100057976427326323 : Nat := 0
def PySem.W.Fast.tw5919391587349533534 : Nat := 0
def PySem.W.Fast.tw13748085068173870324 : Nat := 0
def PySem.W.Fast.tw3917186377256395372 : Nat := 0
def PySem.W.Fast.tw18154823943210943265 : Nat := 0
def PySem.W.Fast.tw2875295236145353990 : Nat := 0
def PySem.W.Fast.tw17483667528129021199 : Nat := 0
def PySem.W.Fast.tw11869177096453932662 : Nat := 0
def PySem.W.Fast.tw1625108135850385182 : Nat := 0
def PySem.W.Fast.tw6974242547717396455 : Nat := 0
def PySem.W.Fast.tw10463002696514586918 : Nat := 0
def PySem.W.Fast.tw15666920135080572714 : Nat := 0
def PySem.W.Fast.tw2809485441523271624 : Nat := 0
def PySem.W.Fast.tw8203788406258364349 : Nat := 0
def PySem.W.Fast.tw1144690621550361333 : Nat := 0
def PySem.W.Fast.tw589565618337458851 : Nat := 0
def PySem.W.Fast.tw10362776387699021620 : Nat := 0
def PySem.W.Fast.tw12881756054514974530 : Nat := 0
def PySem.W.Fast.tw6117210620545023338 : Nat := 0
def PySem.W.Fast.tw9688124765859735136 : Nat := 0
def PySem.W.Fast.tw3314289293918759875 : Nat := 0
def PySem.W.Fast.tw3443180201062168969 : Nat := 0
def PySem.W.Fast.tw12413799655646948143 : Nat := 0
def PySem.W.Fast.tw18389465487876364595 : Nat := 0
def PySem.W.Fast.tw16041516592857670709 : Nat := 0
def PySem.W.Fast.tw13481633258146985868 : Nat := 0
def PySem.W.Fast.tw18307672651845460344 : Nat := 0
def PySem.W.Fast.tw14737368662856293242 : Nat := 0
def PySem.W.Fast.tw15799314731286566240 : Nat := 0
def PySem.W.Fast.tw8880110116630718857 : Nat := 0
def PySem.W.Fast.tw8756242288792939043 : Nat := 0
def PySem.W.Fast.tw2996813823564009974 : Nat := 0
def PySem.W.Fast.tw12763581881784428876 : Nat := 0
def PySem.W.Fast.tw3497001911837543477 : Nat := 0
def PySem.W.Fast.tw13051068001167651127 : Nat := 0
def PySem.W.Fast.tw15469363509134742337 : Nat := 0
def PySem.W.Fast.tw11536335068899269664 : Nat := 0
def PySem.W.Fast.tw16322506422315096863 : Nat := 0
def PySem.W.Fast.tw17959710734212396615 : Nat := 0
def PySem.W.Fast.tw1898615615029839354 : Nat := 0
def PySem.W.Fast.tw703157118943981393 : Nat := 0
def PySem.W.Fast.tw1873255542959410117 : Nat := 0
def PySem.W.Fast.tw18224130469837923254 : Nat := 0
def PySem.W.Fast.tw16517073482031429396 : Nat := 0
def PySem.W.Fast.tw1021678915420429378 : Nat := 0
def PySem.W.Fast.tw18310063803046812548 : Nat := 0
def PySem.W.Fast.tw14760345394489147551 : Nat := 0
def PySem.W.Fast.tw17092285808696982366 : Nat := 0
def PySem.W.Fast.tw4002997036090010262 : Nat := 0
def PySem.W.Fast.tw15461944799982504756 : Nat := 0
def PySem.W.Fast.tw13965375024959122485 : Nat := 0
def PySem.W.Fast.tw6095198739777341582 : Nat := 0
def PySem.W.Fast.tw7945624557682208823 : Nat := 0
def PySem.W.Fast.tw5871988058998144350 : Nat := 0
def PySem.W.Fast.tw5817563304985023509 : Nat := 0
def PySem.W.Fast.tw8555967882221651401 : Nat := 0
def PySem.W.Fast.tw1086882433313903705 : Nat := 0
def PySem.W.Fast.tw16192454570667795564 : Nat := 0
def PySem.W.Fast.tw10892862959994690879 : Nat := 0
def PySem.W.Fast.tw14076007435019418660 : Nat := 0
def PySem.W.Fast.tw8641926491864636949 : Nat := 0
def PySem.W.Fast.tw17438409234680203346 : Nat := 0
def PySem.W.Fast.tw12526173022855536607 : Nat := 0
def PySem.W.Fast.tw2392348125306917507 : Nat := 0
def PySem.W.Fast.tw10803384729596935149 : Nat := 0
def PySem.W.Fast.tw4295795435890186543 : Nat := 0
def PySem.W.Fast.tw4592279206123761380 : Nat := 0
def PySem.W.Fast.tw13799419972136971302 : Nat := 0
def PySem.W.Fast.tw7745189665108322863 : Nat := 0
def PySem.W.Fast.tw7753930659689941199 : Nat := 0
def PySem.W.Fast.tw16599523703792159684 : Nat := 0
def PySem.W.Fast.tw7880376821852057519 : Nat := 0
def PySem.W.Fast.tw335692715027689496 : Nat := 0
def PySem.W.Fast.tw9342258383669380021 : Nat := 0
def PySem.W.Fast.tw15303503065535093721 : Nat := 0
def PySem.W.Fast.tw5048322934923764207 : Nat := 0
def PySem.W.Fast.tw6211278895578682567 : Nat := 0
def PySem.W.Fast.tw15695180826883409249 : Nat := 0
def PySem.W.Fast.tw10799796584235647873 : Nat := 0
def PySem.W.Fast.tw12842769857614005425 : Nat := 0
def PySem.W.Fast.tw10870350660630040530 : Nat := 0
def PySem.W.Fast.tw553033784715107928 : Nat := 0
def PySem.W.Fast.tw9824670424457884266 : Nat := 0
def PySem.W.Fast.tw3056634933179149530 : Nat := 0
def PySem.W.Fast.tw18030215087685417596 : Nat := 0
def PySem.W.Fast.tw16267055304187171165 : Nat := 0
def PySem.W.Fast.tw4246198651414092059 : Nat := 0
def PySem.W.Fast.tw16217856953324713843 : Nat := 0
def PySem.W.Fast.tw11310236365240341485 : Nat := 0
def PySem.W.Fast.tw9787080491332721198 : Nat := 0
def PySem.W.Fast.tw3863645521826391180 : Nat := 0
def PySem.W.Fast.tw16339842373989258868 : Nat := 0
def PySem.W.Fast.tw14884598803937483789 : Nat := 0
def PySem.W.Fast.tw5774409913308547346 : Nat := 0
def PySem.W.Fast.tw15615215595508275459 : Nat := 0
def PySem.W.Fast.tw4638519393037324877 : Nat := 0
def PySem.W.Fast.tw8324739025340388329 : Nat := 0
def PySem.W.Fast.tw10447529492771955302 : Nat := 0
def PySem.W.Fast.tw11886567195239081783 : Nat := 0
def PySem.W.Fast.tw12540957098319280960 : Nat := 0
def PySem.W.Fast.tw406937391525419343 : Nat := 0
def PySem.W.Fast.tw16766791702642928073 : Nat := 0
def PySem.W.Fast.tw9231970731152950882 : Nat := 0
def PySem.W.Fast.tw7114007718316781401 : Nat := 0
def PySem.W.Fast.tw9947072335306415838 : Nat := 0
def PySem.W.Fast.tw16763607619631525653 : Nat := 0
def PySem.W.Fast.tw6396237219354635433 : Nat := 0
def PySem.W.Fast.tw10995837152179250572 : Nat := 0
def PySem.W.Fast.tw6346262425090586678 : Nat := 0
def PySem.W.Fast.tw566509040611278157 : Nat := 0
def PySem.W.Fast.tw7812611025298970264 : Nat := 0
def PySem.W.Fast.tw7697747933206933720 : Nat := 0
def PySem.W.Fast.tw7995317551153440594 : Nat := 0
def PySem.W.Fast.tw3575044433776476952 : Nat := 0
def PySem.W.Fast.tw14227214803220640796 : Nat := 0
def PySem.W.Fast.tw12455748489532951370 : Nat := 0
def PySem.W.Fast.tw9391866822247057366 : Nat := 0
def PySem.W.Fast.tw4162423916686602753 : Nat := 0
def PySem.W.Fast.tw10476440708261159196 : Nat := 0
def PySem.W.Fast.tw8667691825305798783 : Nat := 0
def PySem.W.Fast.tw14143664646691076987 : Nat := 0
def PySem.W.Fast.tw7125405710624496527 : Nat := 0
def PySem.W.Fast.tw2468798912845650551 : Nat := 0
def PySem.W.Fast.tw18242725802357284832 : Nat := 0
def PySem.W.Fast.tw15687599283377268609 : Nat := 0
def PySem.W.Fast.tw10100113148949317486 : Nat := 0
def PySem.W.Fast.tw8850568440918326844 : Nat := 0
def PySem.W.Fast.tw12997002579939415240 : Nat := 0
def PySem.W.Fast.tw1003274261110372379 : Nat := 0
def PySem.W.Fast.tw17050674336771804703 : Nat := 0
def PySem.W.Fast.tw17571825057118427241 : Nat := 0
def PySem.W.Fast.tw3535440130604230058 : Nat := 0
def PySem.W.Fast.tw17040716137628670847 : Nat := 0
def PySem.W.Fast.tw2673257413136717075 : Nat := 0
def PySem.W.Fast.tw13279794033462301027 : Nat := 0
def PySem.W.Fast.tw1941737006656123944 : Nat := 0
def PySem.W.Fast.tw8893843156833150944 : Nat := 0
def PySem.W.Fast.tw14288023363439088732 : Nat := 0
def PySem.W.Fast.tw11321157500509499822 : Nat := 0
def PySem.W.Fast.tw12750957676649820814 : Nat := 0
def PySem.W.Fast.tw12414159875942867758 : Nat := 0
def PySem.W.Fast.tw9837102373634215641 : Nat := 0
def PySem.W.Fast.tw2509062087849666690 : Nat := 0
def PySem.W.Fast.tw96875900056498960 : Nat := 0
def PySem.W.Fast.tw8097435461013169904 : Nat := 0
def PySem.W.Fast.tw14077410530283644926 : Nat := 0
def PySem.W.Fast.tw10015303716190703406 : Nat := 0
def PySem.W.Fast.tw5866282642724694549 : Nat := 0
def PySem.W.Fast.tw4560334467466957313 : Nat := 0
def PySem.W.Fast.tw5341250041762402628 : Nat := 0
def PySem.W.Fast.tw14993739136749812207 : Nat := 0
def PySem.W.Fast.tw5790180507142068616 : Nat := 0
def PySem.W.Fast.tw13822777319303602516 : Nat := 0
def PySem.W.Fast.tw15630612122053941692 : Nat := 0
def PySem.W.Fast.tw671955927410840367 : Nat := 0
def PySem.W.Fast.tw13781706928473488237 : Nat := 0
def PySem.W.Fast.tw1011365849034851745 : Nat := 0
def PySem.W.Fast.tw13540164047946666581 : Nat := 0
def PySem.W.Fast.tw8731789056935275672 : Nat := 0
def PySem.W.Fast.tw786341024563788974 : Nat := 0
def PySem.W.Fast.tw11345296657982487748 : Nat := 0
def PySem.W.Fast.tw3270033040864639731 : Nat := 0
def PySem.W.Fast.tw10495723156454186106 : Nat := 0
def PySem.W.Fast.tw14159015859231501021 : Nat := 0
def PySem.W.Fast.tw15625598425973624755 : Nat := 0
def PySem.W.Fast.tw8923217522744657988 : Nat := 0
def PySem.W.Fast.tw18400659200723687458 : Nat := 0
def PySem.W.Fast.tw3770673935334421130 : Nat := 0
def PySem.W.Fast.tw16788109049283660299 : Nat := 0
def PySem.W.Fast.tw11062255712801030508 : Nat := 0
def PySem.W.Fast.tw13921673064618500332 : Nat := 0
def PySem.W.Fast.tw9200129346034136224 : Nat := 0
def PySem.W.Fast.tw12432015766161017032 : Nat := 0
def PySem.W.Fast.tw11873121279384621257 : Nat := 0
def PySem.W.Fast.tw18168165509497550994 : Nat := 0
def PySem.W.Fast.tw12240039575978106904 : Nat := 0
def PySem.W.Fast.tw12995529732622236879 : Nat := 0
def PySem.W.Fast.tw2490990220293692545 : Nat := 0
def PySem.W.Fast.tw14651564275083414725 : Nat := 0
def PySem.W.Fast.tw8592913510213362495 : Nat := 0
def PySem.W.Fast.tw17986449122493737040 : Nat := 0
def PySem.W.Fast.tw11106472496210990806 : Nat := 0
def PySem.W.Fast.tw13297459830159915922 : Nat := 0
def PySem.W.Fast.tw7804283355902123173 : Nat := 0
def PySem.W.Fast.tw16848401048791553201 : Nat := 0
def PySem.W.Fast.tw4365608023233530964 : Nat := 0
def PySem.W.Fast.tw11241815920611121289 : Nat := 0
def PySem.W.Fast.tw10195237319658601455 : Nat := 0
def PySem.W.Fast.tw13246411302448417201 : Nat := 0
def PySem.W.Fast.tw18029719850656583086 : Nat := 0
def PySem.W.Fast.tw14928335953279174900 : Nat := 0
def PySem.W.Fast.tw2063953640437243921 : Nat := 0
def PySem.W.Fast.tw11113275566821435181 : Nat := 0
def PySem.W.Fast.tw13338850569555501406 : Nat := 0
def PySem.W.Fast.tw3491977506037548861 : Nat := 0
def PySem.W.Fast.tw7815832879823919209 : Nat := 0
def PySem.W.Fast.tw8389055946413820901 : Nat := 0
def PySem.W.Fast.tw168516399406742945 : Nat := 0
def PySem.W.Fast.tw15059067260690232035 : Nat := 0
def PySem.W.Fast.tw2895420000054986721 : Nat := 0
def PySem.W.Fast.tw9590908648583435451 : Nat := 0
def PySem.W.Fast.tw16141672787337380051 : Nat := 0
def PySem.W.Fast.tw18153952157122132482 : Nat := 0
def PySem.W.Fast.tw7311993524502964893 : Nat := 0
def PySem.W.Fast.tw4452751893570766263 : Nat := 0
def PySem.W.Fast.tw7125051309662082046 : Nat := 0
def PySem.W.Fast.tw1329884967322932210 : Nat := 0
def PySem.W.Fast.tw10055116003121835285 : Nat := 0
def PySem.W.Fast.tw4036780688768122725 : Nat := 0
def PySem.W.Fast.tw2406512155527651518 : Nat := 0
def PySem.W.Fast.tw8801913729326696820 : Nat := 0
def PySem.W.Fast.tw13943596668131161741 : Nat := 0
def PySem.W.Fast.tw6329276538250966090 : Nat := 0
def PySem.W.Fast.tw15653185139649777579 : Nat := 0
def PySem.W.Fast.tw11228793094570348660 : Nat := 0
def PySem.W.Fast.tw13063656657324978094 : Nat := 0
def PySem.W.Fast.tw12463559975980347235 : Nat := 0
def PySem.W.Fast.tw1856550452449737164 : Nat := 0
def PySem.W.Fast.tw5652113507544416243 : Nat := 0
def PySem.W.Fast.tw9746762459653016374 : Nat := 0
def PySem.W.Fast.tw17680315249190176992 : Nat := 0
def PySem.W.Fast.tw5585376515995344916 : Nat := 0
def PySem.W.Fast.tw11424700644995536989 : Nat := 0
def PySem.W.Fast.tw15853523269987436239 : Nat := 0
def PySem.W.Fast.tw832320633386763608 : Nat := 0
def PySem.W.Fast.tw12019557906385454236 : Nat := 0
def PySem.W.Fast.tw17510917515253766314 : Nat := 0
def PySem.W.Fast.tw5056159762066439130 : Nat := 0
def PySem.W.Fast.tw9191001089513963103 : Nat := 0
def PySem.W.Fast.tw3406769732114270085 : Nat := 0
def PySem.W.Fast.tw17164378845238315343 : Nat := 0
def PySem.W.Fast.tw6692573615808306987 : Nat := 0
def PySem.W.Fast.tw883545860649593999 : Nat := 0
def PySem.W.Fast.tw7043096305670353612 : Nat := 0
def PySem.W.Fast.tw12892802114113352659 : Nat := 0
def PySem.W.Fast.tw12363462184435516523 : Nat := 0
def PySem.W.Fast.tw12996704936895456033 : Nat := 0
def PySem.W.Fast.tw17848940215750923926 : Nat := 0
def PySem.W.Fast.tw2452000628856007555 : Nat := 0
def PySem.W.Fast.tw10875540717547102845 : Nat := 0
def PySem.W.Fast.tw619697486224879588 : Nat := 0
def PySem.W.Fast.tw6981852326077255719 : Nat := 0
def PySem.W.Fast.tw13540922884071684322 : Nat := 0
def PySem.W.Fast.tw14280623108273274526 : Nat := 0
def PySem.W.Fast.tw8947788477621033178 : Nat := 0
def PySem.W.Fast.tw1961807629563376433 : Nat := 0
def PySem.W.Fast.tw13014443347865024962 : Nat := 0
def PySem.W.Fast.tw6641835566310858407 : Nat := 0
def PySem.W.Fast.tw4224168485741329795 : Nat := 0
def PySem.W.Fast.tw15203856852245532300 : Nat := 0
def PySem.W.Fast.tw1685940376650802224 : Nat := 0
def PySem.W.Fast.tw7676466049788488716 : Nat := 0
def PySem.W.Fast.tw15932841292344185145 : Nat := 0
def PySem.W.Fast.tw17120990384950639554 : Nat := 0
def PySem.W.Fast.tw15382584913671194135 : Nat := 0
def PySem.W.Fast.tw11315390359666765265 : Nat := 0
def PySem.W.Fast.tw14317749014309232508 : Nat := 0
def PySem.W.Fast.tw10180075713782117645 : Nat := 0
def PySem.W.Fast.tw3104800132882388813 : Nat := 0
def PySem.W.Fast.tw9957753395414353581 : Nat := 0
def PySem.W.Fast.tw8239010982781587359 : Nat := 0
def PySem.W.Fast.tw9122749704973377972 : Nat := 0
def PySem.W.Fast.tw8346858288694314690 : Nat := 0
def PySem.W.Fast.tw6621369039917550581 : Nat := 0
def PySem.W.Fast.tw12515150606207188757 : Nat := 0
def PySem.W.Fast.tw18048191927052311165 : Nat := 0
def PySem.W.Fast.tw357602410969094186 : Nat := 0
def PySem.W.Fast.tw15532824374526645604 : Nat := 0
def PySem.W.Fast.tw5954771469847321193 : Nat := 0
def PySem.W.Fast.tw8002816261520980560 : Nat := 0
def PySem.W.Fast.tw12161909782867845995 : Nat := 0
def PySem.W.Fast.tw8679719730053886427 : Nat := 0
def PySem.W.Fast.tw11581541135811580316 : Nat := 0
def PySem.W.Fast.tw15306772735458603967 : Nat := 0
def PySem.W.Fast.tw17442185496214004430 : Nat := 0
def PySem.W.Fast.tw4978136503971150726 : Nat := 0
def PySem.W.Fast.tw10864826926190471426 : Nat := 0
def PySem.W.Fast.tw11289815578655484220 : Nat := 0
def PySem.W.Fast.tw1145660960894411675 : Nat := 0
def PySem.W.Fast.tw14180856224721664703 : Nat := 0
def PySem.W.Fast.tw16202458074144599045 : Nat := 0
def PySem.W.Fast.tw15477450936257804992 : Nat := 0
def PySem.W.Fast.tw12544851637817466068 : Nat := 0
def PySem.W.Fast.tw1963452033540055931 : Nat := 0
def PySem.W.Fast.tw1696946933729668768 : Nat := 0
def PySem.W.Fast.tw5949958428586536083 : Nat := 0
def PySem.W.Fast.tw16722033701580962132 : Nat := 0
def PySem.W.Fast.tw628018175911738725 : Nat := 0
def PySem.W.Fast.tw8334905830621557503 : Nat := 0
def PySem.W.Fast.tw14702853042805481810 : Nat := 0
def PySem.W.Fast.tw10055861429785955981 : Nat := 0
def PySem.W.Fast.tw6067214244739159380 : Nat := 0
def PySem.W.Fast.tw365122472339988578 : Nat := 0
def PySem.W.Fast.tw3676651937411049859 : Nat := 0
def PySem.W.Fast.tw13952910949547151412 : Nat := 0
def PySem.W.Fast.tw17820175354154619167 : Nat := 0
def PySem.W.Fast.tw17175433922897156596 : Nat := 0
def PySem.W.Fast.tw15445192389065277582 : Nat := 0
def PySem.W.Fast.tw4934512728557885754 : Nat := 0
def PySem.W.Fast.tw9506343678938840840 : Nat := 0
def PySem.W.Fast.tw17660391173491903423 : Nat := 0
def PySem.W.Fast.tw17095208621176098757 : Nat := 0
def PySem.W.Fast.tw1167299790097829198 : Nat := 0
def PySem.W.Fast.tw14178688995342358051 : Nat := 0
def PySem.W.Fast.tw4458793965100858561 : Nat := 0
def PySem.W.Fast.tw4456723220234012055 : Nat := 0
def PySem.W.Fast.tw6766971851451156400 : Nat := 0
def PySem.W.Fast.tw3744277546548700414 : Nat := 0
def PySem.W.Fast.tw3633796927261679537 : Nat := 0
def PySem.W.Fast.tw15442160739034115126 : Nat := 0
def PySem.W.Fast.tw9547035651308719901 : Nat := 0
def PySem.W.Fast.tw5946279559650168391 : Nat := 0
def PySem.W.Fast.tw12763881008126692270 : Nat := 0
def PySem.W.Fast.tw5082195891513660409 : Nat := 0
def PySem.W.Fast.tw5571752410787607583 : Nat := 0
def PySem.W.Fast.tw12639805358652974230 : Nat := 0
def PySem.W.Fast.tw9297192290969670783 : Nat := 0
def PySem.W.Fast.tw17801631353852999832 : Nat := 0
def PySem.W.Fast.tw2189159844882689538 : Nat := 0
def PySem.W.Fast.tw14985086749232425371 : Nat := 0
def PySem.W.Fast.tw17281602305132050803 : Nat := 0
def PySem.W.Fast.tw14862963937554874818 : Nat := 0
def PySem.W.Fast.tw10982551949009140775 : Nat := 0
def PySem.W.Fast.tw11563543073918227323 : Nat := 0
def PySem.W.Fast.tw13471596309991403283 : Nat := 0
def PySem.W.Fast.tw17591337630191565454 : Nat := 0
def PySem.W.Fast.tw18051390799841185755 : Nat := 0
def PySem.W.Fast.tw3456470759824219431 : Nat := 0
def PySem.W.Fast.tw1665665322061813678 : Nat := 0
def PySem.W.Fast.tw6398373618773825087 : Nat := 0
def PySem.W.Fast.tw8477649854537889931 : Nat := 0
def PySem.W.Fast.tw12577848597505327058 : Nat := 0
def PySem.W.Fast.tw554825394263629091 : Nat := 0
def PySem.W.Fast.tw7061270955959122515 : Nat := 0
def PySem.W.Fast.tw251129722300106533 : Nat := 0
def PySem.W.Fast.tw8067767729475439100 : Nat := 0
def PySem.W.Fast.tw18222424590836592953 : Nat := 0
def PySem.W.Fast.tw1436202616672922551 : Nat := 0
def PySem.W.Fast.tw9429923153892380069 : Nat := 0
def PySem.W.Fast.tw3004992484363702435 : Nat := 0
def PySem.W.Fast.tw64378587376988796 : Nat := 0
def PySem.W.Fast.tw14172704791866647474 : Nat := 0
def PySem.W.Fast.tw9045092169013430368 : Nat := 0
def PySem.W.Fast.tw6688688096500481972 : Nat := 0
def PySem.W.Fast.tw10192297129360081233 : Nat := 0
def PySem.W.Fast.tw18341905659708891396 : Nat := 0
def PySem.W.Fast.tw11992167672787443902 : Nat := 0
def PySem.W.Fast.tw16407700872536271002 : Nat := 0
def PySem.W.Fast.tw16110796786151380902 : Nat := 0
def PySem.W.Fast.tw3979473733709038599 : Nat := 0
def PySem.W.Fast.tw5417029484219971183 : Nat := 0
def PySem.W.Fast.tw14150508835077730803 : Nat := 0
def PySem.W.Fast.tw18194897244119851345 : Nat := 0
def PySem.W.Fast.tw13282295048401476048 : Nat := 0
def PySem.W.Fast.tw17568669722118013447 : Nat := 0
def PySem.W.Fast.tw8149963838590317028 : Nat := 0
def PySem.W.Fast.tw7051909511927222881 : Nat := 0
def PySem.W.Fast.tw18151262278401036054 : Nat := 0
def PySem.W.Fast.tw11363171327867483320 : Nat := 0
def PySem.W.Fast.tw8641746358879159749 : Nat := 0
def PySem.W.Fast.tw9686038168572155749 : Nat := 0
def PySem.W.Fast.tw12406533584928404553 : Nat := 0
def PySem.W.Fast.tw4899493080021872285 : Nat := 0
def PySem.W.Fast.tw2115382356176819057 : Nat := 0
def PySem.W.Fast.tw16998223780163884766 : Nat := 0
def PySem.W.Fast.tw7561533927506257947 : Nat := 0
def PySem.W.Fast.tw8507250189369816491 : Nat := 0
def PySem.W.Fast.tw7989042325622393618 : Nat := 0
def PySem.W.Fast.tw16131552238646648938 : Nat := 0
def PySem.W.Fast.tw13097954392018476042 : Nat := 0
def PySem.W.Fast.tw4777978985742478658 : Nat := 0
def PySem.W.Fast.tw7087496175866937748 : Nat := 0
def PySem.W.Fast.tw5405257085688634297 : Nat := 0
def PySem.W.Fast.tw427331056834416842 : Nat := 0
def PySem.W.Fast.tw971422206704495768 : Nat := 0
def PySem.W.Fast.tw14606208973179655214 : Nat := 0
def PySem.W.Fast.tw6092668833537180636 : Nat := 0
def PySem.W.Fast.tw4730628361035253216 : Nat := 0
def PySem.W.Fast.tw17309301284904847333 : Nat := 0
def PySem.W.Fast.tw15975860309315495705 : Nat := 0
def PySem.W.Fast.tw8459394079663746545 : Nat := 0
def PySem.W.Fast.tw9858518477456419206 : Nat := 0
def PySem.W.Fast.tw803517037083868974 : Nat := 0
def PySem.W.Fast.tw8327408080007325692 : Nat := 0
def PySem.W.Fast.tw6907864724395097955 : Nat := 0
def PySem.W.Fast.tw9976456801016460175 : Nat := 0
def PySem.W.Fast.tw15915260323515003405 : Nat := 0
def PySem.W.Fast.tw4442168802955276804 : Nat := 0
def PySem.W.Fast.tw12813559916367818861 : Nat := 0
def PySem.W.Fast.tw7017433412493803129 : Nat := 0
def PySem.W.Fast.tw640396251894944803 : Nat := 0
def PySem.W.Fast.tw6963341367535499291 : Nat := 0
def PySem.W.Fast.tw12906711722922200698 : Nat := 0
def PySem.W.Fast.tw584409184653272653 : Nat := 0
def PySem.W.Fast.tw13271484312899341318 : Nat := 0
def PySem.W.Fast.tw997820323325825297 : Nat := 0
def PySem.W.Fast.tw8876587520459198812 : Nat := 0
def PySem.W.Fast.tw4118824519730344104 : Nat := 0
def PySem.W.Fast.tw7042921799175831764 : Nat := 0
def PySem.W.Fast.tw3433979011898649769 : Nat := 0
def PySem.W.Fast.tw6296238012211005897 : Nat := 0
def PySem.W.Fast.tw8255523682259986167 : Nat := 0
def PySem.W.Fast.tw16073610710642109700 : Nat := 0
def PySem.W.Fast.tw2327379031011690978 : Nat := 0
def PySem.W.Fast.tw14705618460205064669 : Nat := 0
def PySem.W.Fast.tw8294218768200220523 : Nat := 0
def PySem.W.Fast.tw16402357101567311511 : Nat := 0
def PySem.W.Fast.tw11746799949652955351 : Nat := 0
def PySem.W.Fast.tw8057990056442581084 : Nat := 0
def PySem.W.Fast.tw1333297245782268224 : Nat := 0
def PySem.W.Fast.tw5030878775926024956 : Nat := 0
def PySem.W.Fast.tw11406224928103576158 : Nat := 0
def PySem.W.Fast.tw8245086053488386742 : Nat := 0
def PySem.W.Fast.tw17768495488174201365 : Nat := 0
def PySem.W.Fast.tw15723628503649969086 : Nat := 0
def PySem.W.Fast.tw462234638574222101 : Nat := 0
def PySem.W.Fast.tw16314332645058872933 : Nat := 0
def PySem.W.Fast.tw10927307755856458523 : Nat := 0
def PySem.W.Fast.tw3877850640903211873 : Nat := 0
def PySem.W.Fast.tw13006855264836155274 : Nat := 0
def PySem.W.Fast.tw6434537589493993016 : Nat := 0
def PySem.W.Fast.tw14945471699044383819 : Nat := 0
def PySem.W.Fast.tw10904210977969221608 : Nat := 0
def PySem.W.Fast.tw12737650447680625207 : Nat := 0
def PySem.W.Fast.tw365496821896186467 : Nat := 0
def PySem.W.Fast.tw697119731554607718 : Nat := 0
def PySem.W.Fast.tw12719240139425265572 : Nat := 0
def PySem.W.Fast.tw5530595046478824092 : Nat := 0
def PySem.W.Fast.tw15301858997358285402 : Nat := 0
def PySem.W.Fast.tw4925683440835413011 : Nat := 0
def PySem.W.Fast.tw10360524612388535860 : Nat := 0
def PySem.W.Fast.tw749801410008277707 : Nat := 0
def PySem.W.Fast.tw8636916296835711470 : Nat := 0
def PySem.W.Fast.tw13043794904568489145 : Nat := 0
def PySem.W.Fast.tw17070317563608449641 : Nat := 0
def PySem.W.Fast.tw10731864842144497337 : Nat := 0
def PySem.W.Fast.tw3207871257213675315 : Nat := 0
def PySem.W.Fast.tw9720501824657118107 : Nat := 0
def PySem.W.Fast.tw17906653568058709963 : Nat := 0
def PySem.W.Fast.tw1426323755641212553 : Nat := 0
def PySem.W.Fast.tw6660246558282501015 : Nat := 0
def PySem.W.Fast.tw4934790427955580944 : Nat := 0
def PySem.W.Fast.tw3866719123109834890 : Nat := 0
def PySem.W.Fast.tw10914297817939881535 : Nat := 0
def PySem.W.Fast.tw13063760655532002071 : Nat := 0
def PySem.W.Fast.tw8076550589338041364 : Nat := 0
def PySem.W.Fast.tw17837546200309973620 : Nat := 0
def PySem.W.Fast.tw8676774770683284056 : Nat := 0
def PySem.W.Fast.tw1895799348449887786 : Nat := 0
def PySem.W.Fast.tw7001410242888421428 : Nat := 0
def PySem.W.Fast.tw6748434385878295148 : Nat := 0
def PySem.W.Fast.tw9907775941324317423 : Nat := 0
def PySem.W.Fast.tw2299677886661212959 : Nat := 0
def PySem.W.Fast.tw16177205185022519304 : Nat := 0
def PySem.W.Fast.tw15776431168102476557 : Nat := 0
def PySem.W.Fast.tw7195376945047944755 : Nat := 0
def PySem.W.Fast.tw5197894656039989794 : Nat := 0
def PySem.W.Fast.tw11912924016387227744 : Nat := 0
def PySem.W.Fast.tw5508699682441873605 : Nat := 0
def PySem.W.Fast.tw15994278001693959806 : Nat := 0
def PySem.W.Fast.tw11820324249034079248 : Nat := 0
def PySem.W.Fast.tw9107239680161459679 : Nat := 0
def PySem.W.Fast.tw6170767030381186369 : Nat := 0
def PySem.W.Fast.tw2512475824710601429 : Nat := 0
def PySem.W.Fast.tw1512899767483863652 : Nat := 0
def PySem.W.Fast.tw7303592120435050222 : Nat := 0
def PySem.W.Fast.tw10464441737246531857 : Nat := 0
def PySem.W.Fast.tw8831598562536283467 : Nat := 0
def PySem.W.Fast.tw10282947431068624892 : Nat := 0
def PySem.W.Fast.tw244737035368866703 : Nat := 0
def PySem.W.Fast.tw1675658013243315796 : Nat := 0
def PySem.W.Fast.tw12232604499843448315 : Nat := 0
def PySem.W.Fast.tw14114409145614041945 : Nat := 0
def PySem.W.Fast.tw8234224255477851160 : Nat := 0
def PySem.W.Fast.tw6685342331956801476 : Nat := 0
def PySem.W.Fast.tw8502305932931951346 : Nat := 0
def PySem.W.Fast.tw13154885166633294291 : Nat := 0
def PySem.W.Fast.tw9635106233342477263 : Nat := 0
def PySem.W.Fast.tw4966361219292326841 : Nat := 0
def PySem.W.Fast.tw14475099911848818582 : Nat := 0
def PySem.W.Fast.tw7752988235072210093 : Nat := 0
def PySem.W.Fast.tw3450543670596833228 : Nat := 0
def PySem.W.Fast.tw9473853009682311401 : Nat := 0
def PySem.W.Fast.tw17674345730746426842 : Nat := 0
def PySem.W.Fast.tw2659497300374836958 : Nat := 0
def PySem.W.Fast.tw12142685495415066299 : Nat := 0
def PySem.W.Fast.tw18095655615853204450 : Nat := 0
def PySem.W.Fast.tw2256691885490091427 : Nat := 0
def PySem.W.Fast.tw12799081844237632003 : Nat := 0
def PySem.W.Fast.tw7600439476354920333 : Nat := 0
def PySem.W.Fast.tw15981503463426423786 : Nat := 0
def PySem.W.Fast.tw2439798128473525134 : Nat := 0
def PySem.W.Fast.tw12711710233767190935 : Nat := 0
def PySem.W.Fast.tw14899711423281050367 : Nat := 0
def PySem.W.Fast.tw13880310036239011301 : Nat := 0
def PySem.W.Fast.tw12895574501155995536 : Nat := 0
def PySem.W.Fast.tw15343197364802419196 : Nat := 0
def PySem.W.Fast.tw14141839347192988315 : Nat := 0
def PySem.W.Fast.tw6964054011335022205 : Nat := 0
def PySem.W.Fast.tw14204230551792739632 : Nat := 0
def PySem.W.Fast.tw9003160137925258403 : Nat := 0
def PySem.W.Fast.tw8692682129815992327 : Nat := 0
def PySem.W.Fast.tw13790992200054564348 : Nat := 0
def PySem.W.Fast.tw3865872611037367014 : Nat := 0
def PySem.W.Fast.tw11597304405294538074 : Nat := 0
def PySem.W.Fast.tw8263852782325348672 : Nat := 0
def PySem.W.Fast.tw12699310498044510957 : Nat := 0
def PySem.W.Fast.tw18016145606202556357 : Nat := 0
def PySem.W.Fast.tw16580927531568886924 : Nat := 0
def PySem.W.Fast.tw13806486814278651928 : Nat := 0
def PySem.W.Fast.tw3901230239709361956 : Nat := 0
def PySem.W.Fast.tw14036243311031337653 : Nat := 0
def PySem.W.Fast.tw16291116079885915 : Nat := 0
def PySem.W.Fast.tw6146822613775567137 : Nat := 0
def PySem.W.Fast.tw6272969433101844194 : Nat := 0
def PySem.W.Fast.tw16652525001016894701 : Nat := 0
def PySem.W.Fast.tw17451670362894695852 : Nat := 0
def PySem.W.Fast.tw17497403906291967628 : Nat := 0
def PySem.W.Fast.tw9192713704716358142 : Nat := 0
def PySem.W.Fast.tw12477027243535386963 : Nat := 0
def PySem.W.Fast.tw11506459962961071257 : Nat := 0
def PySem.W.Fast.tw4596183975931715841 : Nat := 0
def PySem.W.Fast.tw10582428978311994693 : Nat := 0
def PySem.W.Fast.tw3340193041281198688 : Nat := 0
def PySem.W.Fast.tw6654908382902707002 : Nat := 0
def PySem.W.Fast.tw16123664676348365661 : Nat := 0
def PySem.W.Fast.tw15815222077721118968 : Nat := 0
def PySem.W.Fast.tw14563006421225948835 : Nat := 0
def PySem.W.Fast.tw887074921365376437 : Nat := 0
def PySem.W.Fast.tw5271316186060370928 : Nat := 0
def PySem.W.Fast.tw6928722863823658515 : Nat := 0
def PySem.W.Fast.tw10100182368340868522 : Nat := 0
def PySem.W.Fast.tw10555602260101813126 : Nat := 0
def PySem.W.Fast.tw13535754573471152725 : Nat := 0
def PySem.W.Fast.tw18288595402653796975 : Nat := 0
def PySem.W.Fast.tw1950007593140970376 : Nat := 0
def PySem.W.Fast.tw6230641926211937197 : Nat := 0
def PySem.W.Fast.tw15542646403586012326 : Nat := 0
def PySem.W.Fast.tw1967933847158778813 : Nat := 0
def PySem.W.Fast.tw16732437799991428743 : Nat := 0
def PySem.W.Fast.tw458673137374804595 : Nat := 0
def PySem.W.Fast.tw13076821260771685491 : Nat := 0
def PySem.W.Fast.tw9951476329018048533 : Nat := 0
def PySem.W.Fast.tw14835597993875916002 : Nat := 0
def PySem.W.Fast.tw5477280619112534021 : Nat := 0
def PySem.W.Fast.tw11321672974355746371 : Nat := 0
def PySem.W.Fast.tw13181564605296372669 : Nat := 0
def PySem.W.Fast.tw7220951957275387713 : Nat := 0
def PySem.W.Fast.tw14949222279398483285 : Nat := 0
def PySem.W.Fast.tw3491803026285362564 : Nat := 0
def PySem.W.Fast.tw6838355266762379473 : Nat := 0
def PySem.W.Fast.tw15026259256361875383 : Nat := 0
def PySem.W.Fast.tw4987539681552889693 : Nat := 0
def PySem.W.Fast.tw288871320703231154 : Nat := 0
def PySem.W.Fast.tw6334381644388602536 : Nat := 0
def PySem.W.Fast.tw15800053393957136292 : Nat := 0
def PySem.W.Fast.tw13981251308505473991 : Nat := 0
def PySem.W.Fast.tw9111422376704447479 : Nat := 0
def PySem.W.Fast.tw9852811624420274626 : Nat := 0
def PySem.W.Fast.tw4222761827964516669 : Nat := 0
def PySem.W.Fast.tw15794210506084053995 : Nat := 0
def PySem.W.Fast.tw1595220229558649261 : Nat := 0
def PySem.W.Fast.tw8278693166565881020 : Nat := 0
def PySem.W.Fast.tw16788805372430484011 : Nat := 0
def PySem.W.Fast.tw10696508899817270726 : Nat := 0
def PySem.W.Fast.tw6055809921997629296 : Nat := 0
def PySem.W.Fast.tw7335661893663848643 : Nat := 0
def PySem.W.Fast.tw11960188862226682636 : Nat := 0
def PySem.W.Fast.tw14792289174575969559 : Nat := 0
def PySem.W.Fast.tw18263456280287398937 : Nat := 0
def PySem.W.Fast.tw17771735698761742862 : Nat := 0
def PySem.W.Fast.tw1646238220544212416 : Nat := 0
def PySem.W.Fast.tw8793168030311037024 : Nat := 0
def PySem.W.Fast.tw2751054786800379424 : Nat := 0
def PySem.W.Fast.tw13749696632785574968 : Nat := 0
def PySem.W.Fast.tw5570704879056273236 : Nat := 0
def PySem.W.Fast.tw17853845589707888119 : Nat := 0
def PySem.W.Fast.tw5781830868114439310 : Nat := 0
def PySem.W.Fast.tw15335705829378267455 : Nat := 0
def PySem.W.Fast.tw3350145156675853012 : Nat := 0
def PySem.W.Fast.tw2327918047481221535 : Nat := 0
def PySem.W.Fast.tw2060960182249758030 : Nat := 0
def PySem.W.Fast.tw353418367491848195 : Nat := 0
def PySem.W.Fast.tw1121207737909402980 : Nat := 0
def PySem.W.Fast.tw10188240296800759667 : Nat := 0
def PySem.W.Fast.tw623149197129652873 : Nat := 0
def PySem.W.Fast.tw2598321873297674908 : Nat := 0
def PySem.W.Fast.tw10762755386251913732 : Nat := 0
def PySem.W.Fast.tw7807740414509752415 : Nat := 0
def PySem.W.Fast.tw15701805007496880415 : Nat := 0
def PySem.W.Fast.tw15373381756655773613 : Nat := 0
def PySem.W.Fast.tw9326542292822864188 : Nat := 0
def PySem.W.Fast.tw3634393667107683569 : Nat := 0
def PySem.W.Fast.tw1810376244533412973 : Nat := 0
def PySem.W.Fast.tw3893389921014008073 : Nat := 0
def PySem.W.Fast.tw5055455346402001250 : Nat := 0
def PySem.W.Fast.tw14448549527014918753 : Nat := 0
def PySem.W.Fast.tw2432550164954903187 : Nat := 0
def PySem.W.Fast.tw996928189144845743 : Nat := 0
def PySem.W.Fast.tw17132917745221398268 : Nat := 0
def PySem.W.Fast.tw15926600244979147446 : Nat := 0
def PySem.W.Fast.tw13969413497885088612 : Nat := 0
def PySem.W.Fast.tw15149889670139489329 : Nat := 0
def PySem.W.Fast.tw6249298265759684353 : Nat := 0
def PySem.W.Fast.tw12152241161010148070 : Nat := 0
def PySem.W.Fast.tw16712789087466059338 : Nat := 0
def PySem.W.Fast.tw1946212186872985231 : Nat := 0
def PySem.W.Fast.tw13307759777542943419 : Nat := 0
def PySem.W.Fast.tw9656031175376407637 : Nat := 0
def PySem.W.Fast.tw348722356285629379 : Nat := 0
def PySem.W.Fast.tw3680875949877168974 : Nat := 0
def PySem.W.Fast.tw11011718209710223604 : Nat := 0
def PySem.W.Fast.tw11511773601927866597 : Nat := 0
def PySem.W.Fast.tw1507913206699260501 : Nat := 0
def PySem.W.Fast.tw1283703244394207900 : Nat := 0
def PySem.W.Fast.tw4970551327475592499 : Nat := 0
def PySem.W.Fast.tw10265988786361059606 : Nat := 0
def PySem.W.Fast.tw3978899215198175666 : Nat := 0
def PySem.W.Fast.tw9863017786803936634 : Nat := 0
def PySem.W.Fast.tw813778445086720784 : Nat := 0
def PySem.W.Fast.tw10465452963932540510 : Nat := 0
def PySem.W.Fast.tw17994927669527281028 : Nat := 0
def PySem.W.Fast.tw9383901088449372417 : Nat := 0
def PySem.W.Fast.tw5027897744124937086 : Nat := 0
def PySem.W.Fast.tw8840791358510927864 : Nat := 0
def PySem.W.Fast.tw12568095213741735477 : Nat := 0
def PySem.W.Fast.tw4535295654086609781 : Nat := 0
def PySem.W.Fast.tw7333330875455926042 : Nat := 0
def PySem.W.Fast.tw7990665958580563815 : Nat := 0
def PySem.W.Fast.tw3052186574309280176 : Nat := 0
def PySem.W.Fast.tw2401762021883455508 : Nat := 0
def PySem.W.Fast.tw4918216017853604727 : Nat := 0
def PySem.W.Fast.tw3465979936016882272 : Nat := 0
def PySem.W.Fast.tw3416981323459565058 : Nat := 0
def PySem.W.Fast.tw744100206064052066 : Nat := 0
def PySem.W.Fast.tw10360004231989568640 : Nat := 0
def PySem.W.Fast.tw11262958006334434374 : Nat := 0
def PySem.W.Fast.tw15757585269547161853 : Nat := 0
def PySem.W.Fast.tw5242603355834744534 : Nat := 0
def PySem.W.Fast.tw16428990046522713875 : Nat := 0
def PySem.W.Fast.tw9108325121852976582 : Nat := 0
def PySem.W.Fast.tw10176697676615652517 : Nat := 0
def PySem.W.Fast.tw12928014472171325639 : Nat := 0
def PySem.W.Fast.tw16324488700185275504 : Nat := 0
def PySem.W.Fast.tw15633487860618539296 : Nat := 0
def PySem.W.Fast.tw1660216047455061323 : Nat := 0
def PySem.W.Fast.tw2616774055507034775 : Nat := 0
def PySem.W.Fast.tw15367886627265719231 : Nat := 0
def PySem.W.Fast.tw9884445244467497981 : Nat := 0
def PySem.W.Fast.tw1373247232124844439 : Nat := 0
def PySem.W.Fast.tw15555695559545110866 : Nat := 0
def PySem.W.Fast.tw14459421325311576363 : Nat := 0
def PySem.W.Fast.tw3449422787598255209 : Nat := 0
def PySem.W.Fast.tw2213723498557541966 : Nat := 0
def PySem.W.Fast.tw4761555750555459550 : Nat := 0
def PySem.W.Fast.tw2540552445323032170 : Nat := 0
def PySem.W.Fast.tw11302288249004534638 : Nat := 0
def PySem.W.Fast.tw327964604987693246 : Nat := 0
def PySem.W.Fast.tw12200978223801861449 : Nat := 0
def PySem.W.Fast.tw16415764156283561886 : Nat := 0
def PySem.W.Fast.tw14319314044682381840 : Nat := 0
def PySem.W.Fast.tw10171313543386693753 : Nat := 0
def PySem.W.Fast.tw7391714993426313524 : Nat := 0
def PySem.W.Fast.tw14063393254136800384 : Nat := 0
def PySem.W.Fast.tw6943503850064857005 : Nat := 0
def PySem.W.Fast.tw17287661305517392303 : Nat := 0
def PySem.W.Fast.tw6702707781187601611 : Nat := 0
def PySem.W.Fast.tw10395710098616464579 : Nat := 0
def PySem.W.Fast.tw8526606628471070458 : Nat := 0
def PySem.W.Fast.tw6927265789329598575 : Nat := 0
def PySem.W.Fast.tw4878200229421327137 : Nat := 0
def PySem.W.Fast.tw9172448123636626453 : Nat := 0
def PySem.W.Fast.tw12510306474401012855 : Nat := 0
def PySem.W.Fast.tw12780406223010110055 : Nat := 0
def PySem.W.Fast.tw16635935599502222705 : Nat := 0
def PySem.W.Fast.tw7932615408268204638 : Nat := 0
def PySem.W.Fast.tw11388933564936988348 : Nat := 0
def PySem.W.Fast.tw2409341400252312102 : Nat := 0
def PySem.W.Fast.tw9814313868791901531 : Nat := 0
def PySem.W.Fast.tw966508395998413945 : Nat := 0
def PySem.W.Fast.tw367564516775971588 : Nat := 0
def PySem.W.Fast.tw17030340402967840756 : Nat := 0
def PySem.W.Fast.tw587068046056962309 : Nat := 0
def PySem.W.Fast.tw12039476682465911266 : Nat := 0
def PySem.W.Fast.tw4103238181368015113 : Nat := 0
def PySem.W.Fast.tw3667956075754546271 : Nat := 0
def PySem.W.Fast.tw10045200090862100438 : Nat := 0
def PySem.W.Fast.tw12702615688683404446 : Nat := 0
def PySem.W.Fast.tw7681740968800968361 : Nat := 0
def PySem.W.Fast.tw18278483931885484641 : Nat := 0
def PySem.W.Fast.tw5625856534308657768 : Nat := 0
def PySem.W.Fast.tw17326493316524515220 : Nat := 0
def PySem.W.Fast.tw5221977180152731143 : Nat := 0
def PySem.W.Fast.tw17497572822648198680 : Nat := 0
def PySem.W.Fast.tw17501832042848769369 : Nat := 0
def PySem.W.Fast.tw2208097476696342474 : Nat := 0
def PySem.W.Fast.tw10978179318449645751 : Nat := 0
def PySem.W.Fast.tw11976632085118309010 : Nat := 0
def PySem.W.Fast.tw12887722766864445024 : Nat := 0
def PySem.W.Fast.tw7821763586068182030 : Nat := 0
def PySem.W.Fast.tw17715642454326864043 : Nat := 0
def PySem.W.Fast.tw16953670922314671552 : Nat := 0
def PySem.W.Fast.tw18216118994459246427 : Nat := 0
def PySem.W.Fast.tw14435000469793340940 : Nat := 0
def PySem.W.Fast.tw16116741635374734609 : Nat := 0
def PySem.W.Fast.tw9594161488983458222 : Nat := 0
def PySem.W.Fast.tw3850472141270083056 : Nat := 0
def PySem.W.Fast.tw17240666902197454813 : Nat := 0
def PySem.W.Fast.tw1405292823225214796 : Nat := 0
def PySem.W.Fast.tw17260746478184865869 : Nat := 0
def PySem.W.Fast.tw9071497049869940609 : Nat := 0
def PySem.W.Fast.tw17791142973484534455 : Nat := 0
def PySem.W.Fast.tw11097077467492400902 : Nat := 0
def PySem.W.Fast.tw10682791964801358393 : Nat := 0
def PySem.W.Fast.tw10592405433873064565 : Nat := 0
def PySem.W.Fast.tw5503919995409573544 : Nat := 0
def PySem.W.Fast.tw13667140099379459962 : Nat := 0
def PySem.W.Fast.tw14211766019320620779 : Nat := 0
def PySem.W.Fast.tw9241939469237827606 : Nat := 0
def PySem.W.Fast.tw872435709939144290 : Nat := 0
def PySem.W.Fast.tw4787994152976271535 : Nat := 0
def PySem.W.Fast.tw2222923104812721711 : Nat := 0
def PySem.W.Fast.tw16374915117195970739 : Nat := 0
def PySem.W.Fast.tw11407414911880067936 : Nat := 0
def PySem.W.Fast.tw14935240864933812103 : Nat := 0
def PySem.W.Fast.tw3535578263981870304 : Nat := 0
def PySem.W.Fast.tw3796444800118955062 : Nat := 0
def PySem.W.Fast.tw59077154872730892 : Nat := 0
def PySem.W.Fast.tw10586193306487693245 : Nat := 0
def PySem.W.Fast.tw4219890092434074933 : Nat := 0
def PySem.W.Fast.tw17326773709817441735 : Nat := 0
def PySem.W.Fast.tw7733367290063678908 : Nat := 0
def PySem.W.Fast.tw14071755519525827594 : Nat := 0
def PySem.W.Fast.tw6785605346276358063 : Nat := 0
def PySem.W.Fast.tw2366717287220380930 : Nat := 0
def PySem.W.Fast.tw3645500179109827659 : Nat := 0
def PySem.W.Fast.tw2343509104395773061 : Nat := 0
def PySem.W.Fast.tw8832382081677623801 : Nat := 0
def PySem.W.Fast.tw6028389868284500355 : Nat := 0
def PySem.W.Fast.tw14222358407284946936 : Nat := 0
def PySem.W.Fast.tw8768942365189453063 : Nat := 0
def PySem.W.Fast.tw2686279357374465976 : Nat := 0
def PySem.W.Fast.tw12303952913277746338 : Nat := 0
def PySem.W.Fast.tw1745731195593618914 : Nat := 0
def PySem.W.Fast.tw8442238726871624124 : Nat := 0
def PySem.W.Fast.tw3310518092044507545 : Nat := 0
def PySem.W.Fast.tw10827886001224871084 : Nat := 0
def PySem.W.Fast.tw4808928452776650931 : Nat := 0
def PySem.W.Fast.tw3042146166009677530 : Nat := 0
def PySem.W.Fast.tw4914710178822692447 : Nat := 0
def PySem.W.Fast.tw7095674447981024595 : Nat := 0
def PySem.W.Fast.tw6444260724104967645 : Nat := 0
def PySem.W.Fast.tw12224828061670479731 : Nat := 0
def PySem.W.Fast.tw154301459812422664 : Nat := 0
def PySem.W.Fast.tw13423326252783178928 : Nat := 0
def PySem.W.Fast.tw17975219297004550504 : Nat := 0
def PySem.W.Fast.tw13876523198524525686 : Nat := 0
def PySem.W.Fast.tw3029094297763336194 : Nat := 0
def PySem.W.Fast.tw17783947490615713127 : Nat := 0
def PySem.W.Fast.tw3148944889446831089 : Nat := 0
def PySem.W.Fast.tw14953799256303475063 : Nat := 0
def PySem.W.Fast.tw14454148356527158472 : Nat := 0
def PySem.W.Fast.tw7874448243160673373 : Nat := 0
def PySem.W.Fast.tw17514700674746874126 : Nat := 0
def PySem.W.Fast.tw18331633013618784925 : Nat := 0
def PySem.W.Fast.tw17498249694099977852 : Nat := 0
def PySem.W.Fast.tw16008136624413481516 : Nat := 0
def PySem.W.Fast.tw11838833633582754253 : Nat := 0
def PySem.W.Fast.tw2260399295413620069 : Nat := 0
def PySem.W.Fast.tw2598979940978271162 : Nat := 0
def PySem.W.Fast.tw18009737029652336540 : Nat := 0
def PySem.W.Fast.tw224424509555266980 : Nat := 0
def PySem.W.Fast.tw6617482234715017673 : Nat := 0
def PySem.W.Fast.tw16649503902367474146 : Nat := 0
def PySem.W.Fast.tw18133264262158644512 : Nat := 0
def PySem.W.Fast.tw8700313960120140428 : Nat := 0
def PySem.W.Fast.tw8804442304849687489 : Nat := 0
def PySem.W.Fast.tw15657190953429024227 : Nat := 0
def PySem.W.Fast.tw13918958037058197791 : Nat := 0
def PySem.W.Fast.tw8597000216902459473 : Nat := 0
def PySem.W.Fast.tw7319673876579882112 : Nat := 0
def PySem.W.Fast.tw14365388738622838691 : Nat := 0
def PySem.W.Fast.tw6138388887911276481 : Nat := 0
def PySem.W.Fast.tw9465121442608667048 : Nat := 0
def PySem.W.Fast.tw7423419642715622329 : Nat := 0
def PySem.W.Fast.tw5901944706148599750 : Nat := 0
def PySem.W.Fast.tw17537994135836466510 : Nat := 0
def PySem.W.Fast.tw6090362084620056243 : Nat := 0
def PySem.W.Fast.tw15981752664248083930 : Nat := 0
def PySem.W.Fast.tw16030385465862658001 : Nat := 0
def PySem.W.Fast.tw16673930179847041994 : Nat := 0
def PySem.W.Fast.tw8247366859726360060 : Nat := 0
def PySem.W.Fast.tw14151695515917867298 : Nat := 0
def PySem.W.Fast.tw1254779160949125588 : Nat := 0
def PySem.W.Fast.tw11889206934671412087 : Nat := 0
def PySem.W.Fast.tw3804407180466745029 : Nat := 0
def PySem.W.Fast.tw10380656986573293892 : Nat := 0
def PySem.W.Fast.tw17625793562837644275 : Nat := 0
def PySem.W.Fast.tw434604941124786954 : Nat := 0
def PySem.W.Fast.tw10691633398772103532 : Nat := 0
def PySem.W.Fast.tw404540110732286062 : Nat := 0
def PySem.W.Fast.tw8960544395735690108 : Nat := 0
def PySem.W.Fast.tw4409226465356279958 : Nat := 0
def PySem.W.Fast.tw13960497099631898459 : Nat := 0
def PySem.W.Fast.tw13447431060462788127 : Nat := 0
def PySem.W.Fast.tw1708245939167864601 : Nat := 0
def PySem.W.Fast.tw4896277506577937540 : Nat := 0
def PySem.W.Fast.tw948002073153315531 : Nat := 0
def PySem.W.Fast.tw5865448497590858109 : Nat := 0
def PySem.W.Fast.tw3841854073008103699 : Nat := 0
def PySem.W.Fast.tw7401475153090276992 : Nat := 0
def PySem.W.Fast.tw17652663149296266097 : Nat := 0
def PySem.W.Fast.tw12424633273042892759 : Nat := 0
def PySem.W.Fast.tw8684068771787934640 : Nat := 0
def PySem.W.Fast.tw475600371918287467 : Nat := 0
def PySem.W.Fast.tw5553896230197106028 : Nat := 0
def PySem.W.Fast.tw6313318088638660576 : Nat := 0
def PySem.W.Fast.tw10692635630748399859 : Nat := 0
def PySem.W.Fast.tw17912622645804116082 : Nat := 0
def PySem.W.Fast.tw12869750525893371456 : Nat := 0
def PySem.W.Fast.tw14762318189053267367 : Nat := 0
def PySem.W.Fast.tw16177127284607682728 : Nat := 0
def PySem.W.Fast.tw6809885088450890225 : Nat := 0
def PySem.W.Fast.tw16962285293438660103 : Nat := 0
def PySem.W.Fast.tw14318685691980324260 : Nat := 0
def PySem.W.Fast.tw3366769994454037449 : Nat := 0
def PySem.W.Fast.tw9310831307763791164 : Nat := 0
def PySem.W.Fast.tw13476146115246764313 : Nat := 0
def PySem.W.Fast.tw18158253797313444802 : Nat := 0
def PySem.W.Fast.tw10421140941321263241 : Nat := 0
def PySem.W.Fast.tw17141849839506153688 : Nat := 0
def PySem.W.Fast.tw12014062776995955339 : Nat := 0
def PySem.W.Fast.tw7325997106178884941 : Nat := 0
def PySem.W.Fast.tw4878220727143483092 : Nat := 0
def PySem.W.Fast.tw12744707083869608986 : Nat := 0
def PySem.W.Fast.tw3342729099244216745 : Nat := 0
def PySem.W.Fast.tw3291823771511378246 : Nat := 0
def PySem.W.Fast.tw17465295869140616759 : Nat := 0
def PySem.W.Fast.tw3818154232389063257 : Nat := 0
def PySem.W.Fast.tw16630433086947328235 : Nat := 0
def PySem.W.Fast.tw18395393079088151747 : Nat := 0
def PySem.W.Fast.tw6215438415254468680 : Nat := 0
def PySem.W.Fast.tw72439129079208174 : Nat := 0
def PySem.W.Fast.tw9798994882115209881 : Nat := 0
def PySem.W.Fast.tw17399507284219945959 : Nat := 0
def PySem.W.Fast.tw17339495438726676911 : Nat := 0
def PySem.W.Fast.tw779431906854829228 : Nat := 0
def PySem.W.Fast.tw7059472738448528714 : Nat := 0
def PySem.W.Fast.tw8458813880494321410 : Nat := 0
def PySem.W.Fast.tw3600073034020928552 : Nat := 0
def PySem.W.Fast.tw11920909378779105223 : Nat := 0
def PySem.W.Fast.tw14776493687324709937 : Nat := 0
def PySem.W.Fast.tw1575994777957299883 : Nat := 0
def PySem.W.Fast.tw8784482335549360864 : Nat := 0
def PySem.W.Fast.tw13324934937888345635 : Nat := 0
def PySem.W.Fast.tw5613978830099101499 : Nat := 0
def PySem.W.Fast.tw10927873202856868969 : Nat := 0
def PySem.W.Fast.tw16792315108166218416 : Nat := 0
def PySem.W.Fast.tw1240386935465022690 : Nat := 0
def PySem.W.Fast.tw7663529149978022827 : Nat := 0
def PySem.W.Fast.tw3161321487453419949 : Nat := 0
def PySem.W.Fast.tw419993127452988964 : Nat := 0
def PySem.W.Fast.tw4275498968737491652 : Nat := 0
def PySem.W.Fast.tw12846246213540869009 : Nat := 0
def PySem.W.Fast.tw15025354788674539679 : Nat := 0
def PySem.W.Fast.tw1139759171031660842 : Nat := 0
def PySem.W.Fast.tw11748344201054210360 : Nat := 0
def PySem.W.Fast.tw11339669529355366104 : Nat := 0
def PySem.W.Fast.tw1192558725600857212 : Nat := 0
def PySem.W.Fast.tw5307768579368810240 : Nat := 0
def PySem.W.Fast.tw18328743929628409343 : Nat := 0
def PySem.W.Fast.tw16334305976508913397 : Nat := 0
def PySem.W.Fast.tw12465734385348107902 : Nat := 0
def PySem.W.Fast.tw115256770931750777 : Nat := 0
def PySem.W.Fast.tw8692985587010015563 : Nat := 0
def PySem.W.Fast.tw2299656009126972855 : Nat := 0
def PySem.W.Fast.tw12855571269592493374 : Nat := 0
def PySem.W.Fast.tw2808555958089918867 : Nat := 0
def PySem.W.Fast.tw10764757743001952163 : Nat := 0
def PySem.W.Fast.tw6202560347423709635 : Nat := 0
def PySem.W.Fast.tw10657930847435976323 : Nat := 0
def PySem.W.Fast.tw7950605110755170394 : Nat := 0
def PySem.W.Fast.tw6837326634125443871 : Nat := 0
def PySem.W.Fast.tw1807380562060589620 : Nat := 0
def PySem.W.Fast.tw2916393650507428024 : Nat := 0
def PySem.W.Fast.tw2570374043286219505 : Nat := 0
def PySem.W.Fast.tw11375925873884161997 : Nat := 0
def PySem.W.Fast.tw1371640686266446923 : Nat := 0
def PySem.W.Fast.tw9326821330150834294 : Nat := 0
def PySem.W.Fast.tw11809369595332898619 : Nat := 0
def PySem.W.Fast.tw5956602974218008570 : Nat := 0
def PySem.W.Fast.tw4762467804783519788 : Nat := 0
def PySem.W.Fast.tw3689553534009792358 : Nat := 0
def PySem.W.Fast.tw10655066706597895593 : Nat := 0
def PySem.W.Fast.tw3373945380750134614 : Nat := 0
def PySem.W.Fast.tw7510273075177125843 : Nat := 0
def PySem.W.Fast.tw7425103248542714571 : Nat := 0
def PySem.W.Fast.tw15618880223361664455 : Nat := 0
def PySem.W.Fast.tw8949673049530471909 : Nat := 0
def PySem.W.Fast.tw9049974259972674195 : Nat := 0
def PySem.W.Fast.tw5572089782520108717 : Nat := 0
def PySem.W.Fast.tw11375299429112121533 : Nat := 0
def PySem.W.Fast.tw1634242477678875930 : Nat := 0
def PySem.W.Fast.tw12597397100394123042 : Nat := 0
def PySem.W.Fast.tw12718955749279231589 : Nat := 0
def PySem.W.Fast.tw910367343332380261 : Nat := 0
def PySem.W.Fast.tw13153787086663390729 : Nat := 0
def PySem.W.Fast.tw16442273707503593327 : Nat := 0
def PySem.W.Fast.tw17858980784908944711 : Nat := 0
def PySem.W.Fast.tw3298039273416288190 : Nat := 0
def PySem.W.Fast.tw6261343777039326343 : Nat := 0
def PySem.W.Fast.tw5273014695203958669 : Nat := 0
def PySem.W.Fast.tw4304671634749252935 : Nat := 0
def PySem.W.Fast.tw14240185463059924683 : Nat := 0
def PySem.W.Fast.tw10836509485175250164 : Nat := 0
def PySem.W.Fast.tw2683094359778519105 : Nat := 0
def PySem.W.Fast.tw15449826846486150323 : Nat := 0
def PySem.W.Fast.tw731116442218128539 : Nat := 0
def PySem.W.Fast.tw3830873450670831513 : Nat := 0
def PySem.W.Fast.tw6674538286842543101 : Nat := 0
def PySem.W.Fast.tw12394889805297458126 : Nat := 0
def PySem.W.Fast.tw955858275589983914 : Nat := 0
def PySem.W.Fast.tw10190650805971891199 : Nat := 0
def PySem.W.Fast.tw736420137356551133 : Nat := 0
def PySem.W.Fast.tw4464509625586733545 : Nat := 0
def PySem.W.Fast.tw16939447117117330954 : Nat := 0
def PySem.W.Fast.tw14639068982601595052 : Nat := 0
def PySem.W.Fast.tw12777177411560072735 : Nat := 0
def PySem.W.Fast.tw8156277854003712697 : Nat := 0
def PySem.W.Fast.tw10724474382694736570 : Nat := 0
def PySem.W.Fast.tw11264503464317029569 : Nat := 0
def PySem.W.Fast.tw18414696719930445965 : Nat := 0
def PySem.W.Fast.tw8428604079649881661 : Nat := 0
def PySem.W.Fast.tw10151700467484620366 : Nat := 0
def PySem.W.Fast.tw3054565197205586330 : Nat := 0
def PySem.W.Fast.tw1901805040919229684 : Nat := 0
def PySem.W.Fast.tw3383867523041028609 : Nat := 0
def PySem.W.Fast.tw467117915917671210 : Nat := 0
def PySem.W.Fast.tw3109550508571764191 : Nat := 0
def PySem.W.Fast.tw10885249238887826626 : Nat := 0
def PySem.W.Fast.tw12022286943062193049 : Nat := 0
def PySem.W.Fast.tw12333847192362834090 : Nat := 0
def PySem.W.Fast.tw3957609259176565981 : Nat := 0
def PySem.W.Fast.tw16111343913085740329 : Nat := 0
def PySem.W.Fast.tw6257449019792588698 : Nat := 0
def PySem.W.Fast.tw3389173348060547547 : Nat := 0
def PySem.W.Fast.tw15020524309090210218 : Nat := 0
def PySem.W.Fast.tw907328545821036977 : Nat := 0
def PySem.W.Fast.tw16045309726576826711 : Nat := 0
def PySem.W.Fast.tw2772099401613127552 : Nat := 0
def PySem.W.Fast.tw979499047030582947 : Nat := 0
def PySem.W.Fast.tw9608531893635445011 : Nat := 0
def PySem.W.Fast.tw2174175444191207192 : Nat := 0
def PySem.W.Fast.tw1275411434573576350 : Nat := 0
def PySem.W.Fast.tw13381961426202737661 : Nat := 0
def PySem.W.Fast.tw3292429055583951622 : Nat := 0
def PySem.W.Fast.tw17175075419269338345 : Nat := 0
def PySem.W.Fast.tw17985504505340538304 : Nat := 0
def PySem.W.Fast.tw6247192122673641909 : Nat := 0
def PySem.W.Fast.tw9358114641840087127 : Nat := 0
def PySem.W.Fast.tw7827262091479935322 : Nat := 0
def PySem.W.Fast.tw17662389176136194892 : Nat := 0
def PySem.W.Fast.tw11105881891581227832 : Nat := 0
def PySem.W.Fast.tw9741873101616151327 : Nat := 0
def PySem.W.Fast.tw9846062281343364154 : Nat := 0
def PySem.W.Fast.tw8645201656811440052 : Nat := 0
def PySem.W.Fast.tw4804137614400628178 : Nat := 0
def PySem.W.Fast.tw12626795755594511718 : Nat := 0
def PySem.W.Fast.tw7558525957143986453 : Nat := 0
def PySem.W.Fast.tw14536434513988725691 : Nat := 0
def PySem.W.Fast.tw4851886995104962626 : Nat := 0
def PySem.W.Fast.tw156953744552883595 : Nat := 0
def PySem.W.Fast.tw8363215848714048893 : Nat := 0
def PySem.W.Fast.tw17835348268191919032 : Nat := 0
def PySem.W.Fast.tw10236503527730980966 : Nat := 0
def PySem.W.Fast.tw15682171631032975093 : Nat := 0
def PySem.W.Fast.tw13752087161429734644 : Nat := 0
def PySem.W.Fast.tw16634228980802040963 : Nat := 0
def PySem.W.Fast.tw7706804060790061110 : Nat := 0
def PySem.W.Fast.tw8797337877169917143 : Nat := 0
def PySem.W.Fast.tw16508077923591665855 : Nat := 0
def PySem.W.Fast.tw17041083980502051516 : Nat := 0
def PySem.W.Fast.tw6482952889597141104 : Nat := 0
def PySem.W.Fast.tw9474801095151061391 : Nat := 0
def PySem.W.Fast.tw5884847953664815001 : Nat := 0
def PySem.W.Fast.tw14188689081417088750 : Nat := 0
def PySem.W.Fast.tw15209560759485796315 : Nat := 0
def PySem.W.Fast.tw7172782371865302657 : Nat := 0
def PySem.W.Fast.tw1067979193635291335 : Nat := 0
def PySem.W.Fast.tw16654104535486410338 : Nat := 0
def PySem.W.Fast.tw10164798075087121163 : Nat := 0
def PySem.W.Fast.tw1992406295021630029 : Nat := 0
def PySem.W.Fast.tw543201364451664249 : Nat := 0
def PySem.W.Fast.tw10135414117361466050 : Nat := 0
def PySem.W.Fast.tw15467408369976822255 : Nat := 0
def PySem.W.Fast.tw11248241115571750778 : Nat := 0
def PySem.W.Fast.tw14341390588036397945 : Nat := 0
def PySem.W.Fast.tw6937912827257018346 : Nat := 0
def PySem.W.Fast.tw4904412174931748349 : Nat := 0
def PySem.W.Fast.tw5482786266004449633 : Nat := 0
def PySem.W.Fast.tw13483152629440828720 : Nat := 0
def PySem.W.Fast.tw15330029284427947355 : Nat := 0
def PySem.W.Fast.tw14870277319830527853 : Nat := 0
def PySem.W.Fast.tw14332046185656728701 : Nat := 0
def PySem.W.Fast.tw3693019711875611732 : Nat := 0
def PySem.W.Fast.tw2330476898025038438 : Nat := 0
def PySem.W.Fast.tw9067822393280040526 : Nat := 0
def PySem.W.Fast.tw16804382546775047584 : Nat := 0
def PySem.W.Fast.tw5617411625839207039 : Nat := 0
def PySem.W.Fast.tw1332676515056296813 : Nat := 0
def PySem.W.Fast.tw5491650123566373957 : Nat := 0
def PySem.W.Fast.tw3846978459470824008 : Nat := 0
def PySem.W.Fast.tw1232972728989961536 : Nat := 0
def PySem.W.Fast.tw12205916946202332281 : Nat := 0
def PySem.W.Fast.tw1004409191924402757 : Nat := 0
def PySem.W.Fast.tw7356255412700060882 : Nat := 0
def PySem.W.Fast.tw16989444861619257276 : Nat := 0
def PySem.W.Fast.tw10858854398505260334 : Nat := 0
def PySem.W.Fast.tw7939096587013041544 : Nat := 0
def PySem.W.Fast.tw12538176350738543963 : Nat := 0
def PySem.W.Fast.tw13275214520283365250 : Nat := 0
def PySem.W.Fast.tw9852610524098286399 : Nat := 0
def PySem.W.Fast.tw18204145167864181520 : Nat := 0
def PySem.W.Fast.tw1060244431649533976 : Nat := 0
def PySem.W.Fast.tw10683477102148370759 : Nat := 0
def PySem.W.Fast.tw4197010037831044277 : Nat := 0
def PySem.W.Fast.tw15766577330468248237 : Nat := 0
def PySem.W.Fast.tw6573441302188620055 : Nat := 0
def PySem.W.Fast.tw5894051574448040829 : Nat := 0
def PySem.W.Fast.tw3184933621638369046 : Nat := 0
def PySem.W.Fast.tw4291203107598595103 : Nat := 0
def PySem.W.Fast.tw8919707531333725552 : Nat := 0
def PySem.W.Fast.tw6482585372302642447 : Nat := 0
def PySem.W.Fast.tw3904026848303684725 : Nat := 0
def PySem.W.Fast.tw9156044173080551551 : Nat := 0
def PySem.W.Fast.tw7065270179178612688 : Nat := 0
def PySem.W.Fast.tw10925656303557752495 : Nat := 0
def PySem.W.Fast.tw4228631835379736309 : Nat := 0
def PySem.W.Fast.tw8058837987779479042 : Nat := 0
def PySem.W.Fast.tw7552242831678291502 : Nat := 0
def PySem.W.Fast.tw8078345592118928092 : Nat := 0
def PySem.W.Fast.tw12899315106874622117 : Nat := 0
def PySem.W.Fast.tw11270305355591325920 : Nat := 0
def PySem.W.Fast.tw10367572867619647542 : Nat := 0
def PySem.W.Fast.tw8642276911103740779 : Nat := 0
def PySem.W.Fast.tw6905683241201047181 : Nat := 0
def PySem.W.Fast.tw1131782220185658942 : Nat := 0
def PySem.W.Fast.tw788360981381480867 : Nat := 0
def PySem.W.Fast.tw16369562492468546960 : Nat := 0
def PySem.W.Fast.tw3151958997918058330 : Nat := 0
def PySem.W.Fast.tw15861866562570841479 : Nat := 0
def PySem.W.Fast.tw11008886900119934195 : Nat := 0
def PySem.W.Fast.tw4714410923403428289 : Nat := 0
def PySem.W.Fast.tw4216116114650086496 : Nat := 0
def PySem.W.Fast.tw9845856601481227947 : Nat := 0
def PySem.W.Fast.tw1015104570016020751 : Nat := 0
def PySem.W.Fast.tw4934559602389028911 : Nat := 0
def PySem.W.Fast.tw3629877163065647012 : Nat := 0
def PySem.W.Fast.tw10687731411928712181 : Nat := 0
def PySem.W.Fast.tw11488811179248055265 : Nat := 0
def PySem.W.Fast.tw2673284892832618178 : Nat := 0
def PySem.W.Fast.tw2417526029554776680 : Nat := 0
def PySem.W.Fast.tw4644301181758701763 : Nat := 0
def PySem.W.Fast.tw5956232718976860762 : Nat := 0
def PySem.W.Fast.tw14356016462143590156 : Nat := 0
def PySem.W.Fast.tw12531948954307075101 : Nat := 0
def PySem.W.Fast.tw5206583781169616360 : Nat := 0
def PySem.W.Fast.tw14789555840722676809 : Nat := 0
def PySem.W.Fast.tw5331363672830580787 : Nat := 0
def PySem.W.Fast.tw11374248473390462986 : Nat := 0
def PySem.W.Fast.tw13119019837061088675 : Nat := 0
def PySem.W.Fast.tw5729061825474221205 : Nat := 0
def PySem.W.Fast.tw17480938175995784412 : Nat := 0
def PySem.W.Fast.tw9526995368918195783 : Nat := 0
def PySem.W.Fast.tw11433564672026339746 : Nat := 0
def PySem.W.Fast.tw4230270766764195149 : Nat := 0
def PySem.W.Fast.tw11072446406778968306 : Nat := 0
def PySem.W.Fast.tw182168506093368274 : Nat := 0
def PySem.W.Fast.tw1458283988981619230 : Nat := 0
def PySem.W.Fast.tw11792766487493627022 : Nat := 0
def PySem.W.Fast.tw103567209662738286 : Nat := 0
def PySem.W.Fast.tw17241891329519506989 : Nat := 0
def PySem.W.Fast.tw11166684784652302411 : Nat := 0
def PySem.W.Fast.tw4697855061128308710 : Nat := 0
def PySem.W.Fast.tw4177176661545203646 : Nat := 0
def PySem.W.Fast.tw9499215864957207552 : Nat := 0
def PySem.W.Fast.tw7521083155652992907 : Nat := 0
def PySem.W.Fast.tw18445487845132289394 : Nat := 0
def PySem.W.Fast.tw1372372487334578311 : Nat := 0
def PySem.W.Fast.tw16349455260682146641 : Nat := 0
def PySem.W.Fast.tw16525528729765095996 : Nat := 0
def PySem.W.Fast.tw8064575624882558967 : Nat := 0
def PySem.W.Fast.tw5824370676443462325 : Nat := 0
def PySem.W.Fast.tw291922024448089271 : Nat := 0
def PySem.W.Fast.tw16599441684194649517 : Nat := 0
def PySem.W.Fast.tw1877851579367310385 : Nat := 0
def PySem.W.Fast.tw6693791676018496964 : Nat := 0
def PySem.W.Fast.tw11670343684387323886 : Nat := 0
def PySem.W.Fast.tw738591310502350181 : Nat := 0
def PySem.W.Fast.tw17033064822523295655 : Nat := 0
def PySem.W.Fast.tw18402285897196078994 : Nat := 0
def PySem.W.Fast.tw8517437736738117475 : Nat := 0
def PySem.W.Fast.tw12667371895553884891 : Nat := 0
def PySem.W.Fast.tw2698202323959528084 : Nat := 0
def PySem.W.Fast.tw3646945974899207599 : Nat := 0
def PySem.W.Fast.tw17619831822468901014 : Nat := 0
def PySem.W.Fast.tw4544862897479118025 : Nat := 0
def PySem.W.Fast.tw18111770409138655876 : Nat := 0
def PySem.W.Fast.tw6263079215815451825 : Nat := 0
def PySem.W.Fast.tw18273692366324293878 : Nat := 0
def PySem.W.Fast.tw17964119731657984802 : Nat := 0
def PySem.W.Fast.tw236791747223461437 : Nat := 0
def PySem.W.Fast.tw10006613386407935486 : Nat := 0
def PySem.W.Fast.tw1304984875123507166 : Nat := 0
def PySem.W.Fast.tw13101043669956808148 : Nat := 0
def PySem.W.Fast.tw13293570532054944793 : Nat := 0
def PySem.W.Fast.tw12291063501259964989 : Nat := 0
def PySem.W.Fast.tw14076752236033959926 : Nat := 0
def PySem.W.Fast.tw5852879550001069961 : Nat := 0
def PySem.W.Fast.tw14540324787786616314 : Nat := 0
def PySem.W.Fast.tw12827542704330523447 : Nat := 0
def PySem.W.Fast.tw10011288928189552635 : Nat := 0
def PySem.W.Fast.tw12142815286931314197 : Nat := 0
def PySem.W.Fast.tw1632503511899309746 : Nat := 0
def PySem.W.Fast.tw9258942556953127738 : Nat := 0
def PySem.W.Fast.tw14499591140389237761 : Nat := 0
def PySem.W.Fast.tw5651925424527105222 : Nat := 0
def PySem.W.Fast.tw4632211220298748545 : Nat := 0
def PySem.W.Fast.tw499680880354638181 : Nat := 0
def PySem.W.Fast.tw17202805650712168058 : Nat := 0
def PySem.W.Fast.tw2997120471314306411 : Nat := 0
def PySem.W.Fast.tw4311928418913683893 : Nat := 0
def PySem.W.Fast.tw1898999262667108944 : Nat := 0
def PySem.W.Fast.tw2102234263805085432 : Nat := 0
def PySem.W.Fast.tw14791420684850794138 : Nat := 0
def PySem.W.Fast.tw5505988545876417266 : Nat := 0
def PySem.W.Fast.tw12448013135967320665 : Nat := 0
def PySem.W.Fast.tw16288533441834674258 : Nat := 0
def PySem.W.Fast.tw14962251212739191820 : Nat := 0
def PySem.W.Fast.tw7251865998972057145 : Nat := 0
def PySem.W.Fast.tw14530260939780613976 : Nat := 0
def PySem.W.Fast.tw6062486294838675163 : Nat := 0
def PySem.W.Fast.tw11209011644060938193 : Nat := 0
def PySem.W.Fast.tw8501712540800364586 : Nat := 0
def PySem.W.Fast.tw3473325202846703829 : Nat := 0
def PySem.W.Fast.tw13339218547093972382 : Nat := 0
def PySem.W.Fast.tw4211605713838467145 : Nat := 0
def PySem.W.Fast.tw9445859574576453143 : Nat := 0
def PySem.W.Fast.tw18388456370380669580 : Nat := 0
def PySem.W.Fast.tw9520459753364745471 : Nat := 0
def PySem.W.Fast.tw1614914148925413203 : Nat := 0
def PySem.W.Fast.tw6755787859277648168 : Nat := 0
def PySem.W.Fast.tw16556036555561030221 : Nat := 0
def PySem.W.Fast.tw10755592242069168 : Nat := 0
def PySem.W.Fast.tw11688901881220443202 : Nat := 0
def PySem.W.Fast.tw5504636515334518991 : Nat := 0
def PySem.W.Fast.tw9842061357876901432 : Nat := 0
def PySem.W.Fast.tw17248788198274053218 : Nat := 0
def PySem.W.Fast.tw14622589856662240845 : Nat := 0
def PySem.W.Fast.tw10080597658833864905 : Nat := 0
def PySem.W.Fast.tw16729451680262066846 : Nat := 0
def PySem.W.Fast.tw6955198569520524636 : Nat := 0
def PySem.W.Fast.tw6109269608103056735 : Nat := 0
def PySem.W.Fast.tw6086219707408061987 : Nat := 0
def PySem.W.Fast.tw17755588055037053399 : Nat := 0
def PySem.W.Fast.tw14102286295014621983 : Nat := 0
def PySem.W.Fast.tw3448596733702503923 : Nat := 0
def PySem.W.Fast.tw2353440223937455663 : Nat := 0
def PySem.W.Fast.tw14264311186437767712 : Nat := 0
def PySem.W.Fast.tw14021066202465110017 : Nat := 0
def PySem.W.Fast.tw7163862618116311042 : Nat := 0
def PySem.W.Fast.tw6548112634529426641 : Nat := 0
def PySem.W.Fast.tw18363205149676844263 : Nat := 0
def PySem.W.Fast.tw18108730016670410130 : Nat := 0
def PySem.W.Fast.tw12743451278037541067 : Nat := 0
def PySem.W.Fast.tw6142789216364451565 : Nat := 0
def PySem.W.Fast.tw8154870865680652633 : Nat := 0
def PySem.W.Fast.tw996551200902693293 : Nat := 0
def PySem.W.Fast.tw7876770248990109813 : Nat := 0
def PySem.W.Fast.tw10231584437553525313 : Nat := 0
def PySem.W.Fast.tw11918735788221548957 : Nat := 0
def PySem.W.Fast.tw9634068880026600936 : Nat := 0
def PySem.W.Fast.tw10013232212411789735 : Nat := 0
def PySem.W.Fast.tw15353364801679390196 : Nat := 0
def PySem.W.Fast.tw4078872270319684111 : Nat := 0
def PySem.W.Fast.tw4843165288194567678 : Nat := 0
def PySem.W.Fast.tw4013420286364253707 : Nat := 0
def PySem.W.Fast.tw9667396625778491483 : Nat := 0
def PySem.W.Fast.tw17298538789840889553 : Nat := 0
def PySem.W.Fast.tw8688929191254880857 : Nat := 0
def PySem.W.Fast.tw2959911855534421137 : Nat := 0
def PySem.W.Fast.tw10479677517785304731 : Nat := 0
def PySem.W.Fast.tw740965875919247754 : Nat := 0
def PySem.W.Fast.tw14546948306382448855 : Nat := 0
def PySem.W.Fast.tw11401580202142046124 : Nat := 0
def PySem.W.Fast.tw3569504790323898462 : Nat := 0
def PySem.W.Fast.tw5543689922022301830 : Nat := 0
def PySem.W.Fast.tw14973921489809151529 : Nat := 0
def PySem.W.Fast.tw9769060988009934575 : Nat := 0
def PySem.W.Fast.tw11338580679027973368 : Nat := 0
def PySem.W.Fast.tw12621971830120352042 : Nat := 0
def PySem.W.Fast.tw11574742549992605524 : Nat := 0
def PySem.W.Fast.tw16571805558420358149 : Nat := 0
def PySem.W.Fast.tw3501244599476919141 : Nat := 0
def PySem.W.Fast.tw10669851050680174863 : Nat := 0
def PySem.W.Fast.tw9483006939586037013 : Nat := 0
def PySem.W.Fast.tw17216076678949353413 : Nat := 0
def PySem.W.Fast.tw5192749933796826007 : Nat := 0
def PySem.W.Fast.tw16261951656345306739 : Nat := 0
def PySem.W.Fast.tw4307225308404056084 : Nat := 0
def PySem.W.Fast.tw17204232468995123443 : Nat := 0
def PySem.W.Fast.tw12137269751247911112 : Nat := 0
def PySem.W.Fast.tw7574113961853648499 : Nat := 0
def PySem.W.Fast.tw10573345936574431135 : Nat := 0
def PySem.W.Fast.tw4497937532682244022 : Nat := 0
def PySem.W.Fast.tw924035403227104740 : Nat := 0
def PySem.W.Fast.tw15501872971813432495 : Nat := 0
def PySem.W.Fast.tw4768814920650034785 : Nat := 0
def PySem.W.Fast.tw3997227336207659994 : Nat := 0
def PySem.W.Fast.tw75886319192950446 : Nat := 0
def PySem.W.Fast.tw11512708071389908424 : Nat := 0
def PySem.W.Fast.tw17282582756054966552 : Nat := 0
def PySem.W.Fast.tw14842105965032952602 : Nat := 0
def PySem.W.Fast.tw8691499908512481062 : Nat := 0
def PySem.W.Fast.tw13234401056201129504 : Nat := 0
def PySem.W.Fast.tw4355459327330531613 : Nat := 0
def PySem.W.Fast.tw18445469963005320880 : Nat := 0
def PySem.W.Fast.tw14120081568678743653 : Nat := 0
def PySem.W.Fast.tw2871897269178960348 : Nat := 0
def PySem.W.Fast.tw12764678335895694200 : Nat := 0
def PySem.W.Fast.tw4206712076883611553 : Nat := 0
def PySem.W.Fast.tw14811865868539130515 : Nat := 0
def PySem.W.Fast.tw8016280229353973004 : Nat := 0
def PySem.W.Fast.tw11920961152613478916 : Nat := 0
def PySem.W.Fast.tw5838427982744705721 : Nat := 0
def PySem.W.Fast.tw17238326921557793351 : Nat := 0
def PySem.W.Fast.tw13246073017118778128 : Nat := 0
def PySem.W.Fast.tw14803848016115592386 : Nat := 0
def PySem.W.Fast.tw13227296093816056372 : Nat := 0
def PySem.W.Fast.tw6550696820661356558 : Nat := 0
def PySem.W.Fast.tw9194898287198640629 : Nat := 0
def PySem.W.Fast.tw9360648282983851303 : Nat := 0
def PySem.W.Fast.tw2016571898754923259 : Nat := 0
def PySem.W.Fast.tw10642189228693748764 : Nat := 0
def PySem.W.Fast.tw2327829282582671144 : Nat := 0
def PySem.W.Fast.tw7722913631733485965 : Nat := 0
def PySem.W.Fast.tw4451954914755604204 : Nat := 0
def PySem.W.Fast.tw17535784313872450100 : Nat := 0
def PySem.W.Fast.tw11183571822783184434 : Nat := 0
def PySem.W.Fast.tw4843931217870791687 : Nat := 0
def PySem.W.Fast.tw6772851166820642451 : Nat := 0
def PySem.W.Fast.tw4597547919744297255 : Nat := 0
def PySem.W.Fast.tw2750742202046663394 : Nat := 0
def PySem.W.Fast.tw9063112076356117245 : Nat := 0
def PySem.W.Fast.tw13470675892017298827 : Nat := 0
def PySem.W.Fast.tw1173326059803071651 : Nat := 0
def PySem.W.Fast.tw10269882723737838214 : Nat := 0
def PySem.W.Fast.tw18215004225118287829 : Nat := 0
def PySem.W.Fast.tw4919726841142013558 : Nat := 0
def PySem.W.Fast.tw17065921015132037844 : Nat := 0
def PySem.W.Fast.tw6066337896064844996 : Nat := 0
def PySem.W.Fast.tw16789501338854331634 : Nat := 0
def PySem.W.Fast.tw14780319401750011468 : Nat := 0
def PySem.W.Fast.tw16895538142693631255 : Nat := 0
def PySem.W.Fast.tw14692190310611307881 : Nat := 0
def PySem.W.Fast.tw16179026625907882571 : Nat := 0
def PySem.W.Fast.tw3042089853487992942 : Nat := 0
def PySem.W.Fast.tw10010701797957152919 : Nat := 0
def PySem.W.Fast.tw9796928174462487171 : Nat := 0
def PySem.W.Fast.tw5112078569565977033 : Nat := 0
def PySem.W.Fast.tw10590165261940707095 : Nat := 0
def PySem.W.Fast.tw8185216169401485311 : Nat := 0
def PySem.W.Fast.tw3767120112199967503 : Nat := 0
def PySem.W.Fast.tw10375015238247290551 : Nat := 0
def PySem.W.Fast.tw7897456551942090540 : Nat := 0
def PySem.W.Fast.tw13750915754664527347 : Nat := 0
def PySem.W.Fast.tw11789780646223361749 : Nat := 0
def PySem.W.Fast.tw5688994239988133505 : Nat := 0
def PySem.W.Fast.tw17009888388783147038 : Nat := 0
def PySem.W.Fast.tw7853486168880653681 : Nat := 0
def PySem.W.Fast.tw4489024470546818225 : Nat := 0
def PySem.W.Fast.tw2662700330229239579 : Nat := 0
def PySem.W.Fast.tw18372438300448036588 : Nat := 0
def PySem.W.Fast.tw10580075373800119923 : Nat := 0
def PySem.W.Fast.tw9590480690950040151 : Nat := 0
def PySem.W.Fast.tw7887346348478627301 : Nat := 0
def PySem.W.Fast.tw9413390806651383066 : Nat := 0
def PySem.W.Fast.tw5576090607274885496 : Nat := 0
def PySem.W.Fast.tw15598195932458255081 : Nat := 0
def PySem.W.Fast.tw16743370723018262741 : Nat := 0
def PySem.W.Fast.tw9503365710224965822 : Nat := 0
def PySem.W.Fast.tw8938497219742273122 : Nat := 0
def PySem.W.Fast.tw9027240270977866809 : Nat := 0
def PySem.W.Fast.tw8167120391486806324 : Nat := 0
def PySem.W.Fast.tw18312379008378796448 : Nat := 0
def PySem.W.Fast.tw9195245191078478397 : Nat := 0
def PySem.W.Fast.tw3810571013483683901 : Nat := 0
def PySem.W.Fast.tw707843979611284636 : Nat := 0
def PySem.W.Fast.tw277573396396398709 : Nat := 0
def PySem.W.Fast.tw4377403330442260864 : Nat := 0
def PySem.W.Fast.tw6133749863407413383 : Nat := 0
def PySem.W.Fast.tw12641618928129240054 : Nat := 0
def PySem.W.Fast.tw16458315029488808335 : Nat := 0
def PySem.W.Fast.tw4304668955523536162 : Nat := 0
def PySem.W.Fast.tw4826309405912144339 : Nat := 0
def PySem.W.Fast.tw6310775121642712930 : Nat := 0
def PySem.W.Fast.tw2285634902142817067 : Nat := 0
def PySem.W.Fast.tw14651638373596924461 : Nat := 0
def PySem.W.Fast.tw10830442533823787256 : Nat := 0
def PySem.W.Fast.tw6966130602468042629 : Nat := 0
def PySem.W.Fast.tw13673591313258357635 : Nat := 0
def PySem.W.Fast.tw5948991166098155381 : Nat := 0
def PySem.W.Fast.tw17799767175697866546 : Nat := 0
def PySem.W.Fast.tw14494775310612570546 : Nat := 0
def PySem.W.Fast.tw6893738987027327883 : Nat := 0
def PySem.W.Fast.tw13038917830809075531 : Nat := 0
def PySem.W.Fast.tw1047894902971709224 : Nat := 0
def PySem.W.Fast.tw3993206532113210756 : Nat := 0
def PySem.W.Fast.tw11374295657964635630 : Nat := 0
def PySem.W.Fast.tw4944835918802579138 : Nat := 0
def PySem.W.Fast.tw5683537714821828635 : Nat := 0
def PySem.W.Fast.tw17259325081190451698 : Nat := 0
def PySem.W.Fast.tw8616876439470306094 : Nat := 0
def PySem.W.Fast.tw15960944437174930507 : Nat := 0
def PySem.W.Fast.tw7498888497050453333 : Nat := 0
def PySem.W.Fast.tw2882587119704041611 : Nat := 0
def PySem.W.Fast.tw11440316211766789624 : Nat := 0
def PySem.W.Fast.tw5007100411768446990 : Nat := 0
def PySem.W.Fast.tw1842027022924517065 : Nat := 0
def PySem.W.Fast.tw14183004879119252836 : Nat := 0
def PySem.W.Fast.tw18422582315860442801 : Nat := 0
def PySem.W.Fast.tw16036601285055777410 : Nat := 0
def PySem.W.Fast.tw14488446946122782348 : Nat := 0
def PySem.W.Fast.tw17207592417367560246 : Nat := 0
def PySem.W.Fast.tw2790249896666540036 : Nat := 0
def PySem.W.Fast.tw10516076996356303999 : Nat := 0
def PySem.W.Fast.tw11136195004034588495 : Nat := 0
def PySem.W.Fast.tw10082557599351080651 : Nat := 0
def PySem.W.Fast.tw5256129732503031919 : Nat := 0
def PySem.W.Fast.tw1104573143658042999 : Nat := 0
def PySem.W.Fast.tw8831771924812567676 : Nat := 0
def PySem.W.Fast.tw3474790915751062532 : Nat := 0
def PySem.W.Fast.tw4546671211649719037 : Nat := 0
def PySem.W.Fast.tw349290428298676210 : Nat := 0
def PySem.W.Fast.tw9659604425501801187 : Nat := 0
def PySem.W.Fast.tw2194352954485834860 : Nat := 0
def PySem.W.Fast.tw15694889318044911391 : Nat := 0
def PySem.W.Fast.tw12965439070211770425 : Nat := 0
def PySem.W.Fast.tw8309647734634743909 : Nat := 0
def PySem.W.Fast.tw11712195174814124198 : Nat := 0
def PySem.W.Fast.tw4180682660966525701 : Nat := 0
def PySem.W.Fast.tw14308059612065988302 : Nat := 0
def PySem.W.Fast.tw570617764186974285 : Nat := 0
def PySem.W.Fast.tw5054908578808297418 : Nat := 0
def PySem.W.Fast.tw18353279829213987825 : Nat := 0
def PySem.W.Fast.tw15640024421853410261 : Nat := 0
def PySem.W.Fast.tw4576078654441631080 : Nat := 0
def PySem.W.Fast.tw7615401441363944378 : Nat := 0
def PySem.W.Fast.tw6621048873085837103 : Nat := 0
def PySem.W.Fast.tw9447120354762392269 : Nat := 0
def PySem.W.Fast.tw12232369388779254855 : Nat := 0
def PySem.W.Fast.tw6884287767211668480 : Nat := 0
def PySem.W.Fast.tw2051166628899091806 : Nat := 0
def PySem.W.Fast.tw8723280881142200768 : Nat := 0
def PySem.W.Fast.tw16042017600452105941 : Nat := 0
def PySem.W.Fast.tw1018417998140842783 : Nat := 0
def PySem.W.Fast.tw11166479498839954270 : Nat := 0
def PySem.W.Fast.tw14902679965283533312 : Nat := 0
def PySem.W.Fast.tw4522480667389464092 : Nat := 0
def PySem.W.Fast.tw16904998370648044996 : Nat := 0
def PySem.W.Fast.tw11799245754267329781 : Nat := 0
def PySem.W.Fast.tw1838086957333556770 : Nat := 0
def PySem.W.Fast.tw960322792281329436 : Nat := 0
def PySem.W.Fast.tw10417175859875685474 : Nat := 0
def PySem.W.Fast.tw14421800286559237258 : Nat := 0
def PySem.W.Fast.tw5863209610422500845 : Nat := 0
def PySem.W.Fast.tw7493425925454846870 : Nat := 0
def PySem.W.Fast.tw3730374529157513405 : Nat := 0
def PySem.W.Fast.tw5939246600446697153 : Nat := 0
def PySem.W.Fast.tw9675077060626754069 : Nat := 0
def PySem.W.Fast.tw14046078925460069025 : Nat := 0
def PySem.W.Fast.tw2038462030394279701 : Nat := 0
def PySem.W.Fast.tw7058033932106106095 : Nat := 0
def PySem.W.Fast.tw6206701756110967698 : Nat := 0
def PySem.W.Fast.tw1054575364126085659 : Nat := 0
def PySem.W.Fast.tw16720588429076148896 : Nat := 0
def PySem.W.Fast.tw4039868731452995702 : Nat := 0
def PySem.W.Fast.tw1464652818774401738 : Nat := 0
def PySem.W.Fast.tw17340485976165671062 : Nat := 0
def PySem.W.Fast.tw12098813783920316024 : Nat := 0
def PySem.W.Fast.tw15202619747727259840 : Nat := 0
def PySem.W.Fast.tw13001460013329697109 : Nat := 0
def PySem.W.Fast.tw9254560539970377126 : Nat := 0
def PySem.W.Fast.tw12632465920288518413 : Nat := 0
def PySem.W.Fast.tw9810678650030409590 : Nat := 0
def PySem.W.Fast.tw11499940546378455666 : Nat := 0
def PySem.W.Fast.tw13879425922563996097 : Nat := 0
def PySem.W.Fast.tw12987372065224790034 : Nat := 0
def PySem.W.Fast.tw1184942617957441023 : Nat := 0
def PySem.W.Fast.tw7255867127127140440 : Nat := 0
def PySem.W.Fast.tw5821794659217453550 : Nat := 0
def PySem.W.Fast.tw2417990027958507501 : Nat := 0
def PySem.W.Fast.tw9927868643697112056 : Nat := 0
def PySem.W.Fast.tw9726713181473629471 : Nat := 0
def PySem.W.Fast.tw16640327556897514876 : Nat := 0
def PySem.W.Fast.tw9350846013352842443 : Nat := 0
def PySem.W.Fast.tw7844003306188646299 : Nat := 0
def PySem.W.Fast.tw13376841365663632897 : Nat := 0
def PySem.W.Fast.tw15903088085217787050 : Nat := 0
def PySem.W.Fast.tw31415987871723023 : Nat := 0
def PySem.W.Fast.tw4582013514390708824 : Nat := 0
def PySem.W.Fast.tw5975309455455366902 : Nat := 0
def PySem.W.Fast.tw9584561916601043586 : Nat := 0
def PySem.W.Fast.tw18204758313628855546 : Nat := 0
def PySem.W.Fast.tw554535373101788993 : Nat := 0
def PySem.W.Fast.tw16384158443005952520 : Nat := 0
def PySem.W.Fast.tw13269175565371895382 : Nat := 0
def PySem.W.Fast.tw688412651895857027 : Nat := 0
def PySem.W.Fast.tw3883139596493403187 : Nat := 0
def PySem.W.Fast.tw6358221703745685926 : Nat := 0
def PySem.W.Fast.tw5814512870885003690 : Nat := 0
def PySem.W.Fast.tw15399499214158844903 : Nat := 0
def PySem.W.Fast.tw3292413202337419532 : Nat := 0
def PySem.W.Fast.tw13071782734262014377 : Nat := 0
def PySem.W.Fast.tw4997773765300204052 : Nat := 0
def PySem.W.Fast.tw2035911231320858925 : Nat := 0
def PySem.W.Fast.tw5296843584857230859 : Nat := 0
def PySem.W.Fast.tw17605252324811493460 : Nat := 0
def PySem.W.Fast.tw6434377482824960006 : Nat := 0
def PySem.W.Fast.tw239489269562390117 : Nat := 0
def PySem.W.Fast.tw14615200335748992769 : Nat := 0
def PySem.W.Fast.tw12097796047353507493 : Nat := 0
def PySem.W.Fast.tw6433204366582259941 : Nat := 0
def PySem.W.Fast.tw2229397554745938798 : Nat := 0
def PySem.W.Fast.tw16839398728491745894 : Nat := 0
def PySem.W.Fast.tw9498370625267968653 : Nat := 0
def PySem.W.Fast.tw15310165662864926629 : Nat := 0
def PySem.W.Fast.tw1579447616959867636 : Nat := 0
def PySem.W.Fast.tw10028227733185711832 : Nat := 0
def PySem.W.Fast.tw13669011910308516471 : Nat := 0
def PySem.W.Fast.tw14603725576718647417 : Nat := 0
def PySem.W.Fast.tw7861115465031104908 : Nat := 0
def PySem.W.Fast.tw688833271511145911 : Nat := 0
def PySem.W.Fast.tw17469462273459509607 : Nat := 0
def PySem.W.Fast.tw10919655594612068470 : Nat := 0
def PySem.W.Fast.tw17588510632227030132 : Nat := 0
def PySem.W.Fast.tw754934841779331359 : Nat := 0
def PySem.W.Fast.tw16353355089053233507 : Nat := 0
def PySem.W.Fast.tw10377120006492821168 : Nat := 0
def PySem.W.Fast.tw12968560817766473916 : Nat := 0
def PySem.W.Fast.tw4375508152088630525 : Nat := 0
def PySem.W.Fast.tw15201380993306431966 : Nat := 0
def PySem.W.Fast.tw8688269220170917391 : Nat := 0
def PySem.W.Fast.tw17950838197343757115 : Nat := 0
def PySem.W.Fast.tw10351265952951861064 : Nat := 0
def PySem.W.Fast.tw1121321884330863488 : Nat := 0
def PySem.W.Fast.tw7742296385846470008 : Nat := 0
def PySem.W.Fast.tw1566228257882071367 : Nat := 0
def PySem.W.Fast.tw10231800929922513039 : Nat := 0
def PySem.W.Fast.tw2611673399363276646 : Nat := 0
def PySem.W.Fast.tw14277856360707484945 : Nat := 0
def PySem.W.Fast.tw17069807058374097761 : Nat := 0
def PySem.W.Fast.tw4789663976712623879 : Nat := 0
def PySem.W.Fast.tw97269469249281009 : Nat := 0
def PySem.W.Fast.tw6784015432045666692 : Nat := 0
def PySem.W.Fast.tw15576146643691880958 : Nat := 0
def PySem.W.Fast.tw2011993365306250812 : Nat := 0
def PySem.W.Fast.tw10572692821547747365 : Nat := 0
def PySem.W.Fast.tw9017912293948236075 : Nat := 0
def PySem.W.Fast.tw717828455848016363 : Nat := 0
def PySem.W.Fast.tw8025157781869894825 : Nat := 0
def PySem.W.Fast.tw1619795330409732305 : Nat := 0
def PySem.W.Fast.tw5875220734477944227 : Nat := 0
def PySem.W.Fast.tw545383740796465837 : Nat := 0
def PySem.W.Fast.tw5496865897637672037 : Nat := 0
def PySem.W.Fast.tw9360562980967325093 : Nat := 0
def PySem.W.Fast.tw8310345771047936937 : Nat := 0
def PySem.W.Fast.tw15593357964215461533 : Nat := 0
def PySem.W.Fast.tw17107192886965223803 : Nat := 0
def PySem.W.Fast.tw470919640325317023 : Nat := 0
def PySem.W.Fast.tw11720330864327081466 : Nat := 0
def PySem.W.Fast.tw6944421595548517758 : Nat := 0
def PySem.W.Fast.tw17414176475929115767 : Nat := 0
def PySem.W.Fast.tw15621257777300936377 : Nat := 0
def PySem.W.Fast.tw14365747868093516132 : Nat := 0
def PySem.W.Fast.tw5058920628600975569 : Nat := 0
def PySem.W.Fast.tw18048795136800710653 : Nat := 0
def PySem.W.Fast.tw4227998934103052036 : Nat := 0
def PySem.W.Fast.tw9506381629752203323 : Nat := 0
def PySem.W.Fast.tw8851420788998205986 : Nat := 0
def PySem.W.Fast.tw13142491153107515429 : Nat := 0
def PySem.W.Fast.tw17586894944496140261 : Nat := 0
def PySem.W.Fast.tw7762982569027285818 : Nat := 0
def PySem.W.Fast.tw13643735917883219197 : Nat := 0
def PySem.W.Fast.tw1498357081340052254 : Nat := 0
def PySem.W.Fast.tw18299638539181486376 : Nat := 0
def PySem.W.Fast.tw5920587715026507374 : Nat := 0
def PySem.W.Fast.tw12064762714140779984 : Nat := 0
def PySem.W.Fast.tw6143594975560422033 : Nat := 0
def PySem.W.Fast.tw15219276677630929602 : Nat := 0
def PySem.W.Fast.tw14075613337375042517 : Nat := 0
def PySem.W.Fast.tw1441966136774081421 : Nat := 0
def PySem.W.Fast.tw3440473257962454644 : Nat := 0
def PySem.W.Fast.tw3559353694305421979 : Nat := 0
def PySem.W.Fast.tw11933450121449531274 : Nat := 0
def PySem.W.Fast.tw12228478136510613246 : Nat := 0
def PySem.W.Fast.tw2541798823105089159 : Nat := 0
def PySem.W.Fast.tw8615007684113459877 : Nat := 0
def PySem.W.Fast.tw16106025385682982600 : Nat := 0
def PySem.W.Fast.tw4419188173752960561 : Nat := 0
def PySem.W.Fast.tw4645239150260517236 : Nat := 0
def PySem.W.Fast.tw7595880008829724060 : Nat := 0
def PySem.W.Fast.tw3996711688147925957 : Nat := 0
def PySem.W.Fast.tw5446908184003301228 : Nat := 0
def PySem.W.Fast.tw12063116123724569313 : Nat := 0
def PySem.W.Fast.tw12489833578200423696 : Nat := 0
def PySem.W.Fast.tw9938121313856886325 : Nat := 0
def PySem.W.Fast.tw8918088706152522182 : Nat := 0
def PySem.W.Fast.tw10784418236459362151 : Nat := 0
def PySem.W.Fast.tw4475193912872426760 : Nat := 0
def PySem.W.Fast.tw11630851326251593610 : Nat := 0
def PySem.W.Fast.tw13289699461476221989 : Nat := 0
def PySem.W.Fast.tw10047473959307348870 : Nat := 0
def PySem.W.Fast.tw13648564928032875402 : Nat := 0
def PySem.W.Fast.tw893631306941926939 : Nat := 0
def PySem.W.Fast.tw12827292010261761757 : Nat := 0
def PySem.W.Fast.tw11299679668540162312 : Nat := 0
def PySem.W.Fast.tw5652519081639034916 : Nat := 0
def PySem.W.Fast.tw13261251521639816546 : Nat := 0
def PySem.W.Fast.tw11789324329840696448 : Nat := 0
def PySem.W.Fast.tw16088894422699588122 : Nat := 0
def PySem.W.Fast.tw1852296359008285769 : Nat := 0
def PySem.W.Fast.tw1198256983913914178 : Nat := 0
def PySem.W.Fast.tw7830826611436578744 : Nat := 0
def PySem.W.Fast.tw3403721995286767452 : Nat := 0
def PySem.W.Fast.tw16996657595752227181 : Nat := 0
def PySem.W.Fast.tw15760043841793910659 : Nat := 0
def PySem.W.Fast.tw8682705021904790431 : Nat := 0
def PySem.W.Fast.tw7265421781187137175 : Nat := 0
def PySem.W.Fast.tw18099903505768557919 : Nat := 0
def PySem.W.Fast.tw54259693721746446 : Nat := 0
def PySem.W.Fast.tw13764163992247130820 : Nat := 0
def PySem.W.Fast.tw9093639392367452198 : Nat := 0
def PySem.W.Fast.tw7681714691024448273 : Nat := 0
def PySem.W.Fast.tw4123553215929984373 : Nat := 0
def PySem.W.Fast.tw11589460594855151294 : Nat := 0
def PySem.W.Fast.tw7060986764262617764 : Nat := 0
def PySem.W.Fast.tw5981565938121786870 : Nat := 0
def PySem.W.Fast.tw15270599095044310312 : Nat := 0
def PySem.W.Fast.tw1614117615372944962 : Nat := 0
def PySem.W.Fast.tw2798126191793524660 : Nat := 0
def PySem.W.Fast.tw8118107634764333768 : Nat := 0
def PySem.W.Fast.tw7853606969924961687 : Nat := 0
def PySem.W.Fast.tw6650058269302979214 : Nat := 0
def PySem.W.Fast.tw4623474132680878883 : Nat := 0
def PySem.W.Fast.tw5064587863026681525 : Nat := 0
def PySem.W.Fast.tw14721678269542216626 : Nat := 0
def PySem.W.Fast.tw13441247021321452140 : Nat := 0
def PySem.W.Fast.tw11943354380753643353 : Nat := 0
def PySem.W.Fast.tw18293794908177384683 : Nat := 0
def PySem.W.Fast.tw17914034149017032880 : Nat := 0
def PySem.W.Fast.tw2723725159661563310 : Nat := 0
def PySem.W.Fast.tw16108548005985069383 : Nat := 0
def PySem.W.Fast.tw12443230311951127867 : Nat := 0
def PySem.W.Fast.tw13058881101027198584 : Nat := 0
def PySem.W.Fast.tw13020215579013744257 : Nat := 0
def PySem.W.Fast.tw12629699541123965349 : Nat := 0
def PySem.W.Fast.tw7988655002606738235 : Nat := 0
def PySem.W.Fast.tw11319996518727096821 : Nat := 0
def PySem.W.Fast.tw7551840970961061330 : Nat := 0
def PySem.W.Fast.tw776806451617077381 : Nat := 0
def PySem.W.Fast.tw5004747897660859362 : Nat := 0
def PySem.W.Fast.tw13254212566433498266 : Nat := 0
def PySem.W.Fast.tw15705115398260085981 : Nat := 0
def PySem.W.Fast.tw15734292716224062835 : Nat := 0
def PySem.W.Fast.tw18408730898005587530 : Nat := 0
def PySem.W.Fast.tw1894408770924003304 : Nat := 0
def PySem.W.Fast.tw3022305912725099988 : Nat := 0
def PySem.W.Fast.tw5233632234392469866 : Nat := 0
def PySem.W.Fast.tw7736174746548415725 : Nat := 0
def PySem.W.Fast.tw13158202303426697203 : Nat := 0
def PySem.W.Fast.tw4607384925350559388 : Nat := 0
def PySem.W.Fast.tw13668646839316879332 : Nat := 0
def PySem.W.Fast.tw18183949374078102136 : Nat := 0
def PySem.W.Fast.tw4115247913247510129 : Nat := 0
def PySem.W.Fast.tw16530504506713274450 : Nat := 0
def PySem.W.Fast.tw13619871961849215482 : Nat := 0
def PySem.W.Fast.tw6609608416874067896 : Nat := 0
def PySem.W.Fast.tw4898645841551975984 : Nat := 0
def PySem.W.Fast.tw10725579467422429791 : Nat := 0
def PySem.W.Fast.tw14999965248920090312 : Nat := 0
def PySem.W.Fast.tw17382489460609839613 : Nat := 0
def PySem.W.Fast.tw12386079160335273536 : Nat := 0
def PySem.W.Fast.tw11698117181832963892 : Nat := 0
def PySem.W.Fast.tw16415341864665121162 : Nat := 0
def PySem.W.Fast.tw5940822477225027801 : Nat := 0
def PySem.W.Fast.tw8257486937145493667 : Nat := 0
def PySem.W.Fast.tw5566910108844574078 : Nat := 0
def PySem.W.Fast.tw12161511109289325177 : Nat := 0
def PySem.W.Fast.tw3979603580279182183 : Nat := 0
def PySem.W.Fast.tw10963146404481501303 : Nat := 0
def PySem.W.Fast.tw7821889796802346295 : Nat := 0
def PySem.W.Fast.tw14914232293324158109 : Nat := 0
def PySem.W.Fast.tw4826432311714249965 : Nat := 0
def PySem.W.Fast.tw2098365098980006088 : Nat := 0
def PySem.W.Fast.tw7338231048844329 : Nat := 0
def PySem.W.Fast.tw1004551692428486573 : Nat := 0
def PySem.W.Fast.tw18396413713207996165 : Nat := 0
def PySem.W.Fast.tw7135164382119902536 : Nat := 0
def PySem.W.Fast.tw18179285479107800098 : Nat := 0
def PySem.W.Fast.tw9091604957539970948 : Nat := 0
def PySem.W.Fast.tw13861789177924452692 : Nat := 0
def PySem.W.Fast.tw4303660819357009950 : Nat := 0
def PySem.W.Fast.tw9115337742289423269 : Nat := 0
def PySem.W.Fast.tw813137150152298561 : Nat := 0
def PySem.W.Fast.tw12382897687311297251 : Nat := 0
def PySem.W.Fast.tw6069773305741618690 : Nat := 0
def PySem.W.Fast.tw1616064199770703109 : Nat := 0
def PySem.W.Fast.tw9989344935060283837 : Nat := 0
def PySem.W.Fast.tw8288321166359357444 : Nat := 0
def PySem.W.Fast.tw10840221002311471806 : Nat := 0
def PySem.W.Fast.tw910661583229498093 : Nat := 0
def PySem.W.Fast.tw17537354085302865841 : Nat := 0
def PySem.W.Fast.tw4198096577230374377 : Nat := 0
def PySem.W.Fast.tw13925659296355899144 : Nat := 0
def PySem.W.Fast.tw7546581608745769183 : Nat := 0
def PySem.W.Fast.tw7940999793306971323 : Nat := 0
def PySem.W.Fast.tw2144942743265765519 : Nat := 0
def PySem.W.Fast.tw17001664725667751962 : Nat := 0
def PySem.W.Fast.tw7528578867606921590 : Nat := 0
def PySem.W.Fast.tw1786292371001389942 : Nat := 0
def PySem.W.Fast.tw8975980685734719508 : Nat := 0
def PySem.W.Fast.tw16801997388085105603 : Nat := 0
def PySem.W.Fast.tw2210926586825587757 : Nat := 0
def PySem.W.Fast.tw18056168627923853928 : Nat := 0
def PySem.W.Fast.tw8963337237900557011 : Nat := 0
def PySem.W.Fast.tw2920776270818445705 : Nat := 0
def PySem.W.Fast.tw769349813677598638 : Nat := 0
def PySem.W.Fast.tw9525214504329521146 : Nat := 0
def PySem.W.Fast.tw3332418921914153638 : Nat := 0
def PySem.W.Fast.tw13428731203083831889 : Nat := 0
def PySem.W.Fast.tw7730205554932119854 : Nat := 0
def PySem.W.Fast.tw14977849924336569041 : Nat := 0
def PySem.W.Fast.tw11700593894560166368 : Nat := 0
def PySem.W.Fast.tw17930594243782438414 : Nat := 0
def PySem.W.Fast.tw5062985364971913175 : Nat := 0
def PySem.W.Fast.tw8507648146702075090 : Nat := 0
def PySem.W.Fast.tw13240935260396143066 : Nat := 0
def PySem.W.Fast.tw3791421186786271487 : Nat := 0
def PySem.W.Fast.tw10179140740528483456 : Nat := 0
def PySem.W.Fast.tw2001633735603230149 : Nat := 0
def PySem.W.Fast.tw92921492070401763 : Nat := 0
def PySem.W.Fast.tw925545503901040507 : Nat := 0
def PySem.W.Fast.tw6965743881591891441 : Nat := 0
def PySem.W.Fast.tw17537752987103856690 : Nat := 0
def PySem.W.Fast.tw18279064694884867864 : Nat := 0
def PySem.W.Fast.tw13130719968145052022 : Nat := 0
def PySem.W.Fast.tw17263835635387116991 : Nat := 0
def PySem.W.Fast.tw12309063154796558414 : Nat := 0
def PySem.W.Fast.tw18387838965034681608 : Nat := 0
def PySem.W.Fast.tw17687875237700333838 : Nat := 0
def PySem.W.Fast.tw11574623934255298438 : Nat := 0
def PySem.W.Fast.tw11743507098766046435 : Nat := 0
def PySem.W.Fast.tw7456842263998012053 : Nat := 0
def PySem.W.Fast.tw5649967093047931974 : Nat := 0
def PySem.W.Fast.tw8755877766522333320 : Nat := 0
def PySem.W.Fast.tw2911374683394780048 : Nat := 0
def PySem.W.Fast.tw16872416691105980012 : Nat := 0
def PySem.W.Fast.tw5624464028201492545 : Nat := 0
def PySem.W.Fast.tw16928190012444863625 : Nat := 0
def PySem.W.Fast.tw6619085417679455656 : Nat := 0
def PySem.W.Fast.tw11577422381027826802 : Nat := 0
def PySem.W.Fast.tw11650719986460515020 : Nat := 0
def PySem.W.Fast.tw846977479730822758 : Nat := 0
def PySem.W.Fast.tw5435815980527107686 : Nat := 0
def PySem.W.Fast.tw11374635692220809947 : Nat := 0
def PySem.W.Fast.tw517341461912849511 : Nat := 0
def PySem.W.Fast.tw14874181801319212939 : Nat := 0
def PySem.W.Fast.tw5884144184149790783 : Nat := 0
def PySem.W.Fast.tw13991457986161945868 : Nat := 0
def PySem.W.Fast.tw3587742548114178813 : Nat := 0
def PySem.W.Fast.tw18191236118276894838 : Nat := 0
def PySem.W.Fast.tw3933520830707280609 : Nat := 0
def PySem.W.Fast.tw13458815805069374227 : Nat := 0
def PySem.W.Fast.tw2834388104673679210 : Nat := 0
def PySem.W.Fast.tw4829411229518114160 : Nat := 0
def PySem.W.Fast.tw7102529099975497022 : Nat := 0
def PySem.W.Fast.tw3122580577523421250 : Nat := 0
def PySem.W.Fast.tw11954110277253389111 : Nat := 0
def PySem.W.Fast.tw7814976510209688778 : Nat := 0
def PySem.W.Fast.tw16258481431761461971 : Nat := 0
def PySem.W.Fast.tw5483402066409621477 : Nat := 0
def PySem.W.Fast.tw17254902669639537604 : Nat := 0
def PySem.W.Fast.tw12377170921300124686 : Nat := 0
def PySem.W.Fast.tw3218701746280179893 : Nat := 0
def PySem.W.Fast.tw13478476290059828668 : Nat := 0
def PySem.W.Fast.tw3977916972918266652 : Nat := 0
def PySem.W.Fast.tw7731479318435323162 : Nat := 0
def PySem.W.Fast.tw14154494695611743614 : Nat := 0
def PySem.W.Fast.tw16794559293852010107 : Nat := 0
def PySem.W.Fast.tw13455629808469845299 : Nat := 0
def PySem.W.Fast.tw7109480876718615148 : Nat := 0
def PySem.W.Fast.tw12955529780691069266 : Nat := 0
def PySem.W.Fast.tw13036160763955761323 : Nat := 0
def PySem.W.Fast.tw10721041426213801736 : Nat := 0
def PySem.W.Fast.tw6642840915373483367 : Nat := 0
def PySem.W.Fast.tw17067209839813827151 : Nat := 0
def PySem.W.Fast.tw8339334291032897491 : Nat := 0
def PySem.W.Fast.tw10613846201448367099 : Nat := 0
def PySem.W.Fast.tw18197844948293054208 : Nat := 0
def PySem.W.Fast.tw14875258664354604572 : Nat := 0
def PySem.W.Fast.tw6521545171000134211 : Nat := 0
def PySem.W.Fast.tw13779887944891501001 : Nat := 0
def PySem.W.Fast.tw8042772393976468954 : Nat := 0
def PySem.W.Fast.tw17730954538159163091 : Nat := 0
def PySem.W.Fast.tw12767766987712752722 : Nat := 0
def PySem.W.Fast.tw8258993876504863286 : Nat := 0
def PySem.W.Fast.tw8464043577465776489 : Nat := 0
def PySem.W.Fast.tw16759669103955629397 : Nat := 0
def PySem.W.Fast.tw18399580072539880812 : Nat := 0
def PySem.W.Fast.tw14751781661084615811 : Nat := 0
def PySem.W.Fast.tw6448172190815913888 : Nat := 0
def PySem.W.Fast.tw2514872336440736766 : Nat := 0
def PySem.W.Fast.tw4591019193404389844 : Nat := 0
def PySem.W.Fast.tw3481658830950783700 : Nat := 0
def PySem.W.Fast.tw1600882512871455962 : Nat := 0
def PySem.W.Fast.tw2390194179885236114 : Nat := 0
set_option maxRecDepth 100000 in
set_option maxHeartbeats 0 in
open_top PySem.Challenge.hd03 for PySem.Challenge.rw_seatchains_k03_texts_of_lines
end
set_option linter.all false
set_option maxRecDepth 100000
namespace Z
open PySem PySem.Spec L2
open PyProof.Rows hiding St
inductive PV where
 | non | bl (b : Bool) | int (i : Int) | str (x : Str)
 | tup (xs : List PV) | lst (xs : List PV) | scr (ns : List Int)
 | ins (C : Addr) (fs : List (Str × PV)) | dic (kvs : List (Key × PV)) | raw (v : V) | pln (xs : List PV) | exn (a : Addr) (d : Option Addr) (fs : List (Str × PV))
section
variable (K : PySem.W.Frag)
def TupAt (O : Addr → Prop) (H : Hp) (a : Addr) (vs : List V) : Prop :=
 (¬ O a ∧ Rd H a (.tup vs)) ∨
  ∃ (o : Obj) (its : Array Value) (n : Nat), K.lookup a = some o ∧ o.cls = .type "tuple" ∧ o.data = .seq its n ∧ its.size ≤ sizeLine ∧ Vals vs its.toList
theorem TupAt.sq {K : PySem.W.Frag} {O H a vs} (h : TupAt K O H a vs) : SqT K H a vs := by
 rcases h with ⟨_, h⟩ | h
 ·exact .inl h
 ·exact .inr h
mutual
def Rep (O : Addr → Prop) (H : Hp) : PV → V → Prop
 | .non, v => v = .non
 | .bl b, v => v = .bl b
 | .int i, v => v = .int i
 | .str x, v => v = .str x
 | .raw u, v => v = u
 | .scr ns, v => ∃ a o, v = .ref a ∧ ¬ O a ∧ H a = some (.frz o (.lst (ns.map V.int)))
 | .tup xs, v => ∃ a vs, v = .ref a ∧ TupAt K O H a vs ∧ Reps O H xs vs
 | .lst xs, v => ∃ a vs, v = .ref a ∧ ¬ O a ∧ H a = some (.lst vs) ∧ Reps O H xs vs
 | .ins C fs, v => ∃ a dx ws, v = .ref a ∧ ¬ O a ∧ H a = some (.ins C dx ws) ∧ RepF O H fs ws
 | .dic kvs, v => ∃ a ws, v = .ref a ∧ ¬ O a ∧ H a = some (.dK ws) ∧ RepD O H kvs ws
 | .pln xs, v => ∃ a vs o, v = .ref a ∧ ¬ O a ∧ H a = some (.frz o (.tup vs)) ∧ o.dict = none ∧ Reps O H xs vs
 | .exn a d fs, v => v = .ref a ∧ ∃ ws, (∀ x, d = some x → ¬ O x ∧ H x = some (.xd ws)) ∧ RepF O H fs ws
def Reps (O : Addr → Prop) (H : Hp) : List PV → List V → Prop
 | [], vs => vs = []
 | x :: xs, vs => ∃ v us, vs = v :: us ∧ Rep O H x v ∧ Reps O H xs us
def RepF (O : Addr → Prop) (H : Hp) : List (Str × PV) → List (Str × V) → Prop
 | [], vs => vs = []
 | (n, x) :: xs, vs => ∃ v us, vs = (n, v) :: us ∧ Rep O H x v ∧ RepF O H xs us
def RepD (O : Addr → Prop) (H : Hp) : List (Key × PV) → List (Key × V) → Prop
 | [], vs => vs = []
 | (n, x) :: xs, vs => ∃ v us, vs = (n, v) :: us ∧ Rep O H x v ∧ RepD O H xs us
end
end
def Car (O O' : Addr → Prop) (H H' : Hp) : Prop := ∀ a o, ¬ O a → H a = some o → (∀ ps, o ≠ .tbl ps) → H' a = some o ∧ ¬ O' a
section
variable {K : PySem.W.Frag} {O O' : Addr → Prop} {H H' : Hp}
theorem TupAt.car {a : Addr} {vs : List V} (c : Car O O' H H') (h : TupAt K O H a vs) : TupAt K O' H' a vs := by
 rcases h with ⟨n, h | ⟨o, h⟩⟩ | h
 ·exact .inl ⟨(c _ _ n h nofun).2, .inl (c _ _ n h nofun).1⟩
 ·exact .inl ⟨(c _ _ n h nofun).2, .inr ⟨o, (c _ _ n h nofun).1⟩⟩
 ·exact .inr h
mutual
theorem Rep.car (c : Car O O' H H') : ∀ (x : PV) (v : V), Rep K O H x v → Rep K O' H' x v
 | .non, _, h => by unfold Rep at h ⊢; exact h
 | .bl _, _, h => by unfold Rep at h ⊢; exact h
 | .int _, _, h => by unfold Rep at h ⊢; exact h
 | .str _, _, h => by unfold Rep at h ⊢; exact h
 | .raw _, _, h => by unfold Rep at h ⊢; exact h
 | .scr _, _, h => by
  unfold Rep at h ⊢
  obtain ⟨a, o, e, n, h⟩ := h
  exact ⟨a, o, e, (c _ _ n h nofun).2, (c _ _ n h nofun).1⟩
 | .dic kvs, _, h => by
  unfold Rep at h ⊢
  obtain ⟨a, ws, e, n, h, r⟩ := h
  exact ⟨a, ws, e, (c _ _ n h nofun).2, (c _ _ n h nofun).1, RepD.car c kvs ws r⟩
 | .pln xs, _, h => by
  unfold Rep at h ⊢
  obtain ⟨a, vs, o, e, n, h, d, r⟩ := h
  exact ⟨a, vs, o, e, (c _ _ n h nofun).2, (c _ _ n h nofun).1, d, Reps.car c xs vs r⟩
 | .exn _ d fs, _, h => by
  unfold Rep at h ⊢
  obtain ⟨e, ws, n, r⟩ := h
  exact ⟨e, ws, fun x hx => ⟨(c _ _ (n x hx).1 (n x hx).2 nofun).2, (c _ _ (n x hx).1 (n x hx).2 nofun).1⟩, RepF.car c fs ws r⟩
 | .tup xs, _, h => by
  unfold Rep at h ⊢
  obtain ⟨a, vs, e, t, r⟩ := h
  exact ⟨a, vs, e, t.car c, Reps.car c xs vs r⟩
 | .lst xs, _, h => by
  unfold Rep at h ⊢
  obtain ⟨a, vs, e, n, t, r⟩ := h
  exact ⟨a, vs, e, (c _ _ n t nofun).2, (c _ _ n t nofun).1, Reps.car c xs vs r⟩
 | .ins C fs, _, h => by
  unfold Rep at h ⊢
  obtain ⟨a, dx, ws, e, n, t, r⟩ := h
  exact ⟨a, dx, ws, e, (c _ _ n t nofun).2, (c _ _ n t nofun).1, RepF.car c fs ws r⟩
theorem Reps.car (c : Car O O' H H') : ∀ (xs : List PV) (vs : List V), Reps K O H xs vs → Reps K O' H' xs vs
 | [], _, h => by unfold Reps at h ⊢; exact h
 | x :: xs, _, h => by
  unfold Reps at h ⊢
  obtain ⟨v, us, e, r, t⟩ := h
  exact ⟨v, us, e, Rep.car c x v r, Reps.car c xs us t⟩
theorem RepF.car (c : Car O O' H H') : ∀ (xs : List (Str × PV)) (vs : List (Str × V)), RepF K O H xs vs → RepF K O' H' xs vs
 | [], _, h => by unfold RepF at h ⊢; exact h
 | (n, x) :: xs, _, h => by
  unfold RepF at h ⊢
  obtain ⟨v, us, e, r, t⟩ := h
  exact ⟨v, us, e, Rep.car c x v r, RepF.car c xs us t⟩
theorem RepD.car (c : Car O O' H H') : ∀ (xs : List (Key × PV)) (vs : List (Key × V)), RepD K O H xs vs → RepD K O' H' xs vs
 | [], _, h => by unfold RepD at h ⊢; exact h
 | (n, x) :: xs, _, h => by
  unfold RepD at h ⊢
  obtain ⟨v, us, e, r, t⟩ := h
  exact ⟨v, us, e, Rep.car c x v r, RepD.car c xs us t⟩
end
theorem Car.mono {O O' : Addr → Prop} {H : Hp} (h : ∀ a, O' a → O a) : Car O O' H H := fun a o n e _ => ⟨e, fun z => n (h a z)⟩
theorem Rep.mono {x v} (h : ∀ a, O' a → O a) (r : Rep K O H x v) : Rep K O' H x v := r.car (Car.mono h)
theorem Reps.mono {x v} (h : ∀ a, O' a → O a) (r : Reps K O H x v) : Reps K O' H x v := r.car (Car.mono h)
theorem RepF.mono {x v} (h : ∀ a, O' a → O a) (r : RepF K O H x v) : RepF K O' H x v := r.car (Car.mono h)
theorem RepD.mono {x v} (h : ∀ a, O' a → O a) (r : RepD K O H x v) : RepD K O' H x v := r.car (Car.mono h)
def Nw (H : Hp) (b : Addr) : Prop := ∀ o, H b = some o → ∃ ps, o = .tbl ps
theorem Nw.of {b : Addr} (h : H b = none) : Nw H b := fun o e => by rw [h] at e; cases e
theorem Nw.no {b : Addr} {o : HO} (n : Nw H b) (h : H b = some o) (t : ∀ ps, o ≠ .tbl ps) : False := by
 obtain ⟨ps, e⟩ := n o h
 exact t ps e
theorem nw_ne {a b : Addr} {u : HO} (z : b ≠ a) (n : Nw (upd H a u) b) : Nw H b := fun o h => n o (by rw [upd_ne z]; exact h)
theorem nw_same {a : Addr} {u : HO} (t : ∀ ps, u ≠ .tbl ps) : ¬ Nw (upd H a u) a := fun n => n.no upd_same t
theorem live_upd {a b : Addr} {u : HO} (t : ∀ ps, u ≠ .tbl ps) (n : ¬ Nw H b) : ¬ Nw (upd H a u) b := by
 by_cases z : b = a
 ·rw [z]; exact nw_same t
 ·exact fun q => n (nw_ne z q)
def Trk (O : Addr → Prop) (H : Hp) : Prop := ∀ a, O a → ¬ Nw H a
theorem Trk.same (t : Trk O H) (s : Same H H') : Trk O H' := fun a h e => t a h fun o q => e o (s a o q)
theorem Car.same (s : Same H H') : Car O O H H' := fun a o n e _ => ⟨s a o e, n⟩
theorem Same.new {p : Addr} {o : HO} (hp : H p = none) : Same H (upd H p o) := fun b u e => by rw [upd_ne (ne_of_none e hp)]; exact e
theorem Trk.fresh {p : Addr} (t : Trk O H) (hp : H p = none) : ¬ O p := fun h => t p h (Nw.of hp)
-- lists
theorem Reps.nil : Reps K O H [] [] := by unfold Reps; rfl
theorem Reps.cons {x xs v vs} (h : Rep K O H x v) (t : Reps K O H xs vs) : Reps K O H (x :: xs) (v :: vs) := by unfold Reps; exact ⟨v, vs, rfl, h, t⟩
theorem Reps.inv {x : PV} {xs : List PV} {vs : List V} (h : Reps K O H (x :: xs) vs) : ∃ v us, vs = v :: us ∧ Rep K O H x v ∧ Reps K O H xs us := by unfold Reps at h; exact h
theorem Reps.inv0 {vs : List V} (h : Reps K O H [] vs) : vs = [] := by unfold Reps at h; exact h
theorem Reps.len : ∀ {xs : List PV} {vs : List V}, Reps K O H xs vs → vs.length = xs.length
 | [], _, h => by rw [h.inv0]; rfl
 | x :: xs, _, h => by
  obtain ⟨v, us, rfl, _, t⟩ := h.inv
  rw [List.length_cons, List.length_cons, t.len]
theorem Reps.get : ∀ {xs : List PV} {vs : List V} {i : Nat} {x : PV}, Reps K O H xs vs → xs[i]? = some x → ∃ v, vs[i]? = some v ∧ Rep K O H x v
 | [], _, _, _, _, e => by simp at e
 | x :: xs, _, 0, _, h, e => by
  obtain ⟨v, us, rfl, r, t⟩ := h.inv
  simp at e; subst e; exact ⟨v, rfl, r⟩
 | x :: xs, _, i + 1, _, h, e => by
  obtain ⟨v, us, rfl, r, t⟩ := h.inv
  obtain ⟨u, h1, h2⟩ := t.get (i := i) (by simpa using e)
  exact ⟨u, by simpa using h1, h2⟩
theorem Reps.app : ∀ {xs ys : List PV} {vs us : List V}, Reps K O H xs vs → Reps K O H ys us → Reps K O H (xs ++ ys) (vs ++ us)
 | [], _, _, _, h, t => by rw [h.inv0]; exact t
 | x :: xs, _, _, _, h, t => by
  obtain ⟨v, us, rfl, r, q⟩ := h.inv
  exact .cons r (q.app t)
theorem Reps.take : ∀ {xs : List PV} {vs : List V} (n : Nat), Reps K O H xs vs → Reps K O H (xs.take n) (vs.take n)
 | [], _, n, h => by rw [h.inv0]; simp; exact .nil
 | x :: xs, _, 0, h => by simp; exact .nil
 | x :: xs, _, n + 1, h => by
  obtain ⟨v, us, rfl, r, q⟩ := h.inv
  exact .cons r (q.take n)
theorem Reps.drop : ∀ {xs : List PV} {vs : List V} (n : Nat), Reps K O H xs vs → Reps K O H (xs.drop n) (vs.drop n)
 | [], _, n, h => by rw [h.inv0]; simp; exact .nil
 | x :: xs, _, 0, h => by simpa using h
 | x :: xs, _, n + 1, h => by
  obtain ⟨v, us, rfl, r, q⟩ := h.inv
  exact q.drop n
theorem Reps.set : ∀ {xs : List PV} {vs : List V} {x v} (i : Nat), Reps K O H xs vs → Rep K O H x v → Reps K O H (xs.set i x) (vs.set i v)
 | [], _, _, _, n, h, _ => by rw [h.inv0]; exact .nil
 | y :: xs, _, _, _, 0, h, r => by
  obtain ⟨v, us, rfl, _, q⟩ := h.inv
  exact .cons r q
 | y :: xs, _, _, _, n + 1, h, r => by
  obtain ⟨v, us, rfl, r0, q⟩ := h.inv
  exact .cons r0 (q.set n r)
theorem RepF.look : ∀ {fs : List (Str × PV)} {ws : List (Str × V)}, RepF K O H fs ws → ∀ f : Str, (∀ x, fs.lookup f = some x → ∃ v, ws.lookup f = some v ∧ Rep K O H x v) ∧ (fs.lookup f = none → ws.lookup f = none)
 | [], _, h, f => by
  unfold RepF at h; subst h
  refine ⟨fun x e => ?_, fun _ => rfl⟩
  simp at e
 | (n, x) :: fs, _, h, f => by
  unfold RepF at h
  obtain ⟨v, us, rfl, r, t⟩ := h
  obtain ⟨h1, h2⟩ := t.look f
  by_cases e : f = n
  ·subst e
   simp only [List.lookup_cons_self]
   exact ⟨fun y q => by cases q; exact ⟨v, rfl, r⟩, fun q => nomatch q⟩
  ·have e' : (f == n) = false := by simpa using e
   simp only [List.lookup_cons, e']
   exact ⟨h1, h2⟩
theorem RepF.len : ∀ {fs : List (Str × PV)} {ws : List (Str × V)}, RepF K O H fs ws → ws.length = fs.length
 | [], _, h => by unfold RepF at h; rw [h]; rfl
 | (n, x) :: fs, _, h => by
  unfold RepF at h
  obtain ⟨v, us, rfl, r, t⟩ := h
  rw [List.length_cons, List.length_cons, t.len]
theorem RepD.nil : RepD K O H [] [] := by unfold RepD; rfl
theorem RepD.len : ∀ {fs : List (Key × PV)} {ws : List (Key × V)}, RepD K O H fs ws → ws.length = fs.length
 | [], _, h => by unfold RepD at h; rw [h]; rfl
 | (n, x) :: fs, _, h => by
  unfold RepD at h
  obtain ⟨v, us, rfl, r, t⟩ := h
  rw [List.length_cons, List.length_cons, t.len]
theorem RepD.keys : ∀ {fs : List (Key × PV)} {ws : List (Key × V)}, RepD K O H fs ws → ws.map (·.1) = fs.map (·.1)
 | [], _, h => by unfold RepD at h; rw [h]; rfl
 | (n, x) :: fs, _, h => by
  unfold RepD at h
  obtain ⟨v, us, rfl, r, t⟩ := h
  rw [List.map_cons, List.map_cons, t.keys]
end
inductive Ow where
 | l (xs : List PV) | o (C : Addr) (fs : List (Str × PV)) | d (kvs : List (Key × PV))
inductive Sl where
 | no | va (x : PV) | ow (o : Ow)
abbrev EP' := List Sl
def OwAt (K : PySem.W.Frag) (O : Addr → Prop) (H : Hp) (a : Addr) : Ow → Prop
 | .l xs => ∃ vs, H a = some (.lst vs) ∧ Reps K O H xs vs
 | .o C fs => ∃ dx ws, H a = some (.ins C dx ws) ∧ RepF K O H fs ws
 | .d kvs => ∃ ws, H a = some (.dK ws) ∧ RepD K O H kvs ws
def IsOwn (σ : St) (η : EP') (a : Addr) : Prop := ∃ (i : Nat) (o : Ow), σ[i]? = some (some (V.ref a)) ∧ η[i]? = some (Sl.ow o)
def Oof (F : Addr → Prop) (σ : St) (η : EP') : Addr → Prop := fun a => F a ∨ IsOwn σ η a
structure Rs (K : PySem.W.Frag) (T : List (Addr × Str)) (F : Addr → Prop) (σ : St) (η : EP') (H : Hp) : Prop where
 len : σ.length = η.length
 va : ∀ (i : Nat) (x : PV), η[i]? = some (Sl.va x) → ∃ v, σ[i]? = some (some v) ∧ Rep K (Oof F σ η) H x v
 ow : ∀ (i : Nat) (o : Ow), η[i]? = some (Sl.ow o) → ∃ a, σ[i]? = some (some (V.ref a)) ∧ OwAt K (Oof F σ η) H a o ∧ ¬ F a
 nd : ∀ (i j : Nat) (o o' : Ow) (a : Addr), η[i]? = some (Sl.ow o) → η[j]? = some (Sl.ow o') → σ[i]? = some (some (V.ref a)) → σ[j]? = some (some (V.ref a)) → i = j
 tr : Trk F H
 tb : LamX.Tabs T H
structure Ext (σ : St) (η : EP') (σ' : St) (η' : EP') (H H' : Hp) : Prop where
 keep : ∀ b o, H b = some o → ¬ IsOwn σ η b → (∀ ps, o ≠ .tbl ps) → H' b = some o
 live : ∀ b, ¬ Nw H b → ¬ Nw H' b
 new : ∀ b, IsOwn σ' η' b → IsOwn σ η b ∨ Nw H b
 fst : ∀ o' : Ow, η'[0]? = some (Sl.ow o') → ∃ o : Ow, η[0]? = some (Sl.ow o) ∧ σ'[0]? = σ[0]?
section
variable {K : PySem.W.Frag} {T : List (Addr × Str)} {F : Addr → Prop} {σ σ1 σ2 : St} {η η1 η2 : EP'} {H H1 H2 : Hp}
theorem Ext.refl : Ext σ η σ η H H := ⟨fun _ _ e _ _ => e, fun _ e => e, fun _ e => .inl e, fun o e => ⟨o, e, rfl⟩⟩
theorem Ext.trans (a : Ext σ η σ1 η1 H H1) (b : Ext σ1 η1 σ2 η2 H1 H2) : Ext σ η σ2 η2 H H2 := by
 refine ⟨fun c o e n t => b.keep c o (a.keep c o e n t) ?_ t, fun c e => b.live c (a.live c e), fun c z => ?_, fun o e => ?_⟩
 ·intro z
  rcases a.new c z with q | q
  ·exact n q
  ·exact q.no e t
 ·rcases b.new c z with q | q
  ·exact a.new c q
  ·by_cases e : Nw H c
   ·exact .inr e
   ·exact absurd q (a.live c e)
 ·obtain ⟨o1, e1, s1⟩ := b.fst o e
  obtain ⟨o2, e2, s2⟩ := a.fst o1 e1
  exact ⟨o2, e2, s1.trans s2⟩
theorem Ext.same (s : Same H H1) : Ext σ η σ η H H1 := by
 refine ⟨fun b o e _ _ => s b o e, fun b e q => e fun o r => q o (s b o r), fun _ z => .inl z, fun o e => ⟨o, e, rfl⟩⟩
theorem Ext.nw {b : Addr} (e : Ext σ η σ1 η1 H H1) (n : Nw H1 b) : Nw H b := Classical.byContradiction fun z => e.live b z n
theorem Rs.trO (R : Rs K T F σ η H) : Trk (Oof F σ η) H := by
 rintro a (h | ⟨i, o, h1, h2⟩) e
 ·exact R.tr a h e
 ·obtain ⟨b, q1, q2, _⟩ := R.ow i o h2
  rw [h1] at q1; cases q1
  cases o with
  | l xs => obtain ⟨vs, q, _⟩ := q2; exact e.no q nofun
  | o C fs => obtain ⟨dx, ws, q, _⟩ := q2; exact e.no q nofun
  | d kvs => obtain ⟨ws, q, _⟩ := q2; exact e.no q nofun
theorem Ext.car (e : Ext σ η σ1 η1 H H1) : Car (Oof F σ η) (Oof F σ1 η1) H H1 := fun a o n h t =>
 ⟨e.keep a o h (fun z => n (.inr z)) t, fun z => z.elim (fun z => n (.inl z)) fun z => (e.new a z).elim (fun z => n (.inr z)) fun q => q.no h t⟩
theorem OwAt.car {O O' : Addr → Prop} {a : Addr} {o : Ow} (c : Car O O' H H1) (h : OwAt K O H a o) (e : H1 a = H a) : OwAt K O' H1 a o := by
 cases o with
 | l xs =>
  obtain ⟨vs, q, r⟩ := h
  exact ⟨vs, e.trans q, r.car c⟩
 | o C fs =>
  obtain ⟨dx, ws, q, r⟩ := h
  exact ⟨dx, ws, e.trans q, r.car c⟩
 | d kvs =>
  obtain ⟨ws, q, r⟩ := h
  exact ⟨ws, e.trans q, r.car c⟩
theorem Rs.same (R : Rs K T F σ η H) (s : Same H H1) : Rs K T F σ η H1 := by
 have c : Car (Oof F σ η) (Oof F σ η) H H1 := Car.same s
 refine ⟨R.len, fun i x e => ?_, fun i o e => ?_, R.nd, R.tr.same s, R.tb.ext s⟩
 ·obtain ⟨v, h1, h2⟩ := R.va i x e
  exact ⟨v, h1, h2.car c⟩
 ·obtain ⟨a, h1, h2, h3⟩ := R.ow i o e
  refine ⟨a, h1, h2.car c ?_, h3⟩
  cases q : H a with
  | none => exact absurd (Nw.of q) (R.trO a (.inr ⟨i, o, h1, e⟩))
  | some u => exact s a u q
end
abbrev TEp := EP' → (PV → EP' → Prop) → Prop
abbrev TTp := EP' → (Bool → EP' → Prop) → Prop
abbrev TAp := EP' → (List PV → EP' → Prop) → Prop
structure EndsP where
 nx : EP' → Prop
 rt : PV → EP' → Prop
 bk : EP' → Prop := fun _ => False
 ct : EP' → Prop := fun _ => False
abbrev TSp := EndsP → EP' → Prop
def up (K : PySem.W.Frag) (T : List (Addr × Str)) (tp : TEp) : TE := fun σ H Q => ∃ F η P, Rs K T F σ η H ∧ tp η P ∧ ∀ x η' v H', P x η' → Ext σ η σ η' H H' → Rs K T F σ η' H' → Rep K (Oof F σ η') H' x v → Q v H'
def upB (K : PySem.W.Frag) (T : List (Addr × Str)) (tp : TTp) : TT := fun σ H Q => ∃ F η P, Rs K T F σ η H ∧ tp η P ∧ ∀ x η' H', P x η' → Ext σ η σ η' H H' → Rs K T F σ η' H' → Q x H'
def upA (K : PySem.W.Frag) (T : List (Addr × Str)) (tp : TAp) : TA := fun σ H Q => ∃ F η P, Rs K T F σ η H ∧ tp η P ∧ ∀ xs η' vs H', P xs η' → Ext σ η σ η' H H' → Rs K T F σ η' H' → Reps K (Oof F σ η') H' xs vs → Q vs H'
def upS (K : PySem.W.Frag) (T : List (Addr × Str)) (ts : TSp) : TS := fun D σ H => ∃ F η D', Rs K T F σ η H ∧ ts D' η ∧
 (∀ η' σ' H', D'.nx η' → Ext σ η σ' η' H H' → Rs K T F σ' η' H' → D.nx σ' H') ∧
 (∀ η' σ' H', D'.bk η' → Ext σ η σ' η' H H' → Rs K T F σ' η' H' → D.bk σ' H') ∧
 (∀ η' σ' H', D'.ct η' → Ext σ η σ' η' H H' → Rs K T F σ' η' H' → D.ct σ' H') ∧
 (∀ x η' σ' v H', D'.rt x η' → Ext σ η σ' η' H H' → Rs K T F σ' η' H' → Rep K (Oof F σ' η') H' x v → D.rt v H')
section
variable {X : Cx}
theorem PE.weak {e : Expr} {t t' : TE} (h : PE X e t) (w : ∀ σ H Q, t' σ H Q → t σ H Q) : PE X e t' := ⟨fun pins s σ H Q I q => h.run pins s σ H Q I (w _ _ _ q)⟩
theorem PT.weak {e : Expr} {t t' : TT} (h : PT X e t) (w : ∀ σ H Q, t' σ H Q → t σ H Q) : PT X e t' := ⟨fun pins s σ H Q I q => h.run pins s σ H Q I (w _ _ _ q)⟩
theorem PW.weak {e : Expr} {t t' : TT} (h : PW X e t) (w : ∀ σ H Q, t' σ H Q → t σ H Q) : PW X e t' := ⟨fun wh pins s σ H Q I q => h.run wh pins s σ H Q I (w _ _ _ q)⟩
theorem PA.weak {e : List Expr} {t t' : TA} (h : PA X e t) (w : ∀ σ H Q, t' σ H Q → t σ H Q) : PA X e t' := ⟨fun pos pins s σ H Q I q => h.run pos pins s σ H Q I (w _ _ _ q)⟩
theorem PS.weak {e : Stmt} {t t' : TS} (h : PS X e t) (w : ∀ D σ H, t' D σ H → t D σ H) : PS X e t' := ⟨fun pins s σ H D I q => h.run pins s σ H D I (w _ _ _ q)⟩
theorem PSs.weak {e : List Stmt} {t t' : TS} (h : PSs X e t) (w : ∀ D σ H, t' D σ H → t D σ H) : PSs X e t' := ⟨fun pins s σ H D I q => h.run pins s σ H D I (w _ _ _ q)⟩
end
section
variable {K : PySem.W.Frag} {T : List (Addr × Str)} {F : Addr → Prop} {σ : St} {η : EP'} {H H' : Hp} {i : Nat} {x : PV} {v : V} {a : Addr} {o : Ow}
theorem ne_set {α : Type} {l : List α} {i j : Nat} {x : α} (h : j ≠ i) : (l.set i x)[j]? = l[j]? := List.getElem?_set_ne (Ne.symm h)
theorem at_set {α : Type} {l : List α} {i : Nat} {x y : α} (h : (l.set i x)[i]? = some y) : y = x := by
 by_cases hi : i < l.length
 ·rw [List.getElem?_set_self hi] at h; exact (Option.some.inj h).symm
 ·rw [List.getElem?_eq_none (by simpa using hi)] at h; cases h
theorem own_set {b : Addr} {w : V} (h : IsOwn (σ.set i (some w)) (η.set i (.va x)) b) : IsOwn σ η b := by
 obtain ⟨j, o, h1, h2⟩ := h
 by_cases e : j = i
 ·subst e; cases at_set h2
 ·rw [ne_set e] at h1 h2; exact ⟨j, o, h1, h2⟩
theorem own_set1 {b : Addr} (h : IsOwn σ (η.set i (.va x)) b) : IsOwn σ η b := by
 obtain ⟨j, o, h1, h2⟩ := h
 by_cases e : j = i
 ·subst e; cases at_set h2
 ·rw [ne_set e] at h2; exact ⟨j, o, h1, h2⟩
theorem Oof_mono {σ' : St} {η' : EP'} (h : ∀ b, IsOwn σ' η' b → IsOwn σ η b) : ∀ b, Oof F σ' η' b → Oof F σ η b := fun b z => z.elim .inl fun z => .inr (h b z)
theorem OwAt.mono {O O' : Addr → Prop} (h : ∀ b, O' b → O b) (r : OwAt K O H a o) : OwAt K O' H a o := r.car (Car.mono h) rfl
theorem Rs.setv (R : Rs K T F σ η H) (r : Rep K (Oof F σ η) H x v) : Rs K T F (σ.set i (some v)) (η.set i (.va x)) H := by
 have m : ∀ b, Oof F (σ.set i (some v)) (η.set i (.va x)) b → Oof F σ η b := Oof_mono fun b z => own_set z
 refine ⟨by simpa using R.len, fun j y e => ?_, fun j o e => ?_, fun j k o o' a e1 e2 e3 e4 => ?_, R.tr, R.tb⟩
 ·by_cases h : j = i
  ·subst h
   have := at_set e; cases this
   have hj : j < η.length := by
    have := (List.getElem?_eq_some_iff.mp e).1; simpa using this
   exact ⟨v, by rw [List.getElem?_set_self (by rw [R.len]; exact hj)], r.mono m⟩
  ·rw [ne_set h] at e ⊢
   obtain ⟨w, h1, h2⟩ := R.va j y e
   exact ⟨w, h1, h2.mono m⟩
 ·by_cases h : j = i
  ·subst h; cases at_set e
  ·rw [ne_set h] at e ⊢
   obtain ⟨a, h1, h2, h3⟩ := R.ow j o e
   exact ⟨a, h1, h2.mono m, h3⟩
 ·have hj : j ≠ i := fun h => by subst h; cases at_set e1
  have hk : k ≠ i := fun h => by subst h; cases at_set e2
  rw [ne_set hj] at e1 e3
  rw [ne_set hk] at e2 e4
  exact R.nd j k o o' a e1 e2 e3 e4
theorem Ext.setv {w : V} : Ext σ η (σ.set i (some w)) (η.set i (.va x)) H H := ⟨fun _ _ e _ _ => e, fun _ e => e, fun _ z => .inl (own_set z), fun o e => by
 by_cases h : (0 : Nat) = i
 ·subst h; cases at_set e
 ·rw [ne_set h] at e ⊢
  exact ⟨o, e, rfl⟩⟩
def wkV : PV → PV
 | .pln xs => .tup xs
 | x => x
theorem Rep.wkV {O : Addr → Prop} {x : PV} {v : V} (h : Rep K O H x v) : Rep K O H (wkV x) v := by
 cases x <;> try exact h
 unfold Z.wkV
 unfold Rep at h ⊢
 obtain ⟨a, vs, o, e, n, h, d, r⟩ := h
 exact ⟨a, vs, e, .inl ⟨n, .inr ⟨o, h⟩⟩, r⟩
def frz : Ow → PV
 | .l xs => .lst xs
 | .o C fs => .ins C fs
 | .d kvs => .dic kvs
theorem OwAt.frz {O : Addr → Prop} (h : OwAt K O H a o) (n : ¬ O a) : Rep K O H (frz o) (.ref a) := by
 cases o with
 | l xs =>
  obtain ⟨vs, h1, h2⟩ := h
  unfold Z.frz Rep
  exact ⟨a, vs, rfl, n, h1, h2⟩
 | o C fs =>
  obtain ⟨dx, ws, h1, h2⟩ := h
  unfold Z.frz Rep
  exact ⟨a, dx, ws, rfl, n, h1, h2⟩
 | d kvs =>
  obtain ⟨ws, h1, h2⟩ := h
  unfold Z.frz Rep
  exact ⟨a, ws, rfl, n, h1, h2⟩
theorem Rs.freeze (R : Rs K T F σ η H) (e : η[i]? = some (.ow o)) : ∃ a, σ[i]? = some (some (V.ref a)) ∧ Rs K T F σ (η.set i (.va (frz o))) H ∧ Rep K (Oof F σ (η.set i (.va (frz o)))) H (frz o) (.ref a) := by
 obtain ⟨a, s, r, nf⟩ := R.ow i o e
 have m : ∀ b, Oof F σ (η.set i (.va (frz o))) b → Oof F σ η b := Oof_mono fun b z => own_set1 z
 have na : ¬ Oof F σ (η.set i (.va (frz o))) a := by
  rintro (z | ⟨j, o', h1, h2⟩)
  ·exact nf z
  ·have hj : j ≠ i := fun h => by subst h; cases at_set h2
   rw [ne_set hj] at h2
   exact hj (R.nd j i o' o a h2 e h1 s)
 have rep := (r.mono m).frz na
 refine ⟨a, s, ⟨by simpa using R.len, fun j y q => ?_, fun j o' q => ?_, fun j k p p' b e1 e2 e3 e4 => ?_, R.tr, R.tb⟩, rep⟩
 ·by_cases h : j = i
  ·subst h
   cases at_set q
   exact ⟨_, s, rep⟩
  ·rw [ne_set h] at q
   obtain ⟨w, h1, h2⟩ := R.va j y q
   exact ⟨w, h1, h2.mono m⟩
 ·by_cases h : j = i
  ·subst h; cases at_set q
  ·rw [ne_set h] at q
   obtain ⟨b, h1, h2, h3⟩ := R.ow j o' q
   exact ⟨b, h1, h2.mono m, h3⟩
 ·have hj : j ≠ i := fun h => by subst h; cases at_set e1
  have hk : k ≠ i := fun h => by subst h; cases at_set e2
  rw [ne_set hj] at e1
  rw [ne_set hk] at e2
  exact R.nd j k p p' b e1 e2 e3 e4
theorem Ext.freeze : Ext σ η σ (η.set i (.va x)) H H := ⟨fun _ _ e _ _ => e, fun _ e => e, fun _ z => .inl (own_set1 z), fun o e => by
 by_cases h : (0 : Nat) = i
 ·subst h; cases at_set e
 ·rw [ne_set h] at e
  exact ⟨o, e, rfl⟩⟩
end
section
variable {X : Cx} {T : List (Addr × Str)}
def Out (K : PySem.W.Frag) (O : Addr → Prop) (H : Hp) (P : PV → Prop) (Q : VK) : Prop := ∀ z v H', P z → Same H H' → Rep K O H' z v → Q v H'
abbrev R2p := PV → PV → (PV → Prop) → Prop
def r2 (K : PySem.W.Frag) (r : R2p) : R2 := fun x y H Q => ∃ O px py P, Trk O H ∧ Rep K O H px x ∧ Rep K O H py y ∧ r px py P ∧ Out K O H P Q
abbrev R1p := List PV → (PV → Prop) → Prop
def r1 (K : PySem.W.Frag) (r : R1p) : List V → Hp → VK → Prop := fun vs H Q => ∃ O ps P, Trk O H ∧ Reps K O H ps vs ∧ r ps P ∧ Out K O H P Q
def tOpP (r : R2p) (ta tb : TEp) : TEp := fun η P => ta η fun x η1 => tb η1 fun y η2 => r x y fun z => P z η2
def tCBP (r : R1p) (t : TAp) : TEp := fun η P => t η fun xs η1 => r xs fun z => P z η1
def tConP (x : PV) : TEp := fun η P => P x η
def tVarP (i : Nat) : TEp := fun η P => match η[i]? with
 | some (.va x) => P x η
 | some (.ow o) => P (frz o) (η.set i (.va (frz o)))
 | _ => False
def tNilP : TAp := fun η P => P [] η
def tConsP (ta : TEp) (t : TAp) : TAp := fun η P => ta η fun x η1 => t η1 fun xs η2 => P (x :: xs) η2
variable {e a b c : Expr} {es : List Expr} {ta tb tc : TEp} {t : TAp} {pos : Pos}
theorem z_var {i : Nat} {x : Str} (h : PE X (.Name x pos) (tVar i)) : PE X (.Name x pos) (up X.K T (tVarP i)) := by
 refine PE.weak h fun σ H Q q => ?_
 obtain ⟨F, η, P, R, h, k⟩ := q
 unfold tVarP at h
 split at h
 ·rename_i y e
  obtain ⟨v, h1, h2⟩ := R.va i y e
  exact ⟨v, h1, k _ _ _ _ h .refl R h2⟩
 ·rename_i o e
  obtain ⟨a, h1, h2, h3⟩ := R.freeze e
  exact ⟨_, h1, k _ _ _ _ h .freeze h2 h3⟩
 ·cases h
theorem zv (i : Nat) {x : Str} {pos : Pos} (hN : X.N[i]? = some x := by rfl) (hv : Vis X.env.scope x := by first | exact Or.inl rfl | exact Or.inr (Or.inl rfl) | exact Or.inr (Or.inr rfl)) (hd : (x == ("__debug__" : Str)) = false := by decide)
  (hcd : (x == ("__classdict__" : Str)) = false := by decide) : PE X (.Name x pos) (up X.K T (tVarP i)) := z_var (pe_var hN hv hd hcd)
theorem z_con {v : V} {x : PV} (h : PE X e (tC v)) (r : ∀ O H, Rep X.K O H x v) : PE X e (up X.K T (tConP x)) := by
 refine PE.weak h fun σ H Q q => ?_
 obtain ⟨F, η, P, R, h, k⟩ := q
 exact k _ _ _ _ h .refl R (r _ _)
theorem z_int {i j} : PE X (.Constant (.int i) j pos) (up X.K T (tConP (.int i))) := z_con pe_int fun _ _ => by unfold Rep; rfl
theorem z_bl {i j} : PE X (.Constant (.bool i) j pos) (up X.K T (tConP (.bl i))) := z_con pe_bl fun _ _ => by unfold Rep; rfl
theorem z_non {j} : PE X (.Constant .none j pos) (up X.K T (tConP .non)) := z_con pe_non fun _ _ => by unfold Rep; rfl
theorem z_str {i j} : PE X (.Constant (.str i) j pos) (up X.K T (tConP (.str i))) := z_con pe_str fun _ _ => by unfold Rep; rfl
theorem z_op {op : Operator} {r : R2p} (ho : OpR X (binaryOp op) (r2 X.K r)) (ha : PE X a (up X.K T ta)) (hb : PE X b (up X.K T tb)) : PE X (.BinOp a op b pos) (up X.K T (tOpP r ta tb)) := by
 refine PE.weak (pe_op ho ha hb) fun σ H Q q => ?_
 obtain ⟨F, η, P, R, h, k⟩ := q
 refine ⟨F, η, _, R, h, fun x η1 v H1 h1 e1 R1 r1' => ⟨F, η1, _, R1, h1, fun y η2 w H2 h2 e2 R2' rw' => ?_⟩⟩
 exact ⟨Oof F σ η2, x, y, _, R2'.trO, r1'.car e2.car, rw', h2, fun z u H3 pz s rz => k z η2 u H3 pz ((e1.trans e2).trans (.same s)) (R2'.same s) rz⟩
theorem z_cmp {op : CmpOp} {r : R2p} (ho : OpR X (compareOp op) (r2 X.K r)) (ha : PE X a (up X.K T ta)) (hb : PE X b (up X.K T tb)) (hm : behindInMarks op b = false := by first | exact nomark _ | rfl) : PE X (.Compare a [op] [b] pos) (up X.K T (tOpP r ta tb)) := by
 refine PE.weak (pe_cmpR ho ha hb hm) fun σ H Q q => ?_
 obtain ⟨F, η, P, R, h, k⟩ := q
 refine ⟨F, η, _, R, h, fun x η1 v H1 h1 e1 R1 r1' => ⟨F, η1, _, R1, h1, fun y η2 w H2 h2 e2 R2' rw' => ?_⟩⟩
 exact ⟨Oof F σ η2, x, y, _, R2'.trO, r1'.car e2.car, rw', h2, fun z u H3 pz s rz => k z η2 u H3 pz ((e1.trans e2).trans (.same s)) (R2'.same s) rz⟩
def tChainP (r r' : R2p) (ta tb tc : TEp) : TEp := fun η P => ta η fun x η1 => tb η1 fun y η2 => r x y fun z => ∃ k, z = .bl k ∧ if k = true then tc η2 fun w η3 => r' y w fun z' => P z' η3 else P (.bl false) η2
theorem za_nil : PA X [] (upA X.K T tNilP) := by
 refine PA.weak pa_nil fun σ H Q q => ?_
 obtain ⟨F, η, P, R, h, k⟩ := q
 exact k [] η [] H h .refl R .nil
theorem za_cons (ha : PE X e (up X.K T ta)) (hr : PA X es (upA X.K T t)) (hs : starEach (e :: es) X.env = (false, eval e X.env) :: starEach es X.env := by rfl) : PA X (e :: es) (upA X.K T (tConsP ta t)) := by
 refine PA.weak (pa_cons ha hr hs) fun σ H Q q => ?_
 obtain ⟨F, η, P, R, h, k⟩ := q
 refine ⟨F, η, _, R, h, fun x η1 v H1 h1 e1 R1 r1' => ⟨F, η1, _, R1, h1, fun y η2 w H2 h2 e2 R2' rw' => ?_⟩⟩
 exact k (x :: y) η2 (v :: w) H2 h2 (e1.trans e2) R2' (.cons (r1'.car e2.car) rw')
theorem z_callB {x : Str} {id : String} {r : R1p} {p : Pos} (hc : CallR X (.builtin id) (r1 X.K r)) (hg : Gl X x) (hm : X.mg x = none) (hv : bootBuiltins x = some (.builtin id)) (ha : PA X (e :: es) (upA X.K T t)) (hn : x ≠ "__name__" := by decide) (hdb : (x == ("__debug__" : Str)) = false := by decide)
  (he : starEach (e :: es) X.env = (false, eval e X.env) :: starEach es X.env := by rfl) (hpl : (backTo pos (starEach es X.env)).any (·.1) = false := by rfl) : PE X (.Call (.Name x p) (e :: es) [] pos) (up X.K T (tCBP r t)) := by
 refine PE.weak (pe_callB hc hg hm hv ha hn hdb he hpl) fun σ H Q q => ?_
 obtain ⟨F, η, P, R, h, k⟩ := q
 refine ⟨F, η, _, R, h, fun x η1 v H1 h1 e1 R1 r1' => ?_⟩
 exact ⟨Oof F σ η1, x, _, R1.trO, r1', h1, fun z u H3 pz s rz => k z η1 u H3 pz (e1.trans (.same s)) (R1.same s) rz⟩
theorem z_callTy {x : Str} {id : String} {r : R1p} {p : Pos} (hc : CallR X (.type id) (r1 X.K r)) (hg : Gl X x) (hm : X.mg x = none) (hv : bootBuiltins x = some (.type id)) (ha : PA X (e :: es) (upA X.K T t)) (hn : x ≠ "__name__" := by decide) (hdb : (x == ("__debug__" : Str)) = false := by decide)
  (he : starEach (e :: es) X.env = (false, eval e X.env) :: starEach es X.env := by rfl) (hpl : (backTo pos (starEach es X.env)).any (·.1) = false := by rfl) : PE X (.Call (.Name x p) (e :: es) [] pos) (up X.K T (tCBP r t)) := by
 refine PE.weak (pe_callTy hc hg hm hv ha hn hdb he hpl) fun σ H Q q => ?_
 obtain ⟨F, η, P, R, h, k⟩ := q
 refine ⟨F, η, _, R, h, fun x η1 v H1 h1 e1 R1 r1' => ?_⟩
 exact ⟨Oof F σ η1, x, _, R1.trO, r1', h1, fun z u H3 pz s rz => k z η1 u H3 pz (e1.trans (.same s)) (R1.same s) rz⟩
def tTupP (t : TAp) : TEp := fun η P => t η fun xs η1 => xs.length ≤ sizeLine ∧ P (.tup xs) η1
def tLstP (t : TAp) : TEp := fun η P => t η fun xs η1 => xs.length ≤ sizeLine ∧ P (.lst xs) η1
theorem rep_newT {K : PySem.W.Frag} {O : Addr → Prop} {H : Hp} {p : Addr} {xs : List PV} {vs : List V} (tr : Trk O H) (hp : H p = none) (r : Reps K O H xs vs) : Rep K O (upd H p (.tup vs)) (.tup xs) (.ref p) := by
 unfold Rep
 exact ⟨p, vs, rfl, .inl ⟨tr.fresh hp, .inl upd_same⟩, r.car (Car.same (Same.new hp))⟩
theorem rep_newL {K : PySem.W.Frag} {O : Addr → Prop} {H : Hp} {p : Addr} {xs : List PV} {vs : List V} (tr : Trk O H) (hp : H p = none) (r : Reps K O H xs vs) : Rep K O (upd H p (.lst vs)) (.lst xs) (.ref p) := by
 unfold Rep
 exact ⟨p, vs, rfl, tr.fresh hp, upd_same, r.car (Car.same (Same.new hp))⟩
theorem z_tup {x1} (h : PA X es (upA X.K T t)) : PE X (.Tuple es x1 pos) (up X.K T (tTupP t)) := by
 refine PE.weak (pe_tup h) fun σ H Q q => ?_
 obtain ⟨F, η, P, R, h, k⟩ := q
 refine ⟨F, η, _, R, h, fun xs η1 vs H1 h1 e1 R1 r1' => ⟨by rw [r1'.len]; exact h1.1, fun p hp => ?_⟩⟩
 exact k _ η1 _ _ h1.2 (e1.trans (.same (Same.new hp))) (R1.same (Same.new hp)) (rep_newT R1.trO hp r1')
theorem z_lst (h : PA X es (upA X.K T t)) : PE X (.List es pos) (up X.K T (tLstP t)) := by
 refine PE.weak (pe_lst h) fun σ H Q q => ?_
 obtain ⟨F, η, P, R, h, k⟩ := q
 refine ⟨F, η, _, R, h, fun xs η1 vs H1 h1 e1 R1 r1' => ⟨by rw [r1'.len]; exact h1.1, fun p hp => ?_⟩⟩
 exact k _ η1 _ _ h1.2 (e1.trans (.same (Same.new hp))) (R1.same (Same.new hp)) (rep_newL R1.trO hp r1')
def truth : PV → Option Bool
 | .bl b => some b
 | .non => some false
 | .int i => some (i != 0)
 | .lst xs => some (!xs.isEmpty)
 | .tup xs => some (!xs.isEmpty)
 | _ => none
def tBlP (ta : TEp) : TTp := fun η P => ta η fun x η1 => match x with | .bl b => P b η1 | _ => False
theorem zt_val (h : PE X e (up X.K T ta)) (he : ∀ whole, isTrue e X.env whole = (do let v ← whole; standAt e.pos; holding [v] (truthy v)) := by intro _; rfl) : PT X e (upB X.K T (tBlP ta)) := by
 refine PT.weak (pt_val h he) fun σ H Q q => ?_
 obtain ⟨F, η, P, R, h, k⟩ := q
 refine ⟨F, η, _, R, h, fun x η1 v H1 h1 e1 R1 r1' => ?_⟩
 split at h1
 ·unfold Rep at r1'
  exact ⟨_, r1', k _ η1 H1 h1 e1 R1⟩
 ·cases h1
theorem zt_cmp {op : CmpOp} {r : R2p} (ho : OpR X (compareOp op) (r2 X.K r)) (ha : PE X a (up X.K T ta)) (hb : PE X b (up X.K T tb)) (hm : behindInMarks op b = false := by first | exact nomark _ | rfl) : PT X (.Compare a [op] [b] pos) (upB X.K T (tBlP (tOpP r ta tb))) := by
 refine PT.weak (pt_cmpR ho ha hb hm) fun σ H Q q => ?_
 obtain ⟨F, η, P, R, h, k⟩ := q
 refine ⟨F, η, _, R, h, fun x η1 v H1 h1 e1 R1 r1' => ⟨F, η1, _, R1, h1, fun y η2 w H2 h2 e2 R2' rw' => ?_⟩⟩
 refine ⟨Oof F σ η2, x, y, _, R2'.trO, r1'.car e2.car, rw', h2, fun z u H3 pz s rz => ?_⟩
 dsimp only at pz
 split at pz
 ·unfold Rep at rz
  exact ⟨_, rz, k _ η2 H3 pz ((e1.trans e2).trans (.same s)) (R2'.same s)⟩
 ·cases pz
theorem z_chain {op op' : CmpOp} {r r' : R2p} (ho : OpR X (compareOp op) (r2 X.K r)) (ho' : OpR X (compareOp op') (r2 X.K r')) (ha : PE X a (up X.K T ta)) (hb : PE X b (up X.K T tb)) (hc : PE X c (up X.K T tc))
  (pf : PE X (.Compare a [op, op'] [b, c] pos) (tChain (r2 X.K r) (r2 X.K r') (up X.K T ta) (up X.K T tb) (up X.K T tc))) : PE X (.Compare a [op, op'] [b, c] pos) (up X.K T (tChainP r r' ta tb tc)) := by
 refine PE.weak pf fun σ H Q q => ?_
 obtain ⟨F, η, P, R, h, k⟩ := q
 refine ⟨F, η, _, R, h, fun x η1 v H1 h1 e1 R1 r1' => ⟨F, η1, _, R1, h1, fun y η2 w H2 h2 e2 R2' rw' => ?_⟩⟩
 refine ⟨Oof F σ η2, x, y, _, R2'.trO, r1'.car e2.car, rw', h2, fun z u H3 pz s rz => ?_⟩
 obtain ⟨kk, rfl, pz⟩ := pz
 unfold Rep at rz
 refine ⟨kk, rz, ?_⟩
 cases kk with
 | false => exact k _ η2 _ H3 pz ((e1.trans e2).trans (.same s)) (R2'.same s) (by unfold Rep; rfl)
 | true =>
  simp only [if_true] at pz ⊢
  refine ⟨F, η2, _, R2'.same s, pz, fun z' η3 u' H4 h4 e4 R4 r4 => ?_⟩
  exact ⟨Oof F σ η3, y, z', _, R4.trO, (rw'.car (Car.same s)).car e4.car, r4, h4, fun z2 u2 H5 p5 s5 r5 => k z2 η3 u2 H5 p5 ((((e1.trans e2).trans (.same s)).trans e4).trans (.same s5)) (R4.same s5) r5⟩
def tAndP (t u : TTp) : TTp := fun η P => t η fun c η1 => if c = true then u η1 P else P false η1
def tOrP (t u : TTp) : TTp := fun η P => t η fun c η1 => if c = true then P true η1 else u η1 P
def tNotP (t : TTp) : TTp := fun η P => t η fun c η1 => P (!c) η1
variable {rest : List Expr} {tA tB : TTp}
theorem zw_and1 (ha : PT X a (upB X.K T tA)) : PW X (.BoolOp .And [a] pos) (upB X.K T tA) := pw_and1 ha
theorem zw_or1 (ha : PT X a (upB X.K T tA)) : PW X (.BoolOp .Or [a] pos) (upB X.K T tA) := pw_or1 ha
theorem zw_and (ha : PT X a (upB X.K T tA)) (hb : PW X (.BoolOp .And (b :: rest) pos) (upB X.K T tB)) : PW X (.BoolOp .And (a :: b :: rest) pos) (upB X.K T (tAndP tA tB)) := by
 refine PW.weak (pw_and ha hb) fun σ H Q q => ?_
 obtain ⟨F, η, P, R, h, k⟩ := q
 refine ⟨F, η, _, R, h, fun x η1 H1 h1 e1 R1 => ?_⟩
 cases x with
 | false => exact k _ _ _ h1 e1 R1
 | true =>
  simp only [if_true] at h1 ⊢
  exact ⟨F, η1, _, R1, h1, fun y η2 H2 h2 e2 R2' => k _ _ _ h2 (e1.trans e2) R2'⟩
theorem zw_or (ha : PT X a (upB X.K T tA)) (hb : PW X (.BoolOp .Or (b :: rest) pos) (upB X.K T tB)) : PW X (.BoolOp .Or (a :: b :: rest) pos) (upB X.K T (tOrP tA tB)) := by
 refine PW.weak (pw_or ha hb) fun σ H Q q => ?_
 obtain ⟨F, η, P, R, h, k⟩ := q
 refine ⟨F, η, _, R, h, fun x η1 H1 h1 e1 R1 => ?_⟩
 cases x with
 | true => exact k _ _ _ h1 e1 R1
 | false =>
  simp only [Bool.false_eq_true, if_false] at h1 ⊢
  exact ⟨F, η1, _, R1, h1, fun y η2 H2 h2 e2 R2' => k _ _ _ h2 (e1.trans e2) R2'⟩
theorem zt_not (ha : PT X a (upB X.K T tA)) : PT X (.UnaryOp .Not a pos) (upB X.K T (tNotP tA)) := by
 refine PT.weak (pt_not ha) fun σ H Q q => ?_
 obtain ⟨F, η, P, R, h, k⟩ := q
 exact ⟨F, η, _, R, h, fun x η1 H1 h1 e1 R1 => k _ _ _ h1 e1 R1⟩
def tAndVP (ta tb : TEp) : TEp := fun η P => ta η fun x η1 => match x with | .bl true => tb η1 P | .bl false => P (.bl false) η1 | _ => False
def tOrVP (ta tb : TEp) : TEp := fun η P => ta η fun x η1 => match x with | .bl false => tb η1 P | .bl true => P (.bl true) η1 | _ => False
def tNotVP (ta : TEp) : TEp := fun η P => ta η fun x η1 => match x with | .bl b => P (.bl (!b)) η1 | _ => False
theorem z_one {op} (h : PE X a (up X.K T ta)) : PE X (.BoolOp op [a] pos) (up X.K T ta) := pe_one h
theorem z_and (ha : PE X a (up X.K T ta)) (hb : PE X (.BoolOp .And (b :: rest) pos) (up X.K T tb)) : PE X (.BoolOp .And (a :: b :: rest) pos) (up X.K T (tAndVP ta tb)) := by
 refine PE.weak (pe_and ha hb) fun σ H Q q => ?_
 obtain ⟨F, η, P, R, h, k⟩ := q
 refine ⟨F, η, _, R, h, fun x η1 v H1 h1 e1 R1 r => ?_⟩
 split at h1
 ·unfold Rep at r
  exact ⟨true, r, F, η1, _, R1, h1, fun y η2 w H2 h2 e2 R2' r2' => k _ _ _ _ h2 (e1.trans e2) R2' r2'⟩
 ·have r' := r
  unfold Rep at r'
  exact ⟨false, r', k _ _ _ _ h1 e1 R1 (by unfold Rep; rfl)⟩
 ·cases h1
theorem z_not (ha : PE X a (up X.K T ta)) : PE X (.UnaryOp .Not a pos) (up X.K T (tNotVP ta)) := by
 refine PE.weak (pe_not ha) fun σ H Q q => ?_
 obtain ⟨F, η, P, R, h, k⟩ := q
 refine ⟨F, η, _, R, h, fun x η1 v H1 h1 e1 R1 r => ?_⟩
 split at h1
 ·unfold Rep at r
  exact ⟨_, r, k _ _ _ _ h1 e1 R1 (by unfold Rep; rfl)⟩
 ·cases h1
def tIfP (t : TTp) (ta tb : TEp) : TEp := fun η P => t η fun c η1 => if c = true then ta η1 P else tb η1 P
theorem z_ifExp (hc : PT X c (upB X.K T tA)) (ha : PE X a (up X.K T ta)) (hb : PE X b (up X.K T tb)) : PE X (.IfExp c a b pos) (up X.K T (tIfP tA ta tb)) := by
 refine PE.weak (pe_ifExp hc ha hb) fun σ H Q q => ?_
 obtain ⟨F, η, P, R, h, k⟩ := q
 refine ⟨F, η, _, R, h, fun x η1 H1 h1 e1 R1 => ?_⟩
 cases x with
 | true =>
  simp only [if_true] at h1 ⊢
  exact ⟨F, η1, _, R1, h1, fun y η2 w H2 h2 e2 R2' r2' => k _ _ _ _ h2 (e1.trans e2) R2' r2'⟩
 | false =>
  simp only [Bool.false_eq_true, if_false] at h1 ⊢
  exact ⟨F, η1, _, R1, h1, fun y η2 w H2 h2 e2 R2' r2' => k _ _ _ _ h2 (e1.trans e2) R2' r2'⟩
end
section
variable {X : Cx}
theorem OpR.weak {f : Value → Value → Sem Value} {r r' : R2} (h : OpR X f r) (w : ∀ x y H Q, r' x y H Q → r x y H Q) : OpR X f r' := fun pins s σ H x y v u Q I rx ry q => h pins s σ H x y v u Q I rx ry (w _ _ _ _ q)
theorem CallR.weak {f : Value} {r r' : List V → Hp → VK → Prop} (h : CallR X f r) (w : ∀ x H Q, r' x H Q → r x H Q) : CallR X f r' := fun pins s σ H xs us Q I r q => h pins s σ H xs us Q I r (w _ _ _ q)
variable {K : PySem.W.Frag} {O : Addr → Prop} {H : Hp} {v : V} {P : PV → Prop} {Q : VK}
-- inversion
theorem Rep.int_ {i} (h : Rep K O H (.int i) v) : v = .int i := by unfold Rep at h; exact h
theorem Rep.str_ {i} (h : Rep K O H (.str i) v) : v = .str i := by unfold Rep at h; exact h
theorem Rep.bl_ {i} (h : Rep K O H (.bl i) v) : v = .bl i := by unfold Rep at h; exact h
theorem Rep.non_ (h : Rep K O H .non v) : v = .non := by unfold Rep at h; exact h
theorem Rep.raw_ {u} (h : Rep K O H (.raw u) v) : v = u := by unfold Rep at h; exact h
theorem Rep.lst_ {xs} (h : Rep K O H (.lst xs) v) : ∃ a vs, v = .ref a ∧ ¬ O a ∧ H a = some (.lst vs) ∧ Reps K O H xs vs := by unfold Rep at h; exact h
theorem Rep.tup_ {xs} (h : Rep K O H (.tup xs) v) : ∃ a vs, v = .ref a ∧ TupAt K O H a vs ∧ Reps K O H xs vs := by unfold Rep at h; exact h
theorem Rep.scr_ {ns} (h : Rep K O H (.scr ns) v) : ∃ a o, v = .ref a ∧ ¬ O a ∧ H a = some (.frz o (.lst (ns.map V.int))) := by unfold Rep at h; exact h
theorem Rep.ins_ {C fs} (h : Rep K O H (.ins C fs) v) : ∃ a dx ws, v = .ref a ∧ ¬ O a ∧ H a = some (.ins C dx ws) ∧ RepF K O H fs ws := by unfold Rep at h; exact h
theorem rep_int {i} : Rep K O H (.int i) (.int i) := by unfold Rep; rfl
theorem rep_str {i} : Rep K O H (.str i) (.str i) := by unfold Rep; rfl
theorem rep_bl {i} : Rep K O H (.bl i) (.bl i) := by unfold Rep; rfl
theorem rep_non : Rep K O H .non .non := by unfold Rep; rfl
theorem Out.int {i} (h : Out K O H P Q) (p : P (.int i)) : Q (.int i) H := h _ _ _ p (Same.refl _) rep_int
theorem Out.str {i} (h : Out K O H P Q) (p : P (.str i)) : Q (.str i) H := h _ _ _ p (Same.refl _) rep_str
theorem Out.bl {i} (h : Out K O H P Q) (p : P (.bl i)) : Q (.bl i) H := h _ _ _ p (Same.refl _) rep_bl
theorem Out.non (h : Out K O H P Q) (p : P .non) : Q .non H := h _ _ _ p (Same.refl _) rep_non
theorem Out.newL {xs vs} {p : Addr} (h : Out K O H P Q) (q : P (.lst xs)) (tr : Trk O H) (r : Reps K O H xs vs) (hp : H p = none) : Q (.ref p) (upd H p (.lst vs)) := h _ _ _ q (Same.new hp) (rep_newL tr hp r)
theorem Out.newT {xs vs} {p : Addr} (h : Out K O H P Q) (q : P (.tup xs)) (tr : Trk O H) (r : Reps K O H xs vs) (hp : H p = none) : Q (.ref p) (upd H p (.tup vs)) := h _ _ _ q (Same.new hp) (rep_newT tr hp r)
def rAdd : R2p := fun x y P => match x, y with
 | .int i, .int j => P (.int (i + j))
 | .str x, .str y => x.length + y.length ≤ sizeLine ∧ P (.str (x ++ y))
 | .lst xs, .lst ys => xs.length + ys.length ≤ sizeLine ∧ P (.lst (xs ++ ys))
 | .tup xs, .tup ys => xs ≠ [] ∧ xs.length + ys.length ≤ sizeLine ∧ P (.tup (xs ++ ys))
 | _, _ => False
theorem zo_add : OpR X (binaryOp .Add) (r2 X.K rAdd) := by
 refine OpR.weak ((op_add (X := X)).or (op_add_str.or (op_cat.or op_catT))) fun x y H Q h => ?_
 obtain ⟨O, px, py, P, tr, hx, hy, h, k⟩ := h
 unfold rAdd at h
 split at h
 ·exact .inl ⟨_, _, hx.int_, hy.int_, k.int h⟩
 ·exact .inr (.inl ⟨_, _, hx.str_, hy.str_, h.1, k.str h.2⟩)
 ·obtain ⟨a, vs, e1, n1, h1, q1⟩ := hx.lst_
  obtain ⟨b, us, e2, n2, h2, q2⟩ := hy.lst_
  exact .inr (.inr (.inl ⟨a, b, vs, us, e1, e2, h1, h2, by rw [q1.len, q2.len]; exact h.1, fun p hp => k.newL h.2 tr (q1.app q2) hp⟩))
 ·obtain ⟨a, vs, e1, h1, q1⟩ := hx.tup_
  obtain ⟨b, us, e2, h2, q2⟩ := hy.tup_
  refine .inr (.inr (.inr ⟨a, b, vs, us, e1, e2, h1.sq, h2.sq, fun z => h.1 (by rw [z] at q1; exact List.length_eq_zero_iff.mp q1.len.symm), by rw [q1.len, q2.len]; exact h.2.1, fun z => ?_, fun _ p hp => k.newT h.2.2 tr (q1.app q2) hp⟩))
  refine k _ _ _ h.2.2 (Same.refl _) ?_
  unfold Rep
  exact ⟨a, vs, rfl, h1, by have := q1.app q2; rw [z, List.append_nil] at this; exact this⟩
 ·cases h
def rSub : R2p := fun x y P => match x, y with
 | .int i, .int j => P (.int (i - j))
 | _, _ => False
theorem zo_sub : OpR X (binaryOp .Sub) (r2 X.K rSub) := by
 refine OpR.weak (op_sub (X := X)) fun x y H Q h => ?_
 obtain ⟨O, px, py, P, tr, hx, hy, h, k⟩ := h
 unfold rSub at h
 split at h
 ·exact ⟨_, _, hx.int_, hy.int_, k.int h⟩
 ·cases h
def rMul : R2p := fun x y P => match x, y with
 | .int i, .int j => CMul i j ∧ P (.int (i * j))
 | .lst xs, .int k => -(2 ^ 63) ≤ k ∧ k < 2 ^ 63 ∧ xs.length * k.toNat ≤ sizeLine ∧ P (.lst (List.replicate k.toNat xs).flatten)
 | _, _ => False
theorem Reps.flat {xs vs} (h : Reps K O H xs vs) : ∀ n, Reps K O H (List.replicate n xs).flatten (List.replicate n vs).flatten
 | 0 => by simp; exact .nil
 | n + 1 => by simp only [List.replicate_succ, List.flatten_cons]; exact h.app (h.flat n)
theorem zo_mul : OpR X (binaryOp .Mult) (r2 X.K rMul) := by
 refine OpR.weak ((op_mul (X := X)).or op_rep) fun x y H Q h => ?_
 obtain ⟨O, px, py, P, tr, hx, hy, h, k⟩ := h
 unfold rMul at h
 split at h
 ·exact .inl ⟨_, _, hx.int_, hy.int_, h.1, k.int h.2⟩
 ·obtain ⟨a, vs, e1, n1, h1, q1⟩ := hx.lst_
  exact .inr ⟨a, _, vs, e1, hy.int_, h1, h.1, h.2.1, by rw [q1.len]; exact h.2.2.1, fun p hp => k.newL h.2.2.2 tr (q1.flat _) hp⟩
 ·cases h
def rDiv : R2p := fun x y P => match x, y with
 | .int i, .int j => CDiv i j ∧ P (.int (i / j))
 | _, _ => False
theorem zo_div : OpR X (binaryOp .FloorDiv) (r2 X.K rDiv) := by
 refine OpR.weak (op_fdiv (X := X)) fun x y H Q h => ?_
 obtain ⟨O, px, py, P, tr, hx, hy, h, k⟩ := h
 unfold rDiv at h
 split at h
 ·exact ⟨_, _, hx.int_, hy.int_, h.1, k.int h.2⟩
 ·cases h
def rMod : R2p := fun x y P => match x, y with
 | .int i, .int j => 0 < j ∧ P (.int (i % j))
 | _, _ => False
theorem zo_mod : OpR X (binaryOp .Mod) (r2 X.K rMod) := by
 refine OpR.weak (op_mod (X := X)) fun x y H Q h => ?_
 obtain ⟨O, px, py, P, tr, hx, hy, h, k⟩ := h
 unfold rMod at h
 split at h
 ·exact ⟨_, _, hx.int_, hy.int_, h.1, k.int h.2⟩
 ·cases h
def rPow : R2p := fun x y P => match x, y with
 | .int i, .int j => CPow i j ∧ P (.int (i ^ j.toNat))
 | _, _ => False
theorem zo_pow : OpR X (binaryOp .Pow) (r2 X.K rPow) := by
 refine OpR.weak (op_pow (X := X)) fun x y H Q h => ?_
 obtain ⟨O, px, py, P, tr, hx, hy, h, k⟩ := h
 unfold rPow at h
 split at h
 ·exact ⟨_, _, hx.int_, hy.int_, h.1, k.int h.2⟩
 ·cases h
def rLt : R2p := fun x y P => match x, y with
 | .int i, .int j => P (.bl (decide (i < j)))
 | .str x, .str y => P (.bl (decide (x.cps.toList < y.cps.toList)))
 | _, _ => False
theorem zo_lt : OpR X (compareOp .Lt) (r2 X.K rLt) := by
 refine OpR.weak ((op_lt (X := X)).or op_lt_str) fun x y H Q h => ?_
 obtain ⟨O, px, py, P, tr, hx, hy, h, k⟩ := h
 unfold rLt at h
 split at h
 ·exact .inl ⟨_, _, hx.int_, hy.int_, k.bl h⟩
 ·exact .inr ⟨_, _, hx.str_, hy.str_, k.bl h⟩
 ·cases h
def rGt : R2p := fun x y P => match x, y with
 | .int i, .int j => P (.bl (decide (j < i)))
 | _, _ => False
theorem zo_gt : OpR X (compareOp .Gt) (r2 X.K rGt) := by
 refine OpR.weak (op_gt (X := X)) fun x y H Q h => ?_
 obtain ⟨O, px, py, P, tr, hx, hy, h, k⟩ := h
 unfold rGt at h
 split at h
 ·exact ⟨_, _, hx.int_, hy.int_, k.bl h⟩
 ·cases h
def rGe : R2p := fun x y P => match x, y with
 | .int i, .int j => P (.bl (decide (j ≤ i)))
 | _, _ => False
theorem zo_ge : OpR X (compareOp .GtE) (r2 X.K rGe) := by
 refine OpR.weak (op_ge (X := X)) fun x y H Q h => ?_
 obtain ⟨O, px, py, P, tr, hx, hy, h, k⟩ := h
 unfold rGe at h
 split at h
 ·exact ⟨_, _, hx.int_, hy.int_, k.bl h⟩
 ·cases h
end
mutual
def toD : PV → Option PyData
 | .non => some .none
 | .bl b => some (.bool b)
 | .int i => some (.int i)
 | .str x => some (.str x)
 | .tup xs => (toDs xs).map .tuple
 | .lst xs => (toDs xs).map .list
 | .scr _ => none
 | .ins _ _ => none
 | .dic _ => none
 | .raw _ => none
 | .pln xs => (toDs xs).map .tuple
 | .exn _ _ _ => none
def toDs : List PV → Option (List PyData)
 | [] => some []
 | x :: xs => match toD x, toDs xs with
  | some d, some ds => some (d :: ds)
  | _, _ => none
end
theorem toDs_cons {x : PV} {xs : List PV} {ds : List PyData} (h : toDs (x :: xs) = some ds) : ∃ d r, ds = d :: r ∧ toD x = some d ∧ toDs xs = some r := by
 unfold toDs at h
 split at h
 ·rename_i d r h1 h2
  cases h
  exact ⟨d, r, rfl, h1, h2⟩
 ·cases h
section
variable {K : PySem.W.Frag} {O : Addr → Prop} {H : Hp}
mutual
theorem Rep.dp : ∀ (x : PV) (v : V) (d : PyData), Rep K O H x v → toD x = some d → Dp K H v d
 | .non, _, _, h, e => by cases h.non_; unfold toD at e; cases e; exact .non
 | .bl _, _, _, h, e => by cases h.bl_; unfold toD at e; cases e; exact .bl _
 | .int _, _, _, h, e => by cases h.int_; unfold toD at e; cases e; exact .int _
 | .str _, _, _, h, e => by cases h.str_; unfold toD at e; cases e; exact .str _
 | .tup xs, _, _, h, e => by
  obtain ⟨a, vs, rfl, t, r⟩ := h.tup_
  unfold toD at e
  cases q : toDs xs with
  | none => rw [q] at e; cases e
  | some ds => rw [q] at e; cases e; exact .tup t.sq (Reps.dp xs vs ds r q)
 | .lst xs, _, _, h, e => by
  obtain ⟨a, vs, rfl, n, t, r⟩ := h.lst_
  unfold toD at e
  cases q : toDs xs with
  | none => rw [q] at e; cases e
  | some ds => rw [q] at e; cases e; exact .lst (SqL.of t) (Reps.dp xs vs ds r q)
 | .scr _, _, _, _, e => by unfold toD at e; cases e
 | .ins _ _, _, _, _, e => by unfold toD at e; cases e
 | .dic _, _, _, _, e => by unfold toD at e; cases e
 | .raw _, _, _, _, e => by unfold toD at e; cases e
 | .exn _ _ _, _, _, _, e => by unfold toD at e; cases e
 | .pln xs, _, _, h, e => by
  have h' := h.wkV
  unfold wkV at h'
  obtain ⟨a, vs, rfl, t, r⟩ := h'.tup_
  unfold toD at e
  cases q : toDs xs with
  | none => rw [q] at e; cases e
  | some ds => rw [q] at e; cases e; exact .tup t.sq (Reps.dp xs vs ds r q)
theorem Reps.dp : ∀ (xs : List PV) (vs : List V) (ds : List PyData), Reps K O H xs vs → toDs xs = some ds → DpAll K H vs ds
 | [], _, _, h, e => by rw [h.inv0]; unfold toDs at e; cases e; exact .nil
 | x :: xs, _, _, h, e => by
  obtain ⟨v, us, rfl, r, t⟩ := h.inv
  obtain ⟨d, ds, rfl, h1, h2⟩ := toDs_cons e
  exact .cons (Rep.dp x v d r h1) (Reps.dp xs us ds t h2)
end
end
section
variable {X : Cx}
def rEqP (neg : Bool) : R2p := fun x y P => ∃ d e, toD x = some d ∧ toD y = some e ∧ SeqAt.shaped d = true ∧ SeqAt.shaped e = true ∧ P (.bl (if neg then !PyData.eqv d e else PyData.eqv d e))
theorem zo_eq (hu : X.A.units + 64 < cLine) : OpR X (compareOp .Eq) (r2 X.K (rEqP false)) := by
 refine OpR.weak (op_eqD hu) fun x y H Q h => ?_
 obtain ⟨O, px, py, P, tr, hx, hy, ⟨d, e, h1, h2, h3, h4, h⟩, k⟩ := h
 exact ⟨d, e, Rep.dp _ _ _ hx h1, Rep.dp _ _ _ hy h2, h3, h4, k.bl h⟩
theorem zo_ne (hu : X.A.units + 64 < cLine) : OpR X (compareOp .NotEq) (r2 X.K (rEqP true)) := by
 refine OpR.weak (op_neD hu) fun x y H Q h => ?_
 obtain ⟨O, px, py, P, tr, hx, hy, ⟨d, e, h1, h2, h3, h4, h⟩, k⟩ := h
 exact ⟨d, e, Rep.dp _ _ _ hx h1, Rep.dp _ _ _ hy h2, h3, h4, k.bl h⟩
def rEqI (neg : Bool) : R2p := fun x y P => match x, y with
 | .int i, .int j => P (.bl (if neg then !decide (i = j) else decide (i = j)))
 | .str i, .str j => P (.bl (if neg then !decide (i = j) else decide (i = j)))
 | .bl i, .bl j => P (.bl (if neg then !decide (i = j) else decide (i = j)))
 | _, _ => False
theorem zo_eqI : OpR X (compareOp .Eq) (r2 X.K (rEqI false)) := by
 refine OpR.weak (op_eq (X := X)) fun x y H Q h => ?_
 obtain ⟨O, px, py, P, tr, hx, hy, h, k⟩ := h
 unfold rEqI at h
 split at h
 ·rw [hx.int_, hy.int_]; refine ⟨rfl, k.bl ?_⟩; simpa using h
 ·rw [hx.str_, hy.str_]; refine ⟨rfl, k.bl ?_⟩; simpa using h
 ·rw [hx.bl_, hy.bl_]; refine ⟨rfl, k.bl ?_⟩; simpa using h
 ·cases h
theorem zo_neI : OpR X (compareOp .NotEq) (r2 X.K (rEqI true)) := by
 refine OpR.weak (op_ne (X := X)) fun x y H Q h => ?_
 obtain ⟨O, px, py, P, tr, hx, hy, h, k⟩ := h
 unfold rEqI at h
 split at h
 ·rw [hx.int_, hy.int_]; refine ⟨rfl, k.bl ?_⟩; simpa using h
 ·rw [hx.str_, hy.str_]; refine ⟨rfl, k.bl ?_⟩; simpa using h
 ·rw [hx.bl_, hy.bl_]; refine ⟨rfl, k.bl ?_⟩; simpa using h
 ·cases h
def rLe : R2p := fun x y P => match x, y with
 | .int i, .int j => P (.bl (decide (i ≤ j)))
 | .str x, .str y => P (.bl (!decide (y.cps.toList < x.cps.toList)))
 | _, _ => False
theorem zo_le : OpR X (compareOp .LtE) (r2 X.K rLe) := by
 refine OpR.weak ((op_le (X := X)).or op_le_str) fun x y H Q h => ?_
 obtain ⟨O, px, py, P, tr, hx, hy, h, k⟩ := h
 unfold rLe at h
 split at h
 ·exact .inl ⟨_, _, hx.int_, hy.int_, k.bl h⟩
 ·exact .inr ⟨_, _, hx.str_, hy.str_, k.bl h⟩
 ·cases h
def rInS (neg : Bool) : R2p := fun x y P => match x, y with
 | .str a, .str z => ∃ c, a = ⟨#[c]⟩ ∧ P (.bl (if neg then !decide (c ∈ z.cps.toList) else decide (c ∈ z.cps.toList)))
 | _, _ => False
theorem zo_in : OpR X (compareOp .In) (r2 X.K (rInS false)) := by
 refine OpR.weak (op_in_sign (X := X)) fun x y H Q h => ?_
 obtain ⟨O, px, py, P, tr, hx, hy, h, k⟩ := h
 unfold rInS at h
 split at h
 ·obtain ⟨c, rfl, h⟩ := h
  exact ⟨c, _, hx.str_, hy.str_, k.bl h⟩
 ·cases h
def rLen : R1p := fun ps P => match ps with
 | [.str x] => x.length ≤ sizeLine ∧ P (.int x.length)
 | [.lst xs] => P (.int xs.length)
 | [.tup xs] => P (.int xs.length)
 | [.scr xs] => P (.int xs.length)
 | _ => False
theorem zc_len : CallR X (.builtin "len") (r1 X.K rLen) := by
 refine CallR.weak (call_len (X := X)) fun xs H Q h => ?_
 obtain ⟨O, ps, P, tr, hx, h, k⟩ := h
 unfold rLen at h
 split at h
 ·obtain ⟨v, us, rfl, r, t⟩ := hx.inv
  cases t.inv0; cases r.str_
  exact ⟨_, _, rfl, ⟨h.1, rfl⟩, k.int h.2⟩
 ·obtain ⟨v, us, rfl, r, t⟩ := hx.inv
  cases t.inv0
  obtain ⟨a, vs, rfl, n, q, rr⟩ := r.lst_
  exact ⟨_, _, rfl, .inl ⟨vs, SqL.of q, rfl⟩, by rw [rr.len]; exact k.int h⟩
 ·obtain ⟨v, us, rfl, r, t⟩ := hx.inv
  cases t.inv0
  obtain ⟨a, vs, rfl, q, rr⟩ := r.tup_
  exact ⟨_, _, rfl, .inr ⟨vs, q.sq, rfl⟩, by rw [rr.len]; exact k.int h⟩
 ·obtain ⟨v, us, rfl, r, t⟩ := hx.inv
  cases t.inv0
  obtain ⟨a, o, rfl, n, q⟩ := r.scr_
  exact ⟨_, _, rfl, .inl ⟨_, .inl (.inr ⟨o, q⟩), rfl⟩, by rw [List.length_map]; exact k.int h⟩
 ·cases h
def rAbs : R1p := fun ps P => match ps with
 | [.int i] => P (.int (if i < 0 then -i else i))
 | _ => False
theorem zc_abs : CallR X (.builtin "abs") (r1 X.K rAbs) := by
 refine CallR.weak (call_abs (X := X)) fun xs H Q h => ?_
 obtain ⟨O, ps, P, tr, hx, h, k⟩ := h
 unfold rAbs at h
 split at h
 ·obtain ⟨v, us, rfl, r, t⟩ := hx.inv
  cases t.inv0; cases r.int_
  exact ⟨_, rfl, k.int h⟩
 ·cases h
theorem Reps.two {K : PySem.W.Frag} {O H} {x y : PV} {vs : List V} (h : Reps K O H [x, y] vs) : ∃ v w, vs = [v, w] ∧ Rep K O H x v ∧ Rep K O H y w := by
 obtain ⟨v, us, rfl, r, t⟩ := h.inv
 obtain ⟨w, us, rfl, r', t⟩ := t.inv
 cases t.inv0
 exact ⟨v, w, rfl, r, r'⟩
theorem Reps.one {K : PySem.W.Frag} {O H} {x : PV} {vs : List V} (h : Reps K O H [x] vs) : ∃ v, vs = [v] ∧ Rep K O H x v := by
 obtain ⟨v, us, rfl, r, t⟩ := h.inv
 cases t.inv0
 exact ⟨v, rfl, r⟩
def rMax2 : R1p := fun ps P => match ps with
 | [.int i, .int j] => P (.int (if j > i then j else i))
 | _ => False
def rMin2 : R1p := fun ps P => match ps with
 | [.int i, .int j] => P (.int (if j < i then j else i))
 | _ => False
theorem zc_max2 (hc : X.calm = true) : CallR X (.builtin "max") (r1 X.K rMax2) := by
 refine CallR.weak (call_max2 hc) fun xs H Q h => ?_
 obtain ⟨O, ps, P, tr, hx, h, k⟩ := h
 unfold rMax2 at h
 split at h
 ·obtain ⟨v, w, rfl, r, r'⟩ := hx.two
  cases r.int_; cases r'.int_
  exact ⟨_, _, rfl, k.int h⟩
 ·cases h
theorem zc_min2 (hc : X.calm = true) : CallR X (.builtin "min") (r1 X.K rMin2) := by
 refine CallR.weak (call_min2 hc) fun xs H Q h => ?_
 obtain ⟨O, ps, P, tr, hx, h, k⟩ := h
 unfold rMin2 at h
 split at h
 ·obtain ⟨v, w, rfl, r, r'⟩ := hx.two
  cases r.int_; cases r'.int_
  exact ⟨_, _, rfl, k.int h⟩
 ·cases h
def blsOf : List PV → Option (List Bool)
 | [] => some []
 | .bl b :: r => (blsOf r).map (b :: ·)
 | _ => none
theorem blsOf_rep {K : PySem.W.Frag} {O H} : ∀ {xs : List PV} {bs : List Bool} {vs : List V}, blsOf xs = some bs → Reps K O H xs vs → vs = bs.map V.bl
 | [], _, _, e, h => by unfold blsOf at e; cases e; exact h.inv0
 | x :: xs, _, _, e, h => by
  obtain ⟨v, us, rfl, r, t⟩ := h.inv
  cases x <;> unfold blsOf at e <;> try (cases e)
  cases q : blsOf xs with
  | none => rw [q] at e; cases e
  | some r' =>
   rw [q] at e; cases e
   rw [r.bl_, blsOf_rep q t]; rfl
def rAllP : R1p := fun ps P => match ps with
 | [.lst xs] => ∃ bs, blsOf xs = some bs ∧ P (.bl (bs.all id))
 | _ => False
theorem zc_all (hc : X.calm = true) : CallR X (.builtin "all") (r1 X.K rAllP) := by
 refine CallR.weak (cr_all hc) fun xs H Q h => ?_
 obtain ⟨O, ps, P, tr, hx, h, k⟩ := h
 unfold rAllP at h
 split at h
 ·obtain ⟨bs, e, h⟩ := h
  obtain ⟨v, rfl, r⟩ := hx.one
  obtain ⟨a, vs, rfl, n, q, rr⟩ := r.lst_
  have := blsOf_rep e rr
  subst this
  exact ⟨a, bs, rfl, SqL.of q, k.bl h⟩
 ·cases h
def rTuple : R1p := fun ps P => match ps with
 | [.lst xs] => P (.tup xs)
 | [.tup xs] => P (.tup xs)
 | _ => False
theorem zc_tuple : CallR X (.type "tuple") (r1 X.K rTuple) := by
 refine CallR.weak (call_tuple_of (X := X)) fun xs H Q h => ?_
 obtain ⟨O, ps, P, tr, hx, h, k⟩ := h
 unfold rTuple at h
 split at h
 ·rename_i xs
  obtain ⟨v, rfl, r⟩ := hx.one
  obtain ⟨a, vs, rfl, n, q, rr⟩ := r.lst_
  exact ⟨a, vs, rfl, .inl ⟨SqL.of q, fun l hl => k.newT h tr rr hl⟩⟩
 ·obtain ⟨v, rfl, r⟩ := hx.one
  obtain ⟨a, vs, rfl, q, rr⟩ := r.tup_
  exact ⟨a, vs, rfl, .inr ⟨q.sq, k _ _ _ h (Same.refl _) r⟩⟩
 ·cases h
def rStr : R1p := fun ps P => match ps with
 | [.int i] => i.natAbs.log2 < 1920 ∧ P (.str (toString i))
 | _ => False
theorem zc_str : CallR X (.type "str") (r1 X.K rStr) := by
 refine CallR.weak (call_str_int (X := X)) fun xs H Q h => ?_
 obtain ⟨O, ps, P, tr, hx, h, k⟩ := h
 unfold rStr at h
 split at h
 ·obtain ⟨v, rfl, r⟩ := hx.one
  cases r.int_
  exact ⟨_, rfl, h.1, k.str h.2⟩
 ·cases h
def tyN : PV → Option String
 | .non => some "NoneType"
 | .bl _ => some "bool"
 | .int _ => some "int"
 | .str _ => some "str"
 | .tup _ => some "tuple"
 | .lst _ => some "list"
 | .scr _ => some "list"
 | .dic _ => some "dict"
 | .ins _ _ => none
 | .raw _ => none
 | .pln _ => none
 | .exn _ _ _ => none
structure ClsT (K : PySem.W.Frag) (C : Addr) : Prop where
 cl : Cls K C
 ha : PySem.W.findIn K (.ref C) "__class__" = some (some (.builtin "object.__class__"))
 hn : PySem.W.specialIn K (.builtin "object.__class__") "__get__" = some (some (.builtin "getset_descriptor.__get__"))
 htk : PySem.W.takesIn K (.builtin "object.__class__") = some true
 hm : PySem.W.mroIn K C (.type "object") = some true
 own : PySem.W.kitOne K (.ref C) (.ref C) = some true
 ty : ∀ n : String, n ∈ ["int", "bool", "str", "tuple", "list", "dict"] → PySem.W.kitOne K (.ref C) (.type n) = some false
 no : ∀ n : String, n ∈ ["NoneType", "int", "bool", "str", "tuple", "list", "dict"] → PySem.W.kitOne K (.type n) (.ref C) = some false
def rIsI (K : PySem.W.Frag) : R1p := fun ps P => match ps with
 | [x, .raw (.ty n)] => (match tyN x with
  | some t => ∃ b, kitB t n = some b ∧ P (.bl b)
  | none => match x with
   | .ins C _ => ClsT K C ∧ n ∈ ["int", "bool", "str", "tuple", "list", "dict"] ∧ P (.bl false)
   | _ => False)
 | [x, .raw (.ref C)] => (match tyN x with
  | some t => ClsT K C ∧ t ∈ ["NoneType", "int", "bool", "str", "tuple", "list", "dict"] ∧ P (.bl false)
  | none => match x with
   | .ins C' _ => C' = C ∧ ClsT K C ∧ P (.bl true)
   | _ => False)
 | _ => False
theorem tyN_rep {K : PySem.W.Frag} {O H} {x : PV} {v : V} {t : String} (h : Rep K O H x v) (e : tyN x = some t) : TyX K H v (.type t) := by
 cases x <;> unfold tyN at e <;> cases e
 ·rw [h.non_]; exact .base .non
 ·rw [h.bl_]; exact .base (.bl _)
 ·rw [h.int_]; exact .base (.int _)
 ·rw [h.str_]; exact .base (.str _)
 ·obtain ⟨a, vs, rfl, q, rr⟩ := h.tup_
  rcases q with ⟨_, q | ⟨o, q⟩⟩ | ⟨o, its, n, q1, q2, _⟩
  ·exact .base (.tup q)
  ·exact .fTuple q
  ·exact .kTuple q1 q2
 ·obtain ⟨a, vs, rfl, n, q, rr⟩ := h.lst_; exact .base (.lst q)
 ·obtain ⟨a, o, rfl, n, q⟩ := h.scr_; exact .base (.frz q)
 ·unfold Rep at h; obtain ⟨a, ws, rfl, n, q, _⟩ := h; exact .base (.dK q)
theorem zc_isi : CallR X (.builtin "isinstance") (r1 X.K (rIsI X.K)) := by
 refine CallR.weak (call_isi (X := X)) fun xs H Q h => ?_
 obtain ⟨O, ps, P, tr, hx, h, k⟩ := h
 unfold rIsI at h
 split at h
 ·obtain ⟨v, w, rfl, r, r'⟩ := hx.two
  cases r'.raw_
  split at h
  ·rename_i t et
   obtain ⟨b, hb, h⟩ := h
   exact ⟨_, _, _, _, b, rfl, .ty _, tyN_rep r et, kit_ty hb, k.bl h⟩
  ·split at h
   ·obtain ⟨a, dx, ws, rfl, n, q, rr⟩ := r.ins_
    obtain ⟨T, hn, h⟩ := h
    exact ⟨_, _, _, _, false, rfl, .ty _, .base (.ins q T.cl T.ha T.hn T.htk T.hm), T.ty _ hn, k.bl h⟩
   ·cases h
 ·obtain ⟨v, w, rfl, r, r'⟩ := hx.two
  cases r'.raw_
  split at h
  ·rename_i t et
   obtain ⟨T, hn, h⟩ := h
   exact ⟨_, _, _, _, false, rfl, .own _, tyN_rep r et, T.no _ hn, k.bl h⟩
  ·split at h
   ·obtain ⟨rfl, T, h⟩ := h
    obtain ⟨a, dx, ws, rfl, n, q, rr⟩ := r.ins_
    exact ⟨_, _, _, _, true, rfl, .own _, .base (.ins q T.cl T.ha T.hn T.htk T.hm), T.own, k.bl h⟩
   ·cases h
 ·cases h
theorem call_reprD (hg : X.A.guards = some []) (hu : X.A.units + 64 < cLine) : CallR X (.builtin "repr") (fun xs H Q => ∃ v d, xs = [v] ∧ Dp X.K H v d ∧ d.showable = true ∧ d.hasDict = false ∧ d.depth ≤ 60 ∧ d.shown.length ≤ sizeLine ∧ Q (.str d.shown) H) := by
 intro pins s σ H xs us Q I r h
 obtain ⟨v, d, rfl, hd, hs, hn, hdep, hz, q⟩ := h
 obtain ⟨u, rfl, ru⟩ := vals1 r
 obtain ⟨as, rd⟩ := Dp.reads I d v u hd ru
 have fin : ∀ h' tk tk', (∀ b o, s.heap.get? b = some o → h'.get? b = some o) → EP X pins σ Q (.str d.shown tk) { s with heap := h', toks := tk' } := fun h' tk tk' k => ⟨.str d.shown, H, I.kept k, ⟨_, rfl⟩, q⟩
 cases rd with
 | none => exact PySem.P.repr_of_none (fin s.heap _ _ fun _ _ e => e)
 | bool b => exact PySem.P.repr_of_bool (fin s.heap _ _ fun _ _ e => e)
 | int i t => exact PySem.P.repr_of_int (of_decide_eq_true hs) (fin s.heap _ _ fun _ _ e => e)
 | str x t => exact PySem.P.repr_of_str (fin s.heap _ _ fun _ _ e => e) hz
 | list h1 h2 h3 h4 => exact repr_of_reads' (Reads.list h1 h2 h3 h4) hs (PyData.noDict_hsm hn) hg (by omega) (fun _ _ e => e) (fun h' u tk k => fin h' _ _ k) hz
 | tuple h1 h2 h3 h4 => exact repr_of_reads' (Reads.tuple h1 h2 h3 h4) hs (PyData.noDict_hsm hn) hg (by omega) (fun _ _ e => e) (fun h' u tk k => fin h' _ _ k) hz
 | dict h1 h2 h3 h4 h5 => cases hd
def rRepr : R1p := fun ps P => match ps with
 | [x] => ∃ d, toD x = some d ∧ d.showable = true ∧ d.hasDict = false ∧ d.depth ≤ 60 ∧ d.shown.length ≤ sizeLine ∧ P (.str d.shown)
 | _ => False
theorem zc_repr (hg : X.A.guards = some []) (hu : X.A.units + 64 < cLine) : CallR X (.builtin "repr") (r1 X.K rRepr) := by
 refine CallR.weak (call_reprD hg hu) fun xs H Q h => ?_
 obtain ⟨O, ps, P, tr, hx, h, k⟩ := h
 unfold rRepr at h
 split at h
 ·obtain ⟨d, h1, h2, h3, h4, h5, h⟩ := h
  obtain ⟨v, rfl, r⟩ := hx.one
  exact ⟨v, d, rfl, Rep.dp _ _ _ r h1, h2, h3, h4, h5, k.str h⟩
 ·cases h
def encD (x : PV) : PyData := (toD x).getD .none
theorem toDs_map : ∀ {xs : List PV} {ds : List PyData}, toDs xs = some ds → ds = xs.map encD
 | [], _, e => by unfold toDs at e; cases e; rfl
 | x :: xs, _, e => by
  obtain ⟨d, r, rfl, h1, h2⟩ := toDs_cons e
  rw [List.map_cons, ← toDs_map h2]
  unfold encD; rw [h1]; rfl
def ValR (K : PySem.W.Frag) (O : Addr → Prop) (H : Hp) (u : Value) (x : PV) : Prop := ∃ v, RelV v u ∧ Rep K O H x v
theorem each_val {K : PySem.W.Frag} {O H} : ∀ {xs : List PV} {vs : List V} {us : List Value}, Reps K O H xs vs → Vals vs us → PySem.W.EachIs (ValR K O H) us xs
 | [], _, _, h, r => by cases h.inv0; cases r; exact .nil
 | x :: xs, _, _, h, r => by
  obtain ⟨v, us, rfl, r1, t⟩ := h.inv
  cases r with
  | cons r2 t2 => exact .cons ⟨v, r2, r1⟩ (each_val t t2)
theorem val_each {K : PySem.W.Frag} {O H} : ∀ {xs : List PV} {us : List Value}, PySem.W.EachIs (ValR K O H) us xs → ∃ vs, Reps K O H xs vs ∧ Vals vs us
 | _, _, .nil => ⟨[], .nil, .nil⟩
 | _, _, .cons ⟨v, h1, h2⟩ t => by
  obtain ⟨vs, q1, q2⟩ := val_each t
  exact ⟨v :: vs, .cons h2 q1, .cons h1 q2⟩
theorem each_reads {K : PySem.W.Frag} {O H} {pins s σ} (I : Inv X pins σ H s) (hK : K = X.K) : ∀ {xs : List PV} {vs : List V} {us : List Value} {ds : List PyData}, Reps K O H xs vs → Vals vs us → toDs xs = some ds → PySem.W.EachIs (fun u x => ∃ as, Reads s.heap u (encD x) as) us xs
 | [], _, _, _, h, r, e => by cases h.inv0; cases r; exact .nil
 | x :: xs, _, _, _, h, r, e => by
  subst hK
  obtain ⟨v, us, rfl, r1, t⟩ := h.inv
  obtain ⟨d, ds, rfl, h1, h2⟩ := toDs_cons e
  cases r with
  | cons r2 t2 =>
   refine .cons ?_ (each_reads I rfl t t2 h2)
   have e' : encD x = d := by unfold encD; rw [h1]; rfl
   rw [e']
   exact Dp.reads I d v _ (Rep.dp _ _ _ r1 h1) r2
def rSortD : R1p := fun ps P => match ps with
 | [.lst xs] => ∃ ds, toDs xs = some ds ∧ PySem.W.AllAlike ds ∧ PySem.W.Sortable ds ∧ (∀ x ∈ xs, (encD x).depth ≤ 50) ∧ xs.length ≤ sizeLine ∧ P (.lst (xs.mergeSort (PySem.W.dataLe false encD)))
 | [.tup xs] => False
 | _ => False
theorem zc_sorted (hu : X.A.units + 64 < cLine) : CallR X (.builtin "sorted") (r1 X.K rSortD) := by
 intro pins s σ H vs us Q I r h
 obtain ⟨O, ps, P, tr, hx, h, k⟩ := h
 unfold rSortD at h
 split at h
 ·rename_i xs
  obtain ⟨ds, e, hal, hso, hdp, hz, h⟩ := h
  obtain ⟨v, rfl, rv⟩ := hx.one
  obtain ⟨a, ws, rfl, na, q, rr⟩ := rv.lst_
  obtain ⟨u, rfl, ru⟩ := vals1 r
  cases ru
  obtain ⟨its, rits, hl, hzz⟩ := I.list (SqL.of q)
  have em := toDs_map e
  rw [em] at hal hso
  refine PySem.W.sorted_data (R := ValR X.K O H) (enc := encD) hl.isList (each_val rr rits) (each_reads I rfl rr rits e) hal hso hz (fun b hb => by have := hdp b hb; omega) fun out ho eo => ?_
  obtain ⟨ys, r3, r4⟩ := val_each eo
  obtain ⟨c, hc⟩ := sortedAll_at s.heap its out.toArray
  have fr : H (s.heap.objs.size + 1) = none := I.hok.fresh (Nat.le_succ _)
  refine ⟨.ref (s.heap.objs.size + 1), upd H (s.heap.objs.size + 1) (.lst ys), I.laid (t' := s.toks) (fun b o e => sortedAll_old e) (Nat.le_succ _) ⟨?_, out, c, r4, hc⟩, rfl, k.newL h tr r3 fr⟩
  rw [r3.len, List.length_mergeSort]; exact hz
 ·cases h
 ·cases h
end
structure Gr (H H' : Hp) : Prop where
 keep : ∀ b o, H b = some o → (∀ ps, o ≠ .tbl ps) → H' b = some o
 live : ∀ b, ¬ Nw H b → ¬ Nw H' b
section
variable {K : PySem.W.Frag} {T : List (Addr × Str)} {F O : Addr → Prop} {σ σ' : St} {η η' : EP'} {H H' : Hp} {i : Nat} {x : PV} {v : V} {a : Addr} {o : Ow}
theorem Gr.car (g : Gr H H') : Car O O H H' := fun a o n e t => ⟨g.keep a o e t, n⟩
theorem Gr.ext (g : Gr H H') : Ext σ η σ η H H' := ⟨fun b o e _ t => g.keep b o e t, g.live, fun _ z => .inl z, fun o e => ⟨o, e, rfl⟩⟩
theorem Gr.same (s : Same H H') : Gr H H' := ⟨fun b o e _ => s b o e, (Ext.same (σ := []) (η := []) s).live⟩
theorem Rs.gr (R : Rs K T F σ η H) (g : Gr H H') (tb : LamX.Tabs T H') : Rs K T F σ η H' := by
 have c : Car (Oof F σ η) (Oof F σ η) H H' := g.car
 refine ⟨R.len, fun i x e => ?_, fun i o e => ?_, R.nd, fun a h => g.live a (R.tr a h), tb⟩
 ·obtain ⟨v, h1, h2⟩ := R.va i x e
  exact ⟨v, h1, h2.car c⟩
 ·obtain ⟨a, h1, h2, h3⟩ := R.ow i o e
  refine ⟨a, h1, h2.car c ?_, h3⟩
  cases o with
  | l xs => obtain ⟨vs, q, _⟩ := h2; rw [q]; exact g.keep _ _ q nofun
  | o C fs => obtain ⟨dx, ws, q, _⟩ := h2; rw [q]; exact g.keep _ _ q nofun
  | d kvs => obtain ⟨ws, q, _⟩ := h2; rw [q]; exact g.keep _ _ q nofun
theorem own_put {b : Addr} {o' : Ow} (e : η[i]? = some (Sl.ow o)) : IsOwn σ (η.set i (.ow o')) b ↔ IsOwn σ η b := by
 have hi : i < η.length := (List.getElem?_eq_some_iff.mp e).1
 constructor
 ·rintro ⟨j, p, h1, h2⟩
  by_cases q : j = i
  ·subst q; exact ⟨j, o, h1, e⟩
  ·rw [ne_set q] at h2; exact ⟨j, p, h1, h2⟩
 ·rintro ⟨j, p, h1, h2⟩
  by_cases q : j = i
  ·subst q; exact ⟨j, o', h1, by rw [List.getElem?_set_self hi]⟩
  ·exact ⟨j, p, h1, by rw [ne_set q]; exact h2⟩
theorem Rs.put {o' : Ow} (R : Rs K T F σ η H) (e : η[i]? = some (Sl.ow o)) (s : σ[i]? = some (some (V.ref a))) (c : Car (Oof F σ η) (Oof F σ η) H H') (oth : ∀ b, b ≠ a → IsOwn σ η b → H' b = H b) (tr : Trk F H') (tb : LamX.Tabs T H')
  (h : OwAt K (Oof F σ η) H' a o') : Rs K T F σ (η.set i (.ow o')) H' := by
 have hi : i < η.length := (List.getElem?_eq_some_iff.mp e).1
 have m : ∀ b, Oof F σ (η.set i (.ow o')) b → Oof F σ η b := Oof_mono fun b z => (own_put e).mp z
 refine ⟨by simpa using R.len, fun j y q => ?_, fun j p q => ?_, fun j k p p' b e1 e2 e3 e4 => ?_, tr, tb⟩
 ·have hj : j ≠ i := fun z => by subst z; cases at_set q
  rw [ne_set hj] at q
  obtain ⟨w, h1, h2⟩ := R.va j y q
  exact ⟨w, h1, (h2.car c).mono m⟩
 ·by_cases hj : j = i
  ·subst hj
   cases at_set q
   obtain ⟨b, h1, h2, h3⟩ := R.ow j o e
   rw [s] at h1; cases h1
   exact ⟨a, s, h.mono m, h3⟩
  ·rw [ne_set hj] at q
   obtain ⟨b, h1, h2, h3⟩ := R.ow j p q
   refine ⟨b, h1, (h2.car c (oth b ?_ ⟨j, p, h1, q⟩)).mono m, h3⟩
   rintro rfl
   exact hj (R.nd j i p o b q e h1 s)
 ·have f : ∀ {j p}, (η.set i (.ow o'))[j]? = some (Sl.ow p) → ∃ p', η[j]? = some (Sl.ow p') := fun {j p} q => by
   by_cases hj : j = i
   ·rw [hj]; exact ⟨o, e⟩
   ·rw [ne_set hj] at q; exact ⟨p, q⟩
  obtain ⟨q1, f1⟩ := f e1
  obtain ⟨q2, f2⟩ := f e2
  exact R.nd j k q1 q2 b f1 f2 e3 e4
theorem Tabs.upd {a : Addr} {u w : HO} (t : LamX.Tabs T H) (h : H a = some w) (n1 : ∀ ps, w ≠ .tbl ps) (n2 : ∀ φ, w ≠ .ext φ) : LamX.Tabs T (upd H a u) := fun p hp => by
 obtain ⟨ps, h1, h2, h3⟩ := t p hp
 refine ⟨ps, by rw [upd_ne (fun z => n1 ps (by rw [z] at h1; exact Option.some.inj (h.symm.trans h1)))]; exact h1, h2, fun pos cv hc => ?_⟩
 obtain ⟨c, e1, e2⟩ := h3 pos cv hc
 refine ⟨c, e1, ?_⟩
 rw [upd_ne (fun z => by rw [z] at e2; exact n2 _ (Option.some.inj (h.symm.trans e2)))]
 exact e2
theorem Rs.write {o' : Ow} {u w : HO} (R : Rs K T F σ η H) (e : η[i]? = some (Sl.ow o)) (s : σ[i]? = some (some (V.ref a))) (hw : H a = some w) (n1 : ∀ ps, w ≠ .tbl ps) (n2 : ∀ φ, w ≠ .ext φ) (n3 : ∀ ps, u ≠ .tbl ps)
  (h : Car (Oof F σ η) (Oof F σ η) H (upd H a u) → OwAt K (Oof F σ η) (upd H a u) a o') : Rs K T F σ (η.set i (.ow o')) (upd H a u) ∧ Ext σ η σ (η.set i (.ow o')) H (upd H a u) := by
 have own : IsOwn σ η a := ⟨i, o, s, e⟩
 have c : Car (Oof F σ η) (Oof F σ η) H (upd H a u) := fun b q n hb _ => ⟨by rw [upd_ne (fun z => n (by rw [z]; exact .inr own))]; exact hb, n⟩
 refine ⟨R.put e s c (fun b n _ => upd_ne n) (fun b hb => ?_) (Tabs.upd R.tb hw n1 n2) (h c), fun b q hb n _ => ?_, fun b hb => ?_, fun b z => .inl ((own_put e).mp z), fun p q => ?_⟩
 ·exact live_upd n3 (R.tr b hb)
 ·rw [upd_ne (fun z => n (by rw [z]; exact own))]; exact hb
 ·exact live_upd n3 hb
 ·by_cases z : (0 : Nat) = i
  ·rw [z]; exact ⟨o, e, rfl⟩
  ·rw [ne_set z] at q; exact ⟨p, q, rfl⟩
end
section
variable {X : Cx} {T : List (Addr × Str)} {e o : Expr} {es : List Expr} {te ta tb : TEp} {t : TAp} {pos : Pos} {st : Stmt} {rest : List Stmt} {t1 t2 : TSp}
def tSeqP (t u : TSp) : TSp := fun D η => t { D with nx := fun η' => u D η' } η
theorem zs_cons (h1 : PS X st (upS X.K T t1)) (h2 : PSs X rest (upS X.K T t2)) : PSs X (st :: rest) (upS X.K T (tSeqP t1 t2)) := by
 refine PSs.weak (pss_cons h1 h2) fun D σ H q => ?_
 obtain ⟨F, η, D', R, h, k1, k2, k3, k4⟩ := q
 refine ⟨F, η, _, R, h, fun η' σ' H' q e1 R1 => ?_, k2, k3, k4⟩
 exact ⟨F, η', D', R1, q, fun η'' σ'' H'' q' e2 R2 => k1 _ _ _ q' (e1.trans e2) R2, fun η'' σ'' H'' q' e2 R2 => k2 _ _ _ q' (e1.trans e2) R2, fun η'' σ'' H'' q' e2 R2 => k3 _ _ _ q' (e1.trans e2) R2, fun x η'' σ'' v H'' q' e2 R2 r => k4 _ _ _ _ _ q' (e1.trans e2) R2 r⟩
theorem zs_one (h1 : PS X st (upS X.K T t1)) : PSs X [st] (upS X.K T t1) := pss_one h1
def tNextP : TSp := fun D η => D.nx η
theorem zs_nil : PSs X [] (upS X.K T tNextP) := by
 refine PSs.weak pss_nil fun D σ H q => ?_
 obtain ⟨F, η, D', R, h, k1, k2, k3, k4⟩ := q
 exact k1 _ _ _ h .refl R
def tNevP : TSp := fun _ _ => False
def tDropP (te : TEp) : TSp := fun D η => te η fun _ η1 => D.nx η1
def tRetP (te : TEp) : TSp := fun D η => te η D.rt
theorem z_ret (he : PE X e (up X.K T te)) : PS X (.Return (some e) pos) (upS X.K T (tRetP te)) := by
 refine PS.weak (ps_ret he) fun D σ H q => ?_
 obtain ⟨F, η, D', R, h, k1, k2, k3, k4⟩ := q
 exact ⟨F, η, _, R, h, fun x η1 v H1 h1 e1 R1 r => k4 _ _ _ _ _ h1 e1 R1 r⟩
def tRetNP : TSp := fun D η => D.rt .non η
def tIfSP (c : TTp) (t u : TSp) : TSp := fun D η => c η fun b η1 => if b = true then t D η1 else u D η1
theorem z_if {c : Expr} {a b : List Stmt} {tc : TTp} (hc : PT X c (upB X.K T tc)) (ha : PSs X a (upS X.K T t1)) (hb : PSs X b (upS X.K T t2)) : PS X (.If c a b pos) (upS X.K T (tIfSP tc t1 t2)) := by
 refine PS.weak (ps_if hc ha hb) fun D σ H q => ?_
 obtain ⟨F, η, D', R, h, k1, k2, k3, k4⟩ := q
 refine ⟨F, η, _, R, h, fun x η1 H1 h1 e1 R1 => ?_⟩
 cases x with
 | true =>
  simp only [if_true] at h1 ⊢
  exact ⟨F, η1, D', R1, h1, fun η'' σ'' H'' q' e2 R2 => k1 _ _ _ q' (e1.trans e2) R2, fun η'' σ'' H'' q' e2 R2 => k2 _ _ _ q' (e1.trans e2) R2, fun η'' σ'' H'' q' e2 R2 => k3 _ _ _ q' (e1.trans e2) R2, fun x η'' σ'' v H'' q' e2 R2 r => k4 _ _ _ _ _ q' (e1.trans e2) R2 r⟩
 | false =>
  simp only [Bool.false_eq_true, if_false] at h1 ⊢
  exact ⟨F, η1, D', R1, h1, fun η'' σ'' H'' q' e2 R2 => k1 _ _ _ q' (e1.trans e2) R2, fun η'' σ'' H'' q' e2 R2 => k2 _ _ _ q' (e1.trans e2) R2, fun η'' σ'' H'' q' e2 R2 => k3 _ _ _ q' (e1.trans e2) R2, fun x η'' σ'' v H'' q' e2 R2 r => k4 _ _ _ _ _ q' (e1.trans e2) R2 r⟩
def tSetP (i : Nat) (te : TEp) : TSp := fun D η => te η fun x η1 => D.nx (η1.set i (.va x))
theorem z_set {i : Nat} {x : Str} {pos' : Pos} (hN : X.N.Nodup) (hi : X.N[i]? = some x) (hx : Loc X.env.scope x) (he : PE X e (up X.K T te)) (hs : swapsWith e (some (.Name x pos')) pos.line X.env = pure false := by rfl) (hf : X.fn x = true ∨ X.env.scope.names.lookup x = some .local := by first | exact .inl rfl | exact .inr rfl | assumption) :
  PS X (.Assign [.Name x pos'] e pos) (upS X.K T (tSetP i te)) := by
 refine PS.weak (ps_set hN hi hx he hs hf) fun D σ H q => ?_
 obtain ⟨F, η, D', R, h, k1, k2, k3, k4⟩ := q
 exact ⟨F, η, _, R, h, fun x η1 v H1 h1 e1 R1 r => k1 _ _ _ h1 (e1.trans .setv) (R1.setv r)⟩
abbrev TGp := PV → EP' → (EP' → Prop) → Prop
abbrev TGsp := List PV → EP' → (EP' → Prop) → Prop
def upG (K : PySem.W.Frag) (T : List (Addr × Str)) (g : TGp) : TG := fun v σ H Q => ∃ F η x P, Rs K T F σ η H ∧ Rep K (Oof F σ η) H x v ∧ g x η P ∧ ∀ η' σ' H', P η' → Ext σ η σ' η' H H' → Rs K T F σ' η' H' → Q σ' H'
def upGs (K : PySem.W.Frag) (T : List (Addr × Str)) (g : TGsp) : TGs := fun vs σ H Q => ∃ F η xs P, Rs K T F σ η H ∧ Reps K (Oof F σ η) H xs vs ∧ g xs η P ∧ ∀ η' σ' H', P η' → Ext σ η σ' η' H H' → Rs K T F σ' η' H' → Q σ' H'
theorem PG.weak {tg : Expr} {t t' : TG} (h : PG X tg t) (w : ∀ v σ H Q, t' v σ H Q → t v σ H Q) : PG X tg t' := by
 obtain ⟨r⟩ := h
 exact ⟨fun pins s σ H v u Q I rv q => r pins s σ H v u Q I rv (w _ _ _ _ q)⟩
theorem PGs.weak {tg : List Expr} {t t' : TGs} (h : PGs X tg t) (w : ∀ v σ H Q, t' v σ H Q → t v σ H Q) : PGs X tg t' := by
 obtain ⟨r⟩ := h
 exact ⟨fun pins s σ H v u Q I rv q => r pins s σ H v u Q I rv (w _ _ _ _ q)⟩
def gNameP (i : Nat) : TGp := fun x η P => P (η.set i (.va x))
theorem zg_name {i : Nat} {x : Str} (hN : X.N.Nodup) (hi : X.N[i]? = some x) (hx : Loc X.env.scope x) (hf : X.fn x = true ∨ X.env.scope.names.lookup x = some .local := by first | exact .inl rfl | exact .inr rfl | assumption) : PG X (.Name x pos) (upG X.K T (gNameP i)) := by
 refine PG.weak (pg_name hN hi hx hf) fun v σ H Q q => ?_
 obtain ⟨F, η, x, P, R, r, h, k⟩ := q
 exact k _ _ _ h .setv (R.setv r)
def gNilP : TGsp := fun xs η P => xs = [] ∧ P η
def gConsP (t : TGp) (u : TGsp) : TGsp := fun xs η P => match xs with
 | x :: r => t x η fun η1 => u r η1 P
 | [] => False
theorem zgs_nil : PGs X [] (upGs X.K T gNilP) := by
 refine PGs.weak pgs_nil fun v σ H Q q => ?_
 obtain ⟨F, η, x, P, R, r, h, k⟩ := q
 rw [h.1] at r
 exact ⟨r.inv0, k _ _ _ h.2 .refl R⟩
theorem zgs_cons {t : TGp} {u : TGsp} (h1 : PG X e (upG X.K T t)) (h2 : PGs X es (upGs X.K T u)) (pf : PGs X (e :: es) (gCons (upG X.K T t) (upGs X.K T u))) : PGs X (e :: es) (upGs X.K T (gConsP t u)) := by
 refine PGs.weak pf fun v σ H Q q => ?_
 obtain ⟨F, η, x, P, R, r, h, k⟩ := q
 unfold gConsP at h
 split at h
 ·obtain ⟨v, us, rfl, r1, r2⟩ := r.inv
  refine ⟨v, us, rfl, F, η, _, _, R, r1, h, fun η' σ' H' h' e1 R1 => ⟨F, η', _, P, R1, r2.car e1.car, h', fun η'' σ'' H'' h'' e2 R2 => k _ _ _ h'' (e1.trans e2) R2⟩⟩
 ·cases h
def gTupP (n : Nat) (t : TGsp) : TGp := fun x η P => match x with
 | .tup xs => xs.length = n ∧ t xs η P
 | _ => False
theorem zg_tup {k n : Nat} {t : TGsp} (pf : PG X (.Tuple es k pos) (gTup X.K n (upGs X.K T t))) : PG X (.Tuple es k pos) (upG X.K T (gTupP n t)) := by
 refine PG.weak pf fun v σ H Q q => ?_
 obtain ⟨F, η, x, P, R, r, h, k⟩ := q
 unfold gTupP at h
 split at h
 ·obtain ⟨a, vs, rfl, t, r⟩ := r.tup_
  exact ⟨a, vs, rfl, t.sq, by rw [r.len]; exact h.1, F, η, _, P, R, r, h.2, k⟩
 ·cases h
def tAsgP (te : TEp) (g : TGp) : TSp := fun D η => te η fun x η1 => g x η1 D.nx
theorem z_asg {tg : Expr} {g : TGp} (he : PE X e (up X.K T te)) (hg : PG X tg (upG X.K T g)) (hs : swapsWithSole [tg] e pos.line X.env = pure false := by rfl) (hw : swappedStores [tg] e X.env = pure none := by rfl) (h1 : (assignEach [tg] X.env).map (·.2) = [assign tg X.env] := by rfl) : PS X (.Assign [tg] e pos) (upS X.K T (tAsgP te g)) := by
 refine PS.weak (ps_asg he hg hs hw h1) fun D σ H q => ?_
 obtain ⟨F, η, D', R, h, k1, k2, k3, k4⟩ := q
 exact ⟨F, η, _, R, h, fun x η1 v H1 h1 e1 R1 r => ⟨F, η1, x, _, R1, r, h1, fun η' σ' H' h' e2 R2 => k1 _ _ _ h' (e1.trans e2) R2⟩⟩
def gSubP (i : Nat) (ti : TEp) : TGp := fun x η P => (∃ o, η[i]? = some (Sl.ow o)) ∧ ti η fun k η1 => match η1[i]? with
 | some (.ow (.l xs)) => ∃ kk j, k = .int kk ∧ ixN xs.length kk = some j ∧ P (η1.set i (.ow (.l (xs.set j x))))
 | _ => False
theorem zg_sub {i : Nat} {ix : Expr} {ti : TEp} (ho : PE X o (tVar i)) (hi : PE X ix (up X.K T ti)) (pf : PG X (.Subscript o ix pos) (gSub (tVar i) (up X.K T ti) rSetL)) : PG X (.Subscript o ix pos) (upG X.K T (gSubP i ti)) := by
 refine PG.weak pf fun v σ H Q q => ?_
 obtain ⟨F, η, x, P, R, r, ⟨⟨oo, ho⟩, h⟩, k⟩ := q
 obtain ⟨b, hw, _, _⟩ := R.ow i _ ho
 refine ⟨_, hw, F, η, _, R, h, fun y η1 u H1 h1 e1 R1 r1 => ?_⟩
 split at h1
 ·rename_i xs e
  obtain ⟨kk, j, rfl, hj, h1⟩ := h1
  obtain ⟨a, s, ⟨vs, q1, q2⟩, nf⟩ := R1.ow i _ e
  rw [hw] at s; cases s
  refine ⟨b, vs, kk, j, rfl, r1.int_, q1, by rw [q2.len]; exact hj, ?_⟩
  have rr := r.car e1.car
  obtain ⟨W, E⟩ := R1.write (o' := .l (xs.set j x)) (u := .lst (vs.set j v)) e hw q1 nofun nofun nofun fun c => ⟨_, upd_same, (q2.set j rr).car c⟩
  exact k _ _ _ h1 (e1.trans E) W
 ·cases h1
end
section
variable {K : PySem.W.Frag} {T : List (Addr × Str)} {F : Addr → Prop} {σ : St} {η : EP'} {H H' : Hp} {i : Nat} {x : PV} {v : V} {a : Addr} {o : Ow}
def With (F : Addr → Prop) (a : Addr) : Addr → Prop := fun b => F b ∨ b = a
abbrev TFp := EP' → (List PV → EP' → Prop) → Prop
def upF (K : PySem.W.Frag) (T : List (Addr × Str)) (tp : TFp) : TE := fun σ H Q => ∃ F η P, Rs K T F σ η H ∧ tp η P ∧ ∀ xs η' a vs H', P xs η' → Ext σ η σ η' H H' → Rs K T (With F a) σ η' H' → Nw H a → ¬ F a → H' a = some (.lst vs) → Reps K (Oof (With F a) σ η') H' xs vs → Q (.ref a) H'
theorem Rs.shrink {F' : Addr → Prop} (R : Rs K T F σ η H) (h : ∀ b, F' b → F b) : Rs K T F' σ η H := by
 have m : ∀ b, Oof F' σ η b → Oof F σ η b := fun b z => z.elim (fun z => .inl (h b z)) .inr
 refine ⟨R.len, fun i x e => ?_, fun i o e => ?_, R.nd, fun a z => R.tr a (h a z), R.tb⟩
 ·obtain ⟨v, h1, h2⟩ := R.va i x e
  exact ⟨v, h1, h2.mono m⟩
 ·obtain ⟨a, h1, h2, h3⟩ := R.ow i o e
  exact ⟨a, h1, h2.mono m, fun z => h3 (h a z)⟩
theorem Rs.add {p : Addr} {o : HO} (R : Rs K T F σ η H) (hp : H p = none) (nt : ∀ ps, o ≠ .tbl ps) : Rs K T (With F p) σ η (upd H p o) := by
 have c : Car (Oof F σ η) (Oof (With F p) σ η) H (upd H p o) := fun b q n hb _ => ⟨(Same.new hp) b q hb, fun z => by
  rcases z with (z | z) | z
  ·exact n (.inl z)
  ·rw [z, hp] at hb; cases hb
  ·exact n (.inr z)⟩
 refine ⟨R.len, fun i x e => ?_, fun i o e => ?_, R.nd, fun a z => ?_, R.tb.ext (Same.new hp)⟩
 ·obtain ⟨v, h1, h2⟩ := R.va i x e
  exact ⟨v, h1, h2.car c⟩
 ·obtain ⟨a, h1, h2, h3⟩ := R.ow i o e
  have na : a ≠ p := fun z => R.trO a (.inr ⟨i, o, h1, e⟩) (Nw.of (by rw [z]; exact hp))
  refine ⟨a, h1, h2.car c (upd_ne na), fun z => z.elim h3 na⟩
 ·rcases z with z | z
  ·exact R.tr.same (Same.new hp) a z
  ·rw [z]; exact nw_same nt
theorem car_add {p : Addr} {o : HO} (hp : H p = none) : Car (Oof F σ η) (Oof (With F p) σ η) H (upd H p o) := fun b q n hb _ => ⟨(Same.new hp) b q hb, fun z => by
  rcases z with (z | z) | z
  ·exact n (.inl z)
  ·rw [z, hp] at hb; cases hb
  ·exact n (.inr z)⟩
theorem Rs.seto (R : Rs K T (With F a) σ η H) (nf : ¬ F a) (h : OwAt K (Oof (With F a) σ η) H a o) (hi : i < η.length) : Rs K T F (σ.set i (some (.ref a))) (η.set i (.ow o)) H := by
 have m : ∀ b, Oof F (σ.set i (some (.ref a))) (η.set i (.ow o)) b → Oof (With F a) σ η b := by
  rintro b (z | ⟨j, p, h1, h2⟩)
  ·exact .inl (.inl z)
  ·by_cases hj : j = i
   ·subst hj
    cases at_set h1
    exact .inl (.inr rfl)
   ·rw [ne_set hj] at h1 h2
    exact .inr ⟨j, p, h1, h2⟩
 have hs : i < σ.length := by rw [R.len]; exact hi
 refine ⟨by simpa using R.len, fun j y e => ?_, fun j p e => ?_, fun j k p p' b e1 e2 e3 e4 => ?_, fun b z => R.tr b (.inl z), R.tb⟩
 ·have hj : j ≠ i := fun z => by subst z; cases at_set e
  rw [ne_set hj] at e ⊢
  obtain ⟨w, h1, h2⟩ := R.va j y e
  exact ⟨w, h1, h2.mono m⟩
 ·by_cases hj : j = i
  ·subst hj
   cases at_set e
   exact ⟨a, by rw [List.getElem?_set_self hs], h.mono m, nf⟩
  ·rw [ne_set hj] at e ⊢
   obtain ⟨b, h1, h2, h3⟩ := R.ow j p e
   exact ⟨b, h1, h2.mono m, fun z => h3 (.inl z)⟩
 ·by_cases hj : j = i
  ·by_cases hk : k = i
   ·exact hj.trans hk.symm
   ·exfalso
    subst hj
    cases at_set e3
    rw [ne_set hk] at e2 e4
    obtain ⟨b, h1, h2, h3⟩ := R.ow k _ e2
    rw [e4] at h1; cases h1
    exact h3 (.inr rfl)
  ·by_cases hk : k = i
   ·exfalso
    subst hk
    cases at_set e4
    rw [ne_set hj] at e1 e3
    obtain ⟨b, h1, h2, h3⟩ := R.ow j _ e1
    rw [e3] at h1; cases h1
    exact h3 (.inr rfl)
   ·rw [ne_set hj] at e1 e3
    rw [ne_set hk] at e2 e4
    exact R.nd j k _ _ b e1 e2 e3 e4
theorem Ext.seto {σ0 : St} {η0 : EP'} {H0 : Hp} (e : Ext σ0 η0 σ η H0 H) (hn : Nw H0 a) (h0 : (0 : Nat) ≠ i) : Ext σ0 η0 (σ.set i (some (.ref a))) (η.set i (.ow o)) H0 H := by
 refine ⟨e.keep, e.live, fun b z => ?_, fun p q => ?_⟩
 rotate_left
 ·rw [ne_set h0] at q ⊢
  exact e.fst p q
 obtain ⟨j, p, h1, h2⟩ := z
 by_cases hj : j = i
 ·subst hj
  cases at_set h1
  exact .inr hn
 ·rw [ne_set hj] at h1 h2
  exact e.new b ⟨j, p, h1, h2⟩
end
section
variable {X : Cx} {T : List (Addr × Str)} {e o : Expr} {es : List Expr} {te ta tb : TEp} {t : TAp} {tf : TFp} {pos : Pos}
def tValP (tf : TFp) : TEp := fun η P => tf η fun xs η1 => P (.lst xs) η1
theorem z_val (h : PE X e (upF X.K T tf)) : PE X e (up X.K T (tValP tf)) := by
 refine PE.weak h fun σ H Q q => ?_
 obtain ⟨F, η, P, R, h, k⟩ := q
 refine ⟨F, η, _, R, h, fun xs η' a vs H' h1 e1 R1 hn nf hv r => ?_⟩
 refine k _ _ _ _ h1 e1 (R1.shrink fun b z => .inl z) ?_
 unfold Rep
 refine ⟨a, vs, rfl, fun z => ?_, hv, r.mono fun b z => z.elim (fun z => .inl (.inl z)) .inr⟩
 rcases z with z | ⟨j, p, h1, h2⟩
 ·exact nf z
 ·obtain ⟨b, q1, q2, q3⟩ := R1.ow j p h2
  rw [h1] at q1; cases q1
  exact q3 (.inr rfl)
def tLstFP (t : TAp) : TFp := fun η P => t η fun xs η1 => xs.length ≤ sizeLine ∧ P xs η1
theorem zf_lst (h : PA X es (upA X.K T t)) : PE X (.List es pos) (upF X.K T (tLstFP t)) := by
 refine PE.weak (pe_lst h) fun σ H Q q => ?_
 obtain ⟨F, η, P, R, h, k⟩ := q
 refine ⟨F, η, _, R, h, fun xs η1 vs H1 h1 e1 R1 r1' => ⟨by rw [r1'.len]; exact h1.1, fun p hp => ?_⟩⟩
 have hn : Nw H p := e1.nw (Nw.of hp)
 exact k xs η1 p vs _ h1.2 (e1.trans (.same (Same.new hp))) (R1.add hp nofun) hn (fun z => R.tr p z hn) upd_same (r1'.car (car_add hp))
def tSetFP (i : Nat) (tf : TFp) : TSp := fun D η => (0 : Nat) ≠ i ∧ tf η fun xs η1 => i < η1.length ∧ D.nx (η1.set i (.ow (.l xs)))
def tAppP (i : Nat) (te : TEp) : TSp := fun D η => (∃ xs, η[i]? = some (Sl.ow (.l xs))) ∧ te η fun x η1 => match η1[i]? with
 | some (.ow (.l xs)) => xs.length < sizeLine ∧ D.nx (η1.set i (.ow (.l (xs ++ [x]))))
 | _ => False
theorem z_app {i : Nat} {K0 : PySem.W.Frag} (hK : X.K = K0) (pf : PS X (.Expr o pos) (tDrop (tBM K0 "list" rAppend (tVar i) (tCons (up K0 T te) tNil)))) : PS X (.Expr o pos) (upS K0 T (tAppP i te)) := by
 subst hK
 refine PS.weak pf fun D σ H q => ?_
 obtain ⟨F, η, D', R, ⟨⟨oo, ho⟩, h⟩, k1, k2, k3, k4⟩ := q
 obtain ⟨b, hw, q0, _⟩ := R.ow i _ ho
 refine ⟨_, hw, ?_, F, η, _, R, h, fun y η1 u H1 h1 e1 R1 r1 => ?_⟩
 ·obtain ⟨vs, q1, q2⟩ := q0; exact .inl ⟨rfl, vs, SqL.of q1⟩
 ·split at h1
  ·rename_i xs e
   obtain ⟨a, s, ⟨vs, q1, q2⟩, nf⟩ := R1.ow i _ e
   rw [hw] at s; cases s
   refine ⟨b, vs, u, rfl, rfl, q1, by rw [q2.len]; exact h1.1, ?_⟩
   obtain ⟨W, E⟩ := R1.write (o' := .l (xs ++ [y])) (u := .lst (vs ++ [u])) e hw q1 nofun nofun nofun fun c => ⟨_, upd_same, (q2.app (.cons r1 .nil)).car c⟩
   exact k1 _ _ _ h1.2 (e1.trans E) W
  ·cases h1
end
section
variable {X : Cx} {T : List (Addr × Str)} {a b e o : Expr} {es : List Expr} {te ta tb : TEp} {t : TAp} {tf : TFp} {pos : Pos}
def strRep (x : Str) (n : Nat) : Str := ⟨((List.replicate n x.cps.toList).flatten).toArray⟩
theorem fold_app (c : Array Nat) : ∀ (n : Nat) (acc : Array Nat), (List.replicate n c).foldl (· ++ ·) acc = acc ++ ((List.replicate n c.toList).flatten).toArray
 | 0, acc => by simp
 | n + 1, acc => by
  rw [List.replicate_succ, List.foldl_cons, fold_app c n, List.replicate_succ, List.flatten_cons]
  apply Array.toList_inj.mp
  simp
theorem strRep_len (x : Str) (n : Nat) : (strRep x n).length = n * x.length := by
 show ((List.replicate n x.cps.toList).flatten).toArray.size = _
 rw [List.size_toArray, PyProof.Rows.lm_len_rep_flat]
 simp [Str.length]
def rMulS : R2p := fun x y P => match x, y with
 | .str z, .int n => 1 ≤ n ∧ n ≤ 1000 ∧ z.length ≤ 1000 ∧ P (.str (strRep z n.toNat))
 | _, _ => False
theorem zo_mulS : OpR X (binaryOp .Mult) (r2 X.K rMulS) := by
 intro pins s σ H x y v u Q I rx ry h
 obtain ⟨O, px, py, P, tr, hx, hy, h, k⟩ := h
 unfold rMulS at h
 split at h
 ·rename_i z n
  obtain ⟨h1, h2, h3, h⟩ := h
  cases hx.str_
  cases hy.int_
  obtain ⟨t, rfl⟩ := rx
  obtain ⟨t', rfl⟩ := ry
  have hn : ¬ n < 1 := by omega
  have hz : z.length * n.toNat ≤ 1000000 := by
   have := Nat.mul_le_mul h3 (show n.toNat ≤ 1000 by omega)
   omega
  refine PySem.P.mul_str (by rw [decide_eq_false (by omega), decide_eq_false (by omega)]; rfl) (fun _ _ => ?_) (fun _ _ => ?_) ?_
  ·have q : (1000 : Int) ≤ (2 ^ 63 - 1) / n := by
    apply Int.le_ediv_of_mul_le (by omega)
    omega
   omega
  ·exact decide_eq_false (by rw [sizeLine_eq]; omega)
  ·rw [if_neg hn]
   split
   ·rename_i hc
    have e : strRep z n.toNat = z := by
     rw [Bool.or_eq_true] at hc
     rcases hc with hc | hc
     ·have : n = 1 := by simpa using hc
      subst this
      show (⟨((List.replicate 1 z.cps.toList).flatten).toArray⟩ : Str) = z
      simp
     ·have h0 : z.length = 0 := by simpa using hc
      have : z.cps = #[] := by simpa [Str.length] using h0
      show (⟨((List.replicate _ z.cps.toList).flatten).toArray⟩ : Str) = z
      obtain ⟨c⟩ := z
      simp at this
      subst this
      simp
    exact ⟨.str z, H, I, ⟨_, rfl⟩, k.str (by rw [e] at h; exact h)⟩
   ·have e : (⟨(List.replicate n.toNat z.cps).foldl (· ++ ·) #[]⟩ : Str) = strRep z n.toNat := by
     unfold strRep
     rw [fold_app]
     simp
    rw [e]
    refine ⟨?_, .str _, H, I.tok _, ⟨_, rfl⟩, k.str h⟩
    rw [strRep_len, sizeLine_eq, Nat.mul_comm]; omega
 ·cases h
def rIxP : R2p := fun x y P => match x, y with
 | .lst xs, .int i => ∃ v, atI xs i = some v ∧ P v
 | .tup xs, .int i => ∃ v, atI xs i = some v ∧ P v
 | .scr ns, .int i => ∃ v, atI ns i = some v ∧ P (.int v)
 | .str z, .int i => z.length ≤ sizeLine ∧ ∃ c, atI z.cps.toList i = some c ∧ P (.str ⟨#[c]⟩)
 | _, _ => False
theorem atI_reps {K : PySem.W.Frag} {O H} {xs : List PV} {vs : List V} {i : Int} {x : PV} (h : Reps K O H xs vs) (e : atI xs i = some x) : ∃ v, atI vs i = some v ∧ Rep K O H x v := by
 unfold atI at e ⊢
 rw [h.len]
 cases q : ixN xs.length i with
 | none => rw [q] at e; cases e
 | some j =>
  rw [q] at e
  obtain ⟨v, h1, h2⟩ := h.get (i := j) (x := x) e
  exact ⟨v, h1, h2⟩
theorem IxR.weak {r r' : R2} (h : IxR X r) (w : ∀ x y H Q, r' x y H Q → r x y H Q) : IxR X r' := fun value slice pins s σ H x y v u Q I rx ry q hs => h value slice pins s σ H x y v u Q I rx ry (w _ _ _ _ q) hs
theorem zx_ix : IxR X (r2 X.K rIxP) := by
 refine IxR.weak (ix_seq (X := X)) fun x y H Q h => ?_
 obtain ⟨O, px, py, P, tr, hx, hy, h, k⟩ := h
 unfold rIxP at h
 split at h
 ·obtain ⟨w, e, h⟩ := h
  obtain ⟨a, vs, rfl, n, q, rr⟩ := hx.lst_
  obtain ⟨v, e1, r1⟩ := atI_reps rr e
  exact .inl ⟨a, vs, _, v, rfl, hy.int_, SqL.of q, e1, k _ _ _ h (Same.refl _) r1⟩
 ·obtain ⟨w, e, h⟩ := h
  obtain ⟨a, vs, rfl, q, rr⟩ := hx.tup_
  obtain ⟨v, e1, r1⟩ := atI_reps rr e
  exact .inr (.inl ⟨a, vs, _, v, rfl, hy.int_, q.sq, e1, k _ _ _ h (Same.refl _) r1⟩)
 ·obtain ⟨w, e, h⟩ := h
  obtain ⟨a, o, rfl, n, q⟩ := hx.scr_
  refine .inl ⟨a, _, _, .int w, rfl, hy.int_, .inl (.inr ⟨o, q⟩), ?_, k.int h⟩
  unfold atI at e ⊢
  rw [List.length_map]
  cases q : ixN _ _ with
  | none => rw [q] at e; cases e
  | some j =>
   rw [q] at e
   show (List.map V.int _)[j]? = _
   rw [List.getElem?_map, show _[j]? = some w from e]; rfl
 ·obtain ⟨hz, c, e, h⟩ := h
  cases hx.str_
  exact .inr (.inr ⟨_, _, c, rfl, hy.int_, hz, e, k.str h⟩)
 ·cases h
theorem z_ix (ha : PE X a (up X.K T ta)) (hb : PE X b (up X.K T tb)) (hs : PlainIx b := by exact fun _ _ => rfl) : PE X (.Subscript a b pos) (up X.K T (tOpP rIxP ta tb)) := by
 refine PE.weak (pe_ix zx_ix ha hb hs) fun σ H Q q => ?_
 obtain ⟨F, η, P, R, h, k⟩ := q
 refine ⟨F, η, _, R, h, fun x η1 v H1 h1 e1 R1 r1' => ⟨F, η1, _, R1, h1, fun y η2 w H2 h2 e2 R2' rw' => ?_⟩⟩
 exact ⟨Oof F σ η2, x, y, _, R2'.trO, r1'.car e2.car, rw', h2, fun z u H3 pz s rz => k z η2 u H3 pz ((e1.trans e2).trans (.same s)) (R2'.same s) rz⟩
def tIxOP (i : Nat) (ti : TEp) : TEp := fun η P => (∃ o, η[i]? = some (Sl.ow o)) ∧ ti η fun k η1 => match η1[i]? with
 | some (.ow (.l xs)) => ∃ kk v, k = .int kk ∧ atI xs kk = some v ∧ P v η1
 | _ => False
theorem z_ixO {i : Nat} (ho : PE X o (tVar i)) (hb : PE X b (up X.K T tb)) (hs : PlainIx b := by exact fun _ _ => rfl) : PE X (.Subscript o b pos) (up X.K T (tIxOP i tb)) := by
 refine PE.weak (pe_ix ix_list ho hb hs) fun σ H Q q => ?_
 obtain ⟨F, η, P, R, ⟨⟨oo, ho⟩, h⟩, k⟩ := q
 obtain ⟨b, hw, q0, _⟩ := R.ow i _ ho
 refine ⟨_, hw, F, η, _, R, h, fun y η1 u H1 h1 e1 R1 r1 => ?_⟩
 split at h1
 ·rename_i xs e
  obtain ⟨kk, v, rfl, hv, h1⟩ := h1
  obtain ⟨a, s, ⟨vs, q1, q2⟩, nf⟩ := R1.ow i _ e
  rw [hw] at s; cases s
  obtain ⟨w, e1', r1'⟩ := atI_reps q2 hv
  exact ⟨b, vs, kk, w, rfl, r1.int_, SqL.of q1, e1', k _ _ _ _ h1 e1 R1 r1'⟩
 ·cases h1
abbrev TOp := EP' → (Option Int → EP' → Prop) → Prop
def upO (K : PySem.W.Frag) (T : List (Addr × Str)) (tp : TOp) : TO := fun σ H Q => ∃ F η P, Rs K T F σ η H ∧ tp η P ∧ ∀ x η' H', P x η' → Ext σ η σ η' H H' → Rs K T F σ η' H' → Q x H'
def tNoPartP : TOp := fun η P => P none η
def tPartP (t : TEp) : TOp := fun η P => t η fun x η1 => match x with
 | .int i => P (some i) η1
 | _ => False
theorem PO.weak {e : Option Expr} {t t' : TO} (h : PO X e t) (w : ∀ σ H Q, t' σ H Q → t σ H Q) : PO X e t' := ⟨fun pins s σ H Q I q => h.run pins s σ H Q I (w _ _ _ q)⟩
theorem zp_none : PO X none (upO X.K T tNoPartP) := PO.weak po_none fun σ H Q q => by
 obtain ⟨F, η, P, R, h, k⟩ := q
 exact k _ _ _ h .refl R
theorem zp_some (h : PE X e (up X.K T te)) : PO X (some e) (upO X.K T (tPartP te)) := PO.weak (po_some h) fun σ H Q q => by
 obtain ⟨F, η, P, R, h, k⟩ := q
 refine ⟨F, η, _, R, h, fun x η1 v H1 h1 e1 R1 r => ?_⟩
 split at h1
 ·exact ⟨_, r.int_, k _ _ _ h1 e1 R1⟩
 ·cases h1
def cutP {α : Type} (xs : List α) (lo hi : Option Int) : List α := (xs.drop (HT.sIx xs.length 0 lo)).take (HT.sIx xs.length xs.length hi - HT.sIx xs.length 0 lo)
theorem cut_reps {K : PySem.W.Frag} {O H} {xs : List PV} {vs : List V} {lo hi} (h : Reps K O H xs vs) : Reps K O H (cutP xs lo hi) (cutV vs lo hi) := by
 unfold cutP cutV
 rw [h.len]
 exact (h.drop _).take _
def rSlP : PV → Option Int → Option Int → (PV → Prop) → Prop := fun x lo hi P => match x with
 | .lst xs => P (.lst (cutP xs lo hi))
 | .scr ns => P (.lst ((cutP ns lo hi).map .int))
 | .str z => z.length ≤ sizeLine ∧ P (.str (cutS z lo hi))
 | .tup xs => ¬ (HT.sIx xs.length 0 lo = 0 ∧ HT.sIx xs.length xs.length hi = xs.length) ∧ P (.tup (cutP xs lo hi))
 | _ => False
theorem SlR.weak {r r' : V → Option Int → Option Int → Hp → VK → Prop} (h : SlR X r) (w : ∀ x lo hi H Q, r' x lo hi H Q → r x lo hi H Q) : SlR X r' := fun pins s σ H x v vl vu lo hi sl Q I rx hs pl pu q => h pins s σ H x v vl vu lo hi sl Q I rx hs pl pu (w _ _ _ _ _ q)
theorem ints_reps {K : PySem.W.Frag} {O H} : ∀ ns : List Int, Reps K O H (ns.map .int) (ns.map V.int)
 | [] => .nil
 | _ :: r => .cons rep_int (ints_reps r)
theorem cut_ints (ns : List Int) (lo hi) : cutV (ns.map V.int) lo hi = (cutP ns lo hi).map V.int := by
 unfold cutP cutV
 rw [List.length_map, ← List.map_drop, ← List.map_take]
theorem zl_sl : SlR X (fun x lo hi H Q => ∃ O px P, Trk O H ∧ Rep X.K O H px x ∧ rSlP px lo hi P ∧ Out X.K O H P Q) := by
 refine SlR.weak ((sl_list (X := X)).or (sl_str.or sl_tup)) fun x lo hi H Q h => ?_
 obtain ⟨O, px, P, tr, hx, h, k⟩ := h
 unfold rSlP at h
 split at h
 ·obtain ⟨a, vs, rfl, n, q, rr⟩ := hx.lst_
  exact .inl ⟨a, vs, rfl, SqL.of q, fun p hp => k.newL h tr (cut_reps rr) hp⟩
 ·obtain ⟨a, o, rfl, n, q⟩ := hx.scr_
  refine .inl ⟨a, _, rfl, .inl (.inr ⟨o, q⟩), fun p hp => ?_⟩
  rw [cut_ints]
  exact k.newL h tr (ints_reps _) hp
 ·cases hx.str_
  exact .inr (.inl ⟨_, rfl, h.1, k.str h.2⟩)
 ·obtain ⟨a, vs, rfl, q, rr⟩ := hx.tup_
  exact .inr (.inr ⟨a, vs, rfl, q.sq, by rw [rr.len]; exact h.1, fun p hp => k.newT h.2 tr (cut_reps rr) hp⟩)
 ·cases h
def tSliceP (te : TEp) (tl th : TOp) : TEp := fun η P => te η fun x η1 => tl η1 fun l η2 => th η2 fun u η3 => rSlP x l u fun z => P z η3
theorem z_slice {lo hi : Option Expr} {tl th : TOp} {p2 : Pos} (he : PE X e (up X.K T te)) (hl : PO X lo (upO X.K T tl)) (hu : PO X hi (upO X.K T th)) : PE X (.Subscript e (.Slice lo hi none p2) pos) (up X.K T (tSliceP te tl th)) := by
 refine PE.weak (pe_slice zl_sl he hl hu) fun σ H Q q => ?_
 obtain ⟨F, η, P, R, h, k⟩ := q
 refine ⟨F, η, _, R, h, fun x η1 v H1 h1 e1 R1 r1' => ⟨F, η1, _, R1, h1, fun l η2 H2 h2 e2 R2' => ⟨F, η2, _, R2', h2, fun u η3 H3 h3 e3 R3 => ?_⟩⟩⟩
 exact ⟨Oof F σ η3, x, _, R3.trO, (r1'.car e2.car).car e3.car, h3, fun z u H4 pz s rz => k z η3 u H4 pz (((e1.trans e2).trans e3).trans (.same s)) (R3.same s) rz⟩
def strsOf : List PV → Option (List Str)
 | [] => some []
 | .str b :: r => (strsOf r).map (b :: ·)
 | _ => none
theorem strsOf_rep {K : PySem.W.Frag} {O H} : ∀ {xs : List PV} {bs : List Str} {vs : List V}, strsOf xs = some bs → Reps K O H xs vs → vs = bs.map V.str
 | [], _, _, e, h => by unfold strsOf at e; cases e; exact h.inv0
 | x :: xs, _, _, e, h => by
  obtain ⟨v, us, rfl, r, t⟩ := h.inv
  cases x <;> unfold strsOf at e <;> try (cases e)
  cases q : strsOf xs with
  | none => rw [q] at e; cases e
  | some r' =>
   rw [q] at e; cases e
   rw [r.str_, strsOf_rep q t]; rfl
def tJoinP (ta tb : TEp) : TEp := fun η P => ta η fun x η1 => (∃ z, x = .str z) ∧ tb η1 fun y η2 => match x, y with
 | .str z, .lst xs => ∃ ys, strsOf xs = some ys ∧ (ys.map (·.length)).sum + ys.length * z.length ≤ 16777216 ∧ P (.str (Txt.join z ys)) η2
 | _, _ => False
theorem z_join {K0 : PySem.W.Frag} (hK : X.K = K0)
  (pf : PE X e (tM1 (fun x xs H Q => ∃ a p, ∃ ys : List Str, x = .str a ∧ xs = [.ref p] ∧ (SqL K0 H p (ys.map V.str) ∨ SqT K0 H p (ys.map V.str)) ∧ (ys.map (·.length)).sum + ys.length * a.length ≤ 16777216 ∧ Q (.str (Txt.join a ys)) H) (up K0 T ta) (up K0 T tb))) : PE X e (up K0 T (tJoinP ta tb)) := by
 subst hK
 refine PE.weak pf fun σ H Q q => ?_
 obtain ⟨F, η, P, R, h, k⟩ := q
 refine ⟨F, η, _, R, h, fun x η1 v H1 h1 e1 R1 r1' => ?_⟩
 obtain ⟨⟨z, rfl⟩, h1⟩ := h1
 cases r1'.str_
 refine ⟨⟨z, rfl⟩, F, η1, _, R1, h1, fun y η2 w H2 h2 e2 R2' rw' => ?_⟩
 split at h2
 ·rename_i z' xs q
  cases q
  obtain ⟨ys, e, hz, h2⟩ := h2
  obtain ⟨p, vs, rfl, n, q, rr⟩ := rw'.lst_
  have := strsOf_rep e rr
  subst this
  exact ⟨_, p, ys, rfl, rfl, .inl (SqL.of q), hz, k _ _ _ _ h2 (e1.trans e2) R2' rep_str⟩
 ·cases h2
end
def Itr8 (K : PySem.W.Frag) (O : Addr → Prop) (J : It) (xs : List PV) (H : Hp) : Prop :=
 ∀ O' H', Trk O' H' → Car O O' H H' → (∀ b, ¬ Nw H b → ¬ Nw H' b) → ∀ i : Nat, (∀ x, xs[i]? = some x → J.go i H' ∧ ∀ v H'', J.yld i H' v H'' → Same H' H'' ∧ Rep K O' H'' x v) ∧ (xs.length = i → J.stop i H')
abbrev TIp := EP' → (List PV → EP' → Prop) → Prop
def upI (K : PySem.W.Frag) (T : List (Addr × Str)) (tp : TIp) : TI := fun σ H R => ∃ F η P, Rs K T F σ η H ∧ tp η P ∧ ∀ xs η' J H', P xs η' → Ext σ η σ η' H H' → Rs K T F σ η' H' → Itr8 K (Oof F σ η') J xs H' → R J H'
section
variable {X : Cx} {T : List (Addr × Str)} {a b e o tg : Expr} {es : List Expr} {te ta tb : TEp} {t : TAp} {tf : TFp} {pos : Pos}
theorem PI.weak {t t' : TI} (h : PI X tg e t) (w : ∀ σ H Q, t' σ H Q → t σ H Q) : PI X tg e t' := ⟨fun pins s σ H Q I q => h.run pins s σ H Q I (w _ _ _ q)⟩
def iListP (te : TEp) : TIp := fun η P => te η fun x η1 => match x with
 | .lst xs => P xs η1
 | .scr ns => P (ns.map .int) η1
 | _ => False
def iTupP (te : TEp) : TIp := fun η P => te η fun x η1 => match x with
 | .tup xs => P xs η1
 | _ => False
def iStrP (te : TEp) : TIp := fun η P => te η fun x η1 => match x with
 | .str z => P (z.cps.toList.map fun c => .str ⟨#[c]⟩) η1
 | _ => False
def rangeP (lo : Int) (n : Nat) : List PV := (List.range n).map fun (i : Nat) => .int (lo + i)
def iRng1P (te : TEp) : TIp := fun η P => te η fun x η1 => match x with
 | .int j => -(2 ^ 62) ≤ j ∧ j < 2 ^ 62 ∧ P (rangeP 0 j.toNat) η1
 | _ => False
theorem it_list {K : PySem.W.Frag} {O H} {a : Addr} {xs : List PV} {vs : List V} (n : ¬ O a) (h : H a = some (.lst vs)) (r : Reps K O H xs vs) : Itr8 K O (Itl K a) xs H := fun O' H' tr c _ i => by
 have h' := (c a _ n h nofun).1
 have r' := r.car c
 have uniq : ∀ ys, SqL K H' a ys → ys = vs ∨ True := fun _ _ => .inr trivial
 refine ⟨fun x e => ?_, fun e => ⟨vs, SqL.of h', by rw [r'.len]; exact Nat.le_of_eq e⟩⟩
 obtain ⟨v, e1, r1⟩ := r'.get e
 refine ⟨⟨vs, v, SqL.of h', e1⟩, fun w H'' y => ?_⟩
 obtain ⟨e2, y⟩ := y
 subst e2
 have := y vs (SqL.of h')
 rw [e1] at this; cases this
 exact ⟨Same.refl _, r1⟩
theorem zi_list (h : PE X e (up X.K T te)) : PI X tg e (upI X.K T (iListP te)) := by
 refine PI.weak (pi_list h) fun σ H Q q => ?_
 obtain ⟨F, η, P, R, h, k⟩ := q
 refine ⟨F, η, _, R, h, fun x η1 v H1 h1 e1 R1 r1 => ?_⟩
 split at h1
 ·obtain ⟨a, vs, rfl, n, q, rr⟩ := r1.lst_
  exact ⟨a, rfl, ⟨vs, SqL.of q⟩, k _ _ _ _ h1 e1 R1 (it_list n q rr)⟩
 ·rename_i ns
  obtain ⟨a, o, rfl, n, q⟩ := r1.scr_
  refine ⟨a, rfl, ⟨_, .inl (.inr ⟨o, q⟩)⟩, k _ _ _ _ h1 e1 R1 fun O' H' tr c _ i => ?_⟩
  have h' : SqL X.K H' a (ns.map V.int) := .inl (.inr ⟨o, (c a _ n q nofun).1⟩)
  refine ⟨fun x e => ?_, fun e => ⟨_, h', by simp at e ⊢; omega⟩⟩
  have e' : (ns.map V.int)[i]? = (ns[i]?).map V.int := List.getElem?_map
  rw [List.getElem?_map] at e
  cases q : ns[i]? with
  | none => rw [q] at e; cases e
  | some j =>
   rw [q] at e e'; cases e
   refine ⟨⟨_, _, h', e'⟩, fun w H'' y => ?_⟩
   obtain ⟨e2, y⟩ := y
   subst e2
   have := y _ h'
   rw [e'] at this; cases this
   exact ⟨Same.refl _, rep_int⟩
 ·cases h1
theorem TupAt.inj_car {K : PySem.W.Frag} {O O' H H'} {a : Addr} {vs : List V} (t : TupAt K O H a vs) (c : Car O O' H H') : SqT K H' a vs := (t.car c).sq
theorem zi_tup (h : PE X e (up X.K T te)) : PI X tg e (upI X.K T (iTupP te)) := by
 refine PI.weak (pi_tup h) fun σ H Q q => ?_
 obtain ⟨F, η, P, R, h, k⟩ := q
 refine ⟨F, η, _, R, h, fun x η1 v H1 h1 e1 R1 r1 => ?_⟩
 split at h1
 ·obtain ⟨a, vs, rfl, q, rr⟩ := r1.tup_
  refine ⟨a, rfl, ⟨vs, q.sq⟩, k _ _ _ _ h1 e1 R1 fun O' H' tr c _ i => ?_⟩
  have h' := q.inj_car c
  have r' := rr.car c
  refine ⟨fun x e => ?_, fun e => ⟨vs, h', by rw [r'.len]; exact Nat.le_of_eq e⟩⟩
  obtain ⟨v, e1, r1⟩ := r'.get e
  refine ⟨⟨vs, v, h', e1⟩, fun w H'' y => ?_⟩
  obtain ⟨e2, y⟩ := y
  subst e2
  have := y vs h'
  rw [e1] at this; cases this
  exact ⟨Same.refl _, r1⟩
 ·cases h1
theorem zi_str (h : PE X e (up X.K T te)) : PI X tg e (upI X.K T (iStrP te)) := by
 refine PI.weak (pi_str h) fun σ H Q q => ?_
 obtain ⟨F, η, P, R, h, k⟩ := q
 refine ⟨F, η, _, R, h, fun x η1 v H1 h1 e1 R1 r1 => ?_⟩
 split at h1
 ·rename_i z
  cases r1.str_
  refine ⟨z, rfl, k _ _ _ _ h1 e1 R1 fun O' H' tr c _ i => ⟨fun x e => ?_, fun e => ?_⟩⟩
  ·rw [List.getElem?_map] at e
   cases q : z.cps.toList[i]? with
   | none => rw [q] at e; cases e
   | some c0 =>
    rw [q] at e; cases e
    have q' : z.cps[i]? = some c0 := by rw [← Array.getElem?_toList]; exact q
    refine ⟨(Array.getElem?_eq_some_iff.mp q').1, fun w H'' y => ?_⟩
    obtain ⟨e2, c1, e3, rfl⟩ := y
    subst e2
    rw [q'] at e3; cases e3
    exact ⟨Same.refl _, rep_str⟩
  ·show z.cps.size ≤ i
   simp at e; omega
 ·cases h1
theorem it_range {K : PySem.W.Frag} {O H} {lo : Int} {n : Nat} : Itr8 K O (Itr lo n) (rangeP lo n) H := fun O' H' tr c _ i => by
 refine ⟨fun x e => ?_, fun e => ?_⟩
 ·unfold rangeP at e
  rw [List.getElem?_map] at e
  by_cases hi : i < n
  ·rw [List.getElem?_range hi] at e
   cases e
   refine ⟨hi, fun w H'' y => ?_⟩
   obtain ⟨e2, rfl⟩ := y
   subst e2
   exact ⟨Same.refl _, rep_int⟩
  ·rw [List.getElem?_eq_none (by simpa using hi)] at e; cases e
 ·show n ≤ i
  simp [rangeP] at e; omega
theorem zi_range1 {p : Pos} (hg : Gl X "range") (hm : X.mg "range" = none) (ha : PE X a (up X.K T te)) (hs : starEach [a] X.env = [(false, eval a X.env)] := by rfl) : PI X tg (.Call (.Name "range" p) [a] [] pos) (upI X.K T (iRng1P te)) := by
 refine PI.weak (pi_range1 hg hm (pa_cons ha pa_nil hs) hs) fun σ H Q q => ?_
 obtain ⟨F, η, P, R, h, k⟩ := q
 refine ⟨F, η, _, R, h, fun x η1 v H1 h1 e1 R1 r1 => ?_⟩
 split at h1
 ·exact ⟨_, by rw [r1.int_], h1.1, h1.2.1, k _ _ _ _ h1.2.2 e1 R1 it_range⟩
 ·cases h1
def iRng2P (te tb : TEp) : TIp := fun η P => te η fun x η1 => tb η1 fun y η2 => match x, y with
 | .int i, .int j => -(2 ^ 62) ≤ i ∧ i < 2 ^ 62 ∧ -(2 ^ 62) ≤ j ∧ j < 2 ^ 62 ∧ P (rangeP i (j - i).toNat) η2
 | _, _ => False
def tForP (ti : TIp) (g : TGp) (tb : TSp) : TSp := fun D η => ti η fun xs η1 => ∃ Inv : Nat → EP' → Prop, Inv 0 η1 ∧
 (∀ i x η2, xs[i]? = some x → Inv i η2 → g x η2 fun η3 => tb { D with nx := Inv (i + 1), ct := Inv (i + 1), bk := D.nx } η3) ∧ (∀ η2, Inv xs.length η2 → D.nx η2)
theorem z_for {iter : Expr} {body : List Stmt} {ti : TIp} {g : TGp} {tb : TSp} (hp : PassesOwn (model X.prog X.w) X.A X.env X.xe) (hc : X.calm = true) (hi : PI X tg iter (upI X.K T ti)) (hg : PG X tg (upG X.K T g)) (hb : PSs X body (upS X.K T tb))
  (hs : ∀ x, foldedSetIterable iter X.env x = pure x := by intro _; rfl) : PS X (.For tg iter body [] pos) (upS X.K T (tForP ti g tb)) := by
 refine PS.weak (ps_for hp hc hi hg hb hs) fun D σ H q => ?_
 obtain ⟨F, η, D', R, h, k1, k2, k3, k4⟩ := q
 refine ⟨F, η, _, R, h, fun xs η1 J H1 h1 e1 R1 hJ => ?_⟩
 obtain ⟨Inv, i0, step, fin⟩ := h1
 refine ⟨fun i m σ2 H2 => m = xs.length - i ∧ i ≤ xs.length ∧ ∃ η2, Inv i η2 ∧ Rs X.K T F σ2 η2 H2 ∧ Ext σ η1 σ2 η2 H1 H2, ⟨_, rfl, Nat.zero_le _, η1, i0, R1, .refl⟩, ?_⟩
 rintro i m σ2 H2 ⟨rfl, hi, η2, p, R2, e2⟩
 have it := hJ (Oof F σ2 η2) H2 R2.trO e2.car e2.live i
 by_cases hlt : i < xs.length
 ·refine .inr ⟨(it.1 xs[i] (by simp [hlt])).1, fun σ3 H3 => ∃ η3, Inv (i + 1) η3 ∧ Rs X.K T F σ3 η3 H3 ∧ Ext σ η1 σ3 η3 H1 H3, fun σ' H' ⟨η3, p', R', e'⟩ => ⟨xs.length - (i + 1), by omega, rfl, hlt, η3, p', R', e'⟩, fun v H3 y => ?_⟩
  obtain ⟨s, rep⟩ := (it.1 xs[i] (by simp [hlt])).2 v H3 y
  refine ⟨F, η2, _, _, R2.same s, rep, step i _ η2 (by simp [hlt]) p, fun η4 σ4 H4 h4 e4 R4 => ?_⟩
  have E := (e2.trans (.same s)).trans e4
  exact ⟨F, η4, _, R4, h4, fun η5 σ5 H5 h5 e5 R5 => ⟨η5, h5, R5, E.trans e5⟩, fun η5 σ5 H5 h5 e5 R5 => k1 _ _ _ h5 ((e1.trans E).trans e5) R5, fun η5 σ5 H5 h5 e5 R5 => ⟨η5, h5, R5, E.trans e5⟩, fun x η5 σ5 v H5 h5 e5 R5 r5 => k4 _ _ _ _ _ h5 ((e1.trans E).trans e5) R5 r5⟩
 ·have e : i = xs.length := by omega
  subst e
  exact .inl ⟨it.2 rfl, k1 _ _ _ (fin η2 p) (e1.trans e2) R2⟩
end
def wipeP (η : EP') : List Nat → EP'
 | [] => η
 | v :: vs => (wipeP η vs).set v .no
theorem wipeP_len (η : EP') : ∀ vs : List Nat, (wipeP η vs).length = η.length
 | [] => rfl
 | v :: vs => by unfold wipeP; rw [List.length_set, wipeP_len η vs]
theorem wipeP_out {η : EP'} {i : Nat} : ∀ {vs : List Nat}, i ∉ vs → (wipeP η vs)[i]? = η[i]?
 | [], _ => rfl
 | v :: vs, h => by
  unfold wipeP
  rw [List.getElem?_set_ne (fun e => h (by simp [e])), wipeP_out fun z => h (by simp [z])]
theorem wipeP_in {η : EP'} {i : Nat} {y : Sl} : ∀ {vs : List Nat}, i ∈ vs → (wipeP η vs)[i]? = some y → y = .no
 | v :: vs, h, e => by
  unfold wipeP at e
  by_cases q : i = v
  ·subst q; exact at_set e
  ·rw [ne_set q] at e
   exact wipeP_in (by simpa [q] using h) e
theorem wipe_in {σ : St} {i : Nat} : ∀ {vs : List Nat}, i ∈ vs → (wipe σ vs)[i]? = if i < σ.length then some none else none
 | v :: vs, h => by
  unfold wipe
  by_cases q : i = v
  ·subst q
   by_cases hi : i < σ.length
   ·rw [if_pos hi, List.getElem?_set_self (by rw [wipe_length]; exact hi)]
   ·rw [if_neg hi, List.getElem?_eq_none (by rw [List.length_set, wipe_length]; omega)]
  ·rw [ne_set q]
   exact wipe_in (by simpa [q] using h)
theorem wipe_set {σ : St} {i : Nat} {v : Option V} {vs : List Nat} (h : i ∈ vs) : wipe (σ.set i v) vs = wipe σ vs := by
 apply List.ext_getElem?
 intro j
 by_cases hj : j ∈ vs
 ·rw [wipe_in hj, wipe_in hj, List.length_set]
 ·rw [wipe_out hj, wipe_out hj, ne_set fun e => hj (by rw [e]; exact h)]
theorem wipe_set_all {σ : St} {vs : List Nat} : L2.wipe (L2.wipe σ vs) vs = L2.wipe σ vs := by
 apply List.ext_getElem?
 intro j
 by_cases hj : j ∈ vs
 ·rw [wipe_in hj, wipe_in hj, wipe_length]
 ·rw [wipe_out hj]
theorem wipe_agree {σ σ' : St} {vs : List Nat} (h : wipe σ' vs = wipe σ vs) : σ'.length = σ.length ∧ ∀ j, j ∉ vs → σ'[j]? = σ[j]? := by
 refine ⟨by rw [← wipe_length σ' vs, h, wipe_length], fun j hj => ?_⟩
 rw [← wipe_out (σ := σ') hj, h, wipe_out hj]
section
variable {K : PySem.W.Frag} {T : List (Addr × Str)} {F : Addr → Prop} {σ σ' : St} {η : EP'} {H H' : Hp} {vs : List Nat}
theorem own_wipe (ag : ∀ j, j ∉ vs → σ'[j]? = σ[j]?) {b : Addr} (z : IsOwn σ' (wipeP η vs) b) : IsOwn σ η b := by
 obtain ⟨j, p, h1, h2⟩ := z
 by_cases hj : j ∈ vs
 ·cases wipeP_in hj h2
 ·rw [wipeP_out hj] at h2
  rw [ag j hj] at h1
  exact ⟨j, p, h1, h2⟩
theorem Rs.wipe (R : Rs K T F σ η H) (hl : σ'.length = σ.length) (ag : ∀ j, j ∉ vs → σ'[j]? = σ[j]?) : Rs K T F σ' (wipeP η vs) H := by
 have m : ∀ b, Oof F σ' (wipeP η vs) b → Oof F σ η b := Oof_mono fun b z => own_wipe ag z
 refine ⟨by rw [hl, R.len, wipeP_len], fun j y e => ?_, fun j o e => ?_, fun j k o o' a e1 e2 e3 e4 => ?_, R.tr, R.tb⟩
 ·have hj : j ∉ vs := fun z => nomatch wipeP_in z e
  rw [wipeP_out hj] at e
  obtain ⟨w, h1, h2⟩ := R.va j y e
  exact ⟨w, (ag j hj).trans h1, h2.mono m⟩
 ·have hj : j ∉ vs := fun z => nomatch wipeP_in z e
  rw [wipeP_out hj] at e
  obtain ⟨a, h1, h2, h3⟩ := R.ow j o e
  exact ⟨a, (ag j hj).trans h1, h2.mono m, h3⟩
 ·have hj : j ∉ vs := fun z => nomatch wipeP_in z e1
  have hk : k ∉ vs := fun z => nomatch wipeP_in z e2
  rw [wipeP_out hj] at e1
  rw [wipeP_out hk] at e2
  rw [ag j hj] at e3
  rw [ag k hk] at e4
  exact R.nd j k o o' a e1 e2 e3 e4
theorem Ext.wipe (ag : ∀ j, j ∉ vs → σ'[j]? = σ[j]?) : Ext σ η σ' (wipeP η vs) H H := ⟨fun _ _ e _ _ => e, fun _ e => e, fun b z => .inl (own_wipe ag z), fun o e => by
 have hj : 0 ∉ vs := fun z => nomatch wipeP_in z e
 rw [wipeP_out hj] at e
 exact ⟨o, e, ag 0 hj⟩⟩
theorem Rs.updF {D : Addr} {us ws : List V} (R : Rs K T F σ η H) (hF : F D) (h : H D = some (.lst us)) : Rs K T F σ η (upd H D (.lst ws)) := by
 have c : Car (Oof F σ η) (Oof F σ η) H (upd H D (.lst ws)) := fun b q n hb _ => ⟨by rw [upd_ne (fun z => n (.inl (by rw [z]; exact hF)))]; exact hb, n⟩
 refine ⟨R.len, fun i x e => ?_, fun i o e => ?_, R.nd, fun b hb => ?_, Tabs.upd R.tb h nofun nofun⟩
 ·obtain ⟨v, h1, h2⟩ := R.va i x e
  exact ⟨v, h1, h2.car c⟩
 ·obtain ⟨a, h1, h2, h3⟩ := R.ow i o e
  exact ⟨a, h1, h2.car c (upd_ne fun z => h3 (by rw [z]; exact hF)), h3⟩
 ·exact live_upd nofun (R.tr b hb)
end
section
variable {X : Cx} {T : List (Addr × Str)} {a b e o tg elt iter : Expr} {es ifs : List Expr} {te ta tb : TEp} {t : TAp} {tf : TFp} {pos : Pos}
def upGw (K : PySem.W.Frag) (T : List (Addr × Str)) (vs : List Nat) (g : TGp) : TG := fun v σ H Q => ∃ F η x P, Rs K T F σ η H ∧ Rep K (Oof F σ η) H x v ∧ g x η P ∧ ∀ η' σ' H', P η' → L2.wipe σ' vs = L2.wipe σ vs → Ext σ η σ' η' H H' → Rs K T F σ' η' H' → Q σ' H'
def upGsw (K : PySem.W.Frag) (T : List (Addr × Str)) (vs : List Nat) (g : TGsp) : TGs := fun us σ H Q => ∃ F η xs P, Rs K T F σ η H ∧ Reps K (Oof F σ η) H xs us ∧ g xs η P ∧ ∀ η' σ' H', P η' → L2.wipe σ' vs = L2.wipe σ vs → Ext σ η σ' η' H H' → Rs K T F σ' η' H' → Q σ' H'
theorem zgw_name {vs : List Nat} {i : Nat} (hv : i ∈ vs) (pf : PG X tg (gName i)) : PG X tg (upGw X.K T vs (gNameP i)) := by
 refine PG.weak pf fun v σ H Q q => ?_
 obtain ⟨F, η, x, P, R, r, h, k⟩ := q
 exact k _ _ _ h (wipe_set hv) .setv (R.setv r)
theorem zgsw_nil {vs : List Nat} : PGs X [] (upGsw X.K T vs gNilP) := by
 refine PGs.weak pgs_nil fun v σ H Q q => ?_
 obtain ⟨F, η, x, P, R, r, h, k⟩ := q
 rw [h.1] at r
 exact ⟨r.inv0, k _ _ _ h.2 rfl .refl R⟩
theorem zgsw_cons {vs : List Nat} {t : TGp} {u : TGsp} (pf : PGs X (e :: es) (gCons (upGw X.K T vs t) (upGsw X.K T vs u))) : PGs X (e :: es) (upGsw X.K T vs (gConsP t u)) := by
 refine PGs.weak pf fun v σ H Q q => ?_
 obtain ⟨F, η, x, P, R, r, h, k⟩ := q
 unfold gConsP at h
 split at h
 ·obtain ⟨v, us, rfl, r1, r2⟩ := r.inv
  refine ⟨v, us, rfl, F, η, _, _, R, r1, h, fun η' σ' H' h' w1 e1 R1 => ⟨F, η', _, P, R1, r2.car e1.car, h', fun η'' σ'' H'' h'' w2 e2 R2 => k _ _ _ h'' (w2.trans w1) (e1.trans e2) R2⟩⟩
 ·cases h
theorem zgw_tup {vs : List Nat} {k n : Nat} {t : TGsp} (pf : PG X (.Tuple es k pos) (gTup X.K n (upGsw X.K T vs t))) : PG X (.Tuple es k pos) (upGw X.K T vs (gTupP n t)) := by
 refine PG.weak pf fun v σ H Q q => ?_
 obtain ⟨F, η, x, P, R, r, h, k⟩ := q
 unfold gTupP at h
 split at h
 ·obtain ⟨a, vs, rfl, t, r⟩ := r.tup_
  exact ⟨a, vs, rfl, t.sq, by rw [r.len]; exact h.1, F, η, _, P, R, r, h.2, k⟩
 ·cases h
def tYesP : TTp := fun η P => P true η
theorem PTs.weak {t t' : TT} (h : PTs X ifs t) (w : ∀ σ H Q, t' σ H Q → t σ H Q) : PTs X ifs t' := ⟨fun pins s σ H Q I q => h.run pins s σ H Q I (w _ _ _ q)⟩
theorem zts_nil : PTs X [] (upB X.K T tYesP) := PTs.weak pts_nil fun σ H Q q => by
 obtain ⟨F, η, P, R, h, k⟩ := q
 exact k _ _ _ h .refl R
def tLcP (ti : TIp) (g : TGp) (tt : TTp) (te : TEp) (vs : List Nat) : TFp := fun η P => ti η fun xs η1 => ∃ Inv : Nat → List PV → EP' → Prop, Inv 0 [] (wipeP η1 vs) ∧
 (∀ i x acc η2, xs[i]? = some x → Inv i acc η2 → g x (wipeP η2 vs) fun η3 => tt η3 fun b η4 => if b = true then te η4 fun y η5 => acc.length < sizeLine ∧ Inv (i + 1) (acc ++ [y]) (wipeP η5 vs) else Inv (i + 1) acc (wipeP η4 vs)) ∧
 (∀ acc η2, Inv xs.length acc η2 → P acc η2)
theorem lc_weak {K : PySem.W.Frag} {ti : TIp} {g : TGp} {tt : TTp} {te : TEp} {vs : List Nat} {σ : St} {H : Hp} {Q : VK} (q : upF K T (tLcP ti g tt te vs) σ H Q) : tLc (upI K T ti) (upGw K T vs g) (upB K T tt) (up K T te) vs σ H Q := by
 obtain ⟨F, η, P, R, h, k⟩ := q
 refine ⟨F, η, _, R, h, fun xs η1 J H1 h1 e1 R1 hJ D hD => ?_⟩
 obtain ⟨Inv, i0, step, fin⟩ := h1
 have hn : Nw H D := e1.nw (Nw.of hD)
 have nF : ¬ F D := fun z => R.tr D z hn
 have agw : ∀ j, j ∉ vs → (L2.wipe σ vs)[j]? = σ[j]? := fun j hj => wipe_out hj
 refine ⟨fun i m H2 => m = xs.length - i ∧ i ≤ xs.length ∧ ∃ acc us η2, Inv i acc η2 ∧ Rs K T (With F D) σ η2 H2 ∧ Ext σ η1 σ η2 H1 H2 ∧ H2 D = some (.lst us) ∧ Reps K (Oof (With F D) σ η2) H2 acc us, ⟨_, rfl, Nat.zero_le _, [], [], wipeP η1 vs, i0, (R1.add (o := .lst []) hD nofun).wipe rfl (fun _ _ => rfl), ?_, upd_same, .nil⟩, ?_⟩
 ·exact (Ext.same (Same.new hD)).trans (.wipe fun _ _ => rfl)
 rintro i m H2 ⟨rfl, hi, acc, us, η2, p, R2, e2, hd, ru⟩
 have Rb : Rs K T (With F D) (L2.wipe σ vs) (wipeP η2 vs) H2 := R2.wipe (wipe_length _ _) agw
 have eb : Ext σ η1 (L2.wipe σ vs) (wipeP η2 vs) H1 H2 := e2.trans (.wipe agw)
 have carD : Car (Oof F σ η1) (Oof (With F D) (L2.wipe σ vs) (wipeP η2 vs)) H1 H2 := fun b o n hb t => by
  refine ⟨((eb.car (F := F)) b o n hb t).1, fun z => ?_⟩
  rcases z with (z | z) | z
  ·exact n (.inl z)
  ·rw [z, hD] at hb; cases hb
  ·exact ((eb.car (F := F)) b o n hb t).2 (.inr z)
 have it := hJ _ H2 Rb.trO carD e2.live i
 by_cases hlt : i < xs.length
 ·refine .inr ⟨(it.1 xs[i] (by simp [hlt])).1, fun H3 => ∃ acc us η3, Inv (i + 1) acc η3 ∧ Rs K T (With F D) σ η3 H3 ∧ Ext σ η1 σ η3 H1 H3 ∧ H3 D = some (.lst us) ∧ Reps K (Oof (With F D) σ η3) H3 acc us,
   fun H' ⟨acc, us, η3, q1, q2, q3, q4, q5⟩ => ⟨xs.length - (i + 1), by omega, rfl, hlt, acc, us, η3, q1, q2, q3, q4, q5⟩, fun v H3 y => ?_⟩
  obtain ⟨s, rep⟩ := (it.1 xs[i] (by simp [hlt])).2 v H3 y
  refine ⟨With F D, wipeP η2 vs, _, _, Rb.same s, rep, step i _ acc η2 (by simp [hlt]) p, fun η4 σ4 H4 h4 w4 e4 R4 => ⟨by rw [w4]; exact wipe_set_all, With F D, η4, _, R4, h4, fun c η5 H5 h5 e5 R5 => ?_⟩⟩
  have E5 : Ext σ η1 σ4 η5 H1 H5 := ((eb.trans (.same s)).trans e4).trans e5
  have ag4 : ∀ j, j ∉ vs → σ[j]? = σ4[j]? := fun j hj => ((wipe_agree (w4.trans wipe_set_all)).2 j hj).symm
  have ln4 : σ.length = σ4.length := ((wipe_agree (w4.trans wipe_set_all)).1).symm
  cases c with
  | true =>
   simp only [if_true] at h5 ⊢
   refine ⟨With F D, η5, _, R5, h5, fun y η6 w H6 h6 e6 R6 r6 => ?_⟩
   have E6 := E5.trans e6
   have e36 : Ext (L2.wipe σ vs) (wipeP η2 vs) σ4 η6 H2 H6 := (((Ext.same s).trans e4).trans e5).trans e6
   have dk : H6 D = some (.lst us) := e36.keep D _ hd (fun z => by
    obtain ⟨j, p, z1, z2⟩ := z
    obtain ⟨a, q1, q2, q3⟩ := Rb.ow j p z2
    rw [z1] at q1; cases q1
    exact q3 (.inr rfl)) nofun
   have ru6 : Reps K (Oof (With F D) σ4 η6) H6 acc us := (ru.car ((Ext.wipe agw).car (F := With F D))).car (e36.car (F := With F D))
   refine ⟨us, dk, by rw [ru.len]; exact h6.1, acc ++ [y], us ++ [w], wipeP η6 vs, h6.2, (R6.updF (.inr rfl) dk).wipe ln4 ag4, ?_, upd_same, ?_⟩
   ·refine Ext.trans ⟨fun b o hb nb t => ?_, fun b hb => ?_, E6.new, E6.fst⟩ (Ext.wipe ag4)
    ·rw [upd_ne (fun z => by rw [z, hD] at hb; cases hb)]; exact E6.keep b o hb nb t
    ·exact live_upd nofun (E6.live b hb)
   ·have c7 : Car (Oof (With F D) σ4 η6) (Oof (With F D) σ4 η6) H6 (upd H6 D (.lst (us ++ [w]))) := fun b o n hb _ => ⟨by rw [upd_ne (fun z => n (.inl (.inr z)))]; exact hb, n⟩
    exact ((ru6.app (.cons r6 .nil)).car c7).car ((Ext.wipe (H := upd H6 D (.lst (us ++ [w]))) ag4).car (F := With F D))
  | false =>
   simp only [Bool.false_eq_true, if_false] at h5 ⊢
   have e35 : Ext (L2.wipe σ vs) (wipeP η2 vs) σ4 η5 H2 H5 := ((Ext.same s).trans e4).trans e5
   have dk : H5 D = some (.lst us) := e35.keep D _ hd (fun z => by
    obtain ⟨j, p, z1, z2⟩ := z
    obtain ⟨a, q1, q2, q3⟩ := Rb.ow j p z2
    rw [z1] at q1; cases q1
    exact q3 (.inr rfl)) nofun
   exact ⟨acc, us, wipeP η5 vs, h5, R5.wipe ln4 ag4, E5.trans (.wipe ag4), dk, ((ru.car ((Ext.wipe agw).car (F := With F D))).car (e35.car (F := With F D))).car ((Ext.wipe ag4).car (F := With F D))⟩
 ·have e : i = xs.length := by omega
  subst e
  exact .inl ⟨it.2 rfl, k acc η2 D us H2 (fin acc η2 p) (e1.trans e2) R2 hn nF hd ru⟩
theorem zf_lc {scope : Scope} {own : List (Str × Nat)} {ti : TIp} {g : TGp} {tt : TTp}
  (pf : PE X (.ListComp elt [⟨tg, iter, ifs, 0⟩] scope pos) (tLc (upI X.K T ti) (upGw X.K T (own.map (·.2)) g) (upB X.K T tt) (up X.K T te) (own.map (·.2)))) : PE X (.ListComp elt [⟨tg, iter, ifs, 0⟩] scope pos) (upF X.K T (tLcP ti g tt te (own.map (·.2)))) :=
 PE.weak pf fun σ H Q q => lc_weak q
end
abbrev SpP := List PV → (PV → Prop) → Prop
abbrev SpR := Ow → List PV → (PV → Ow → Prop) → Prop
def upSp (K : PySem.W.Frag) (T : List (Addr × Str)) (sp : SpP) : Sp := fun vs H Q _ => ∃ F args P, Trk F H ∧ LamX.Tabs T H ∧ Reps K F H args vs ∧ sp args P ∧ ∀ x v H', P x → Gr H H' → LamX.Tabs T H' → Rep K F H' x v → Q v H'
structure GrB (a : Addr) (H H' : Hp) : Prop where
 keep : ∀ b o, b ≠ a → H b = some o → (∀ ps, o ≠ .tbl ps) → H' b = some o
 live : ∀ b, ¬ Nw H b → ¬ Nw H' b
def upSpR (K : PySem.W.Frag) (T : List (Addr × Str)) (sp : SpR) : Sp := fun vs H Q _ => ∃ F a ws o args P, vs = .ref a :: ws ∧ ¬ F a ∧ Trk F H ∧ LamX.Tabs T H ∧ OwAt K (With F a) H a o ∧ Reps K (With F a) H args ws ∧ sp o args P ∧
 ∀ x o' v H', P x o' → GrB a H H' → LamX.Tabs T H' → OwAt K (With F a) H' a o' → Rep K (With F a) H' x v → Q v H'
def startP (n : Nat) (args : List PV) : EP' := args.map Sl.va ++ List.replicate (n - args.length) .no
section
variable {K : PySem.W.Frag} {T : List (Addr × Str)} {F : Addr → Prop} {H H' : Hp}
theorem start_of {N : List Str} {vs : List V} {i : Nat} {v : V} (h : vs[i]? = some v) : (start N vs)[i]? = some (some v) := by
 have hi : i < vs.length := (List.getElem?_eq_some_iff.mp h).1
 unfold L2.start
 rw [List.getElem?_append_left (by simpa using hi), List.getElem?_map, h]; rfl
theorem startP_va {n : Nat} {args : List PV} {i : Nat} {s : Sl} (h : (startP n args)[i]? = some s) : (∃ x, s = .va x ∧ args[i]? = some x) ∨ s = .no := by
 unfold startP at h
 by_cases hi : i < args.length
 ·rw [List.getElem?_append_left (by simpa using hi), List.getElem?_map] at h
  cases q : args[i]? with
  | none => rw [q] at h; cases h
  | some w => rw [q] at h; cases h; exact .inl ⟨w, rfl, rfl⟩
 ·rw [List.getElem?_append_right (by simpa using hi), List.getElem?_replicate] at h
  split at h
  ·cases h; exact .inr rfl
  ·cases h
theorem startP_noown {n : Nat} {args : List PV} {σ : St} {a : Addr} : ¬ IsOwn σ (startP n args) a := by
 rintro ⟨i, o, h1, h2⟩
 rcases startP_va h2 with ⟨x, e, _⟩ | e <;> cases e
theorem rs_start {N : List Str} {args : List PV} {vs : List V} (tr : Trk F H) (tb : LamX.Tabs T H) (r : Reps K F H args vs) (hl : args.length ≤ N.length) : Rs K T F (start N vs) (startP N.length args) H := by
 have m : ∀ b, Oof F (start N vs) (startP N.length args) b → F b := fun b z => z.elim id fun z => absurd z startP_noown
 refine ⟨?_, fun i x e => ?_, fun i o e => ?_, fun i j o o' a e => ?_, tr, tb⟩
 ·unfold L2.start startP
  simp [r.len]
 ·rcases startP_va e with ⟨y, q, hy⟩ | q
  ·cases q
   obtain ⟨v, h1, h2⟩ := r.get hy
   exact ⟨v, start_of h1, h2.mono m⟩
  ·cases q
 ·rcases startP_va e with ⟨y, q, _⟩ | q <;> cases q
 ·rcases startP_va e with ⟨y, q, _⟩ | q <;> cases q
def startR (n : Nat) (o : Ow) (args : List PV) : EP' := .ow o :: startP (n - 1) args
theorem rs_startR {x : Str} {N : List Str} {a : Addr} {o : Ow} {args : List PV} {ws : List V} (nf : ¬ F a) (tr : Trk F H) (tb : LamX.Tabs T H) (ho : OwAt K (With F a) H a o) (r : Reps K (With F a) H args ws) (hl : args.length ≤ N.length) :
  Rs K T F (start (x :: N) (.ref a :: ws)) (startR (N.length + 1) o args) H ∧ ∀ b, IsOwn (start (x :: N) (.ref a :: ws)) (startR (N.length + 1) o args) b → b = a := by
 have e0 : start (x :: N) (.ref a :: ws) = some (.ref a) :: start N ws := by
  unfold L2.start
  simp
 have e1 : startR (N.length + 1) o args = .ow o :: startP N.length args := by
  unfold startR
  simp
 rw [e0, e1]
 have own : ∀ b, IsOwn (some (V.ref a) :: start N ws) (Sl.ow o :: startP N.length args) b → b = a := by
  rintro b ⟨i, p, h1, h2⟩
  cases i with
  | zero => simp at h1; exact h1.symm
  | succ i =>
   simp at h2
   rcases startP_va h2 with ⟨y, q, _⟩ | q <;> cases q
 have m : ∀ b, Oof F (some (V.ref a) :: start N ws) (Sl.ow o :: startP N.length args) b → With F a b := fun b z => z.elim .inl fun z => .inr (own b z)
 refine ⟨⟨?_, fun i y e => ?_, fun i p e => ?_, fun i j p p' b e1 e2 e3 e4 => ?_, tr, tb⟩, own⟩
 ·unfold L2.start startP
  simp [r.len]
 ·cases i with
  | zero => simp at e
  | succ i =>
   simp at e
   rcases startP_va e with ⟨z, q, hy⟩ | q
   ·cases q
    obtain ⟨v, h1, h2⟩ := r.get hy
    exact ⟨v, by simpa using start_of h1, h2.mono m⟩
   ·cases q
 ·cases i with
  | zero =>
   simp at e
   subst e
   exact ⟨a, rfl, ho.mono m, nf⟩
  | succ i =>
   simp at e
   rcases startP_va e with ⟨z, q, hy⟩ | q <;> cases q
 ·have z : ∀ {i p}, (Sl.ow o :: startP N.length args)[i]? = some (Sl.ow p) → i = 0 := fun {i p} e => by
   cases i with
   | zero => rfl
   | succ i =>
    simp at e
    rcases startP_va e with ⟨z, q, hy⟩ | q <;> cases q
  rw [z e1, z e2]
theorem body_sp {N : List Str} {sp : SpP} {ts : TSp} {vs : List V} {Q : VK} {E : XK} (h : upSp K T sp vs H Q E) (hl : ∀ args P, sp args P → args.length ≤ N.length) (rd : ∀ args P, sp args P → ts { nx := fun _ => P .non, rt := fun x _ => P x } (startP N.length args)) :
  upS K T ts { nx := fun _ H' => Q .non H', rt := Q } (start N vs) H := by
 obtain ⟨F, args, P, tr, tb, r, hs, k⟩ := h
 have R := rs_start (N := N) tr tb r (hl _ _ hs)
 have gr : ∀ {σ' η' H'}, Ext (start N vs) (startP N.length args) σ' η' H H' → Gr H H' := fun e => ⟨fun b o h t => e.keep b o h startP_noown t, e.live⟩
 refine ⟨F, _, _, R, rd args P hs, fun η' σ' H' q e R' => ?_, fun _ _ _ q => q.elim, fun _ _ _ q => q.elim, fun x η' σ' v H' q e R' r' => ?_⟩
 ·exact k _ _ _ q (gr e) R'.tb rep_non
 ·exact k _ _ _ q (gr e) R'.tb (r'.mono fun b z => .inl z)
theorem body_spR {nm : Str} {N : List Str} {sp : SpR} {ts : TSp} {vs : List V} {Q : VK} {E : XK} (h : upSpR K T sp vs H Q E) (hl : ∀ o args P, sp o args P → args.length ≤ N.length)
  (rd : ∀ o args P, sp o args P → ts { nx := fun η' => ∃ o', η'[0]? = some (Sl.ow o') ∧ P .non o', rt := fun x η' => ∃ o', η'[0]? = some (Sl.ow o') ∧ P x o' } (startR (N.length + 1) o args)) :
  upS K T ts { nx := fun _ H' => Q .non H', rt := Q } (start (nm :: N) vs) H := by
 obtain ⟨F, a, ws, o, args, P, rfl, nf, tr, tb, ho, r, hs, k⟩ := h
 obtain ⟨R, own⟩ := rs_startR (x := nm) (N := N) nf tr tb ho r (hl _ _ _ hs)
 have fin : ∀ {η' σ' H' x v}, (∃ o', η'[0]? = some (Sl.ow o') ∧ P x o') → Ext (start (nm :: N) (.ref a :: ws)) (startR (N.length + 1) o args) σ' η' H H' → Rs K T F σ' η' H' → Rep K (Oof F σ' η') H' x v → Q v H' := by
  intro η' σ' H' x v q e R' r'
  obtain ⟨o', e0, p⟩ := q
  obtain ⟨p1, q1, q2⟩ := e.fst o' e0
  obtain ⟨b, s1, s2, s3⟩ := R'.ow 0 o' e0
  have hb : b = a := by
   rw [q2] at s1
   have : (start (nm :: N) (V.ref a :: ws))[0]? = some (some (V.ref a)) := by unfold L2.start; simp
   rw [this] at s1; cases s1; rfl
  subst hb
  have m : ∀ c, With F b c → Oof F σ' η' c := fun c z => z.elim .inl fun z => .inr (by rw [z]; exact ⟨0, o', s1, e0⟩)
  exact k x o' v H' p ⟨fun c u n h t => e.keep c u h (fun z => n (own c z)) t, e.live⟩ R'.tb (s2.mono m) (r'.mono m)
 exact ⟨F, _, _, R, rd o args P hs, fun η' σ' H' q e R' => fin q e R' rep_non, fun _ _ _ q => q.elim, fun _ _ _ q => q.elim, fun x η' σ' v H' q e R' r' => fin q e R' r'⟩
end
section
variable {P : Program} {w : World} {K : PySem.W.Frag} {mg : Str → Option Value} {base : Heap} {T : List (Addr × Str)}
theorem len_sp {ps : List Str} {sp : SpP} (hl : ∀ args P, sp args P → args.length = ps.length) : ∀ vs H Q E, upSp K T sp vs H Q E → vs.length = ps.length := fun vs H Q E h => by
 obtain ⟨F, args, P, _, _, r, hs, _⟩ := h
 rw [r.len, hl _ _ hs]
theorem len_spR {p : Str} {ps : List Str} {sp : SpR} (hl : ∀ o args P, sp o args P → args.length = ps.length) : ∀ vs H Q E, upSpR K T sp vs H Q E → vs.length = (p :: ps).length := fun vs H Q E h => by
 obtain ⟨F, a, ws, o, args, P, rfl, _, _, _, _, r, hs, _⟩ := h
 rw [List.length_cons, List.length_cons, r.len, hl _ _ _ hs]
theorem okP {x qual : Str} {st : Stmt} {f : Addr} {fd : FuncData} {N ps : List Str} {k : Nat} {sp : SpP} (Fn : Fun K x qual st f fd) (S : FnScope N ps (defScope st)) (hl : ∀ args P, sp args P → args.length = ps.length) (hn : ps.length ≤ N.length)
  (hbody : ∀ (cdv : Value) (A : Around) (outer : List Env) (s : Shared) (H : Hp) (E : XK), Room k (A.deeper (envOfC qual (defScope st) s.heap.objs.size f cdv)) →
   ∃ ts, PSs (cxOf CX0 P w K mg base N qual (defScope st) f cdv A outer s H E).nox (defBody st) (upS K T ts) ∧ ∀ args P, sp args P → ts { nx := fun _ => P .non, rt := fun x _ => P x } (startP N.length args)) :
  FnOk P w K mg base CX0 (k + 1) f fd ps (upSp K T sp) := by
 refine Fn.ok S (len_sp hl) fun cdv A outer s H vs Q E hr h => ?_
 obtain ⟨ts, d, rd⟩ := hbody cdv A outer s H E hr
 exact ⟨_, d, body_sp h (fun args P hs => by rw [hl _ _ hs]; exact hn) rd⟩
theorem okR {x qual : Str} {st : Stmt} {f : Addr} {fd : FuncData} {nm : Str} {N ps : List Str} {k : Nat} {sp : SpR} (Fn : Fun K x qual st f fd) (S : FnScope (nm :: N) (nm :: ps) (defScope st)) (hl : ∀ o args P, sp o args P → args.length = ps.length) (hn : ps.length ≤ N.length)
  (hbody : ∀ (cdv : Value) (A : Around) (outer : List Env) (s : Shared) (H : Hp) (E : XK), Room k (A.deeper (envOfC qual (defScope st) s.heap.objs.size f cdv)) →
   ∃ ts, PSs (cxOf CX0 P w K mg base (nm :: N) qual (defScope st) f cdv A outer s H E).nox (defBody st) (upS K T ts) ∧
    ∀ o args P, sp o args P → ts { nx := fun η' => ∃ o', η'[0]? = some (Sl.ow o') ∧ P .non o', rt := fun x η' => ∃ o', η'[0]? = some (Sl.ow o') ∧ P x o' } (startR (N.length + 1) o args)) :
  FnOk P w K mg base CX0 (k + 1) f fd (nm :: ps) (upSpR K T sp) := by
 refine Fn.ok S (len_spR hl) fun cdv A outer s H vs Q E hr h => ?_
 obtain ⟨ts, d, rd⟩ := hbody cdv A outer s H E hr
 exact ⟨_, d, body_spR h (fun o args P hs => by rw [hl _ _ _ hs]; exact hn) rd⟩
structure FnG (P : Program) (w : World) (K : PySem.W.Frag) (mg : Str → Option Value) (base : Heap) (k : Nat) (f : Addr) (fd : FuncData) (ps : List Str) (sp : Sp) : Prop where
 len : ∀ vs H Q E, sp vs H Q E → vs.length = ps.length
 run : ∀ (A : Around) (outer : List Env) (s : Shared) (H : Hp) (args : Args) (us : List Value) (vs : List V) (Q : VK) (E : XK), A.guards = some [] → Room k A → Env0 P w K mg base A outer s H → BindsTo s fd args (ps.zip us) → Vals vs us → sp vs H Q E →
  codeAny (model P w) A (.call (.ref f) args) (CR CX0 outer P w H s Q E) s
theorem okG0 {x qual : Str} {st : Stmt} {f : Addr} {fd : FuncData} {N ps : List Str} {k : Nat} {sp : Sp} (Fn : Fun K x qual st f fd) (S : FnScope N ps (defScope st)) (len : ∀ vs H Q E, sp vs H Q E → vs.length = ps.length)
  (hbody : ∀ (cdv : Value) (A : Around) (outer : List Env) (s : Shared) (H : Hp) (vs : List V) (Q : VK) (E : XK), A.guards = some [] → Room k (A.deeper (envOfC qual (defScope st) s.heap.objs.size f cdv)) → sp vs H Q E →
   ∃ t, PSs (cxOf CX0 P w K mg base N qual (defScope st) f cdv A outer s H E).nox (defBody st) t ∧ t { nx := fun _ H' => Q .non H', rt := Q } (L2.start N vs) H) : FnG P w K mg base (k + 1) f fd ps sp := by
 obtain ⟨oc, od, kV, doc, pm, an, cdv, ct, osl, rfl, lk, hcd⟩ := Fn.ex
 refine ⟨len, fun A outer s H args us vs Q E hg hr e0 hb rv hs => ?_⟩
 refine LamX.run_ofS lk hcd S hr e0 hb rv (len _ _ _ _ hs) fun hr' => ?_
 obtain ⟨t, d, q⟩ := hbody cdv A outer s H vs Q E hg hr' hs
 exact ⟨t, d.nox, q⟩
theorem okGP {x qual : Str} {st : Stmt} {f : Addr} {fd : FuncData} {N ps : List Str} {k : Nat} {sp : SpP} (Fn : Fun K x qual st f fd) (S : FnScope N ps (defScope st)) (hl : ∀ args P, sp args P → args.length = ps.length) (hn : ps.length ≤ N.length)
  (hbody : ∀ (cdv : Value) (A : Around) (outer : List Env) (s : Shared) (H : Hp) (E : XK), A.guards = some [] → Room k (A.deeper (envOfC qual (defScope st) s.heap.objs.size f cdv)) →
   ∃ ts, PSs (cxOf CX0 P w K mg base N qual (defScope st) f cdv A outer s H E).nox (defBody st) (upS K T ts) ∧ ∀ args P, sp args P → ts { nx := fun _ => P .non, rt := fun x _ => P x } (startP N.length args)) :
  FnG P w K mg base (k + 1) f fd ps (upSp K T sp) := by
 refine okG0 Fn S (len_sp hl) fun cdv A outer s H vs Q E hg hr h => ?_
 obtain ⟨ts, d, rd⟩ := hbody cdv A outer s H E hg hr
 exact ⟨_, d, body_sp h (fun args P hs => by rw [hl _ _ hs]; exact hn) rd⟩
theorem okGR {x qual : Str} {st : Stmt} {f : Addr} {fd : FuncData} {nm : Str} {N ps : List Str} {k : Nat} {sp : SpR} (Fn : Fun K x qual st f fd) (S : FnScope (nm :: N) (nm :: ps) (defScope st)) (hl : ∀ o args P, sp o args P → args.length = ps.length) (hn : ps.length ≤ N.length)
  (hbody : ∀ (cdv : Value) (A : Around) (outer : List Env) (s : Shared) (H : Hp) (E : XK), A.guards = some [] → Room k (A.deeper (envOfC qual (defScope st) s.heap.objs.size f cdv)) →
   ∃ ts, PSs (cxOf CX0 P w K mg base (nm :: N) qual (defScope st) f cdv A outer s H E).nox (defBody st) (upS K T ts) ∧
    ∀ o args P, sp o args P → ts { nx := fun η' => ∃ o', η'[0]? = some (Sl.ow o') ∧ P .non o', rt := fun x η' => ∃ o', η'[0]? = some (Sl.ow o') ∧ P x o' } (startR (N.length + 1) o args)) :
  FnG P w K mg base (k + 1) f fd (nm :: ps) (upSpR K T sp) := by
 refine okG0 Fn S (len_spR hl) fun cdv A outer s H vs Q E hg hr h => ?_
 obtain ⟨ts, d, rd⟩ := hbody cdv A outer s H E hg hr
 exact ⟨_, d, body_spR h (fun o args P hs => by rw [hl _ _ _ hs]; exact hn) rd⟩
theorem FnOk.g {k : Nat} {f : Addr} {fd : FuncData} {ps : List Str} {sp : Sp} (F : FnOk P w K mg base CX0 k f fd ps sp) : FnG P w K mg base k f fd ps sp := ⟨F.len, fun A outer s H args us vs Q E _ => F.run A outer s H args us vs Q E⟩
theorem FnG.mono {j k : Nat} {f : Addr} {fd : FuncData} {ps : List Str} {sp : Sp} (F : FnG P w K mg base j f fd ps sp) (h : j ≤ k) : FnG P w K mg base k f fd ps sp := ⟨F.len, fun A outer s H args us vs Q E hg hr => F.run A outer s H args us vs Q E hg (hr.mono h)⟩
end
section
variable {X : Cx} {T : List (Addr × Str)} {a b e o : Expr} {es : List Expr} {te ta tb : TEp} {t : TAp} {tf : TFp} {pos p apos : Pos} {k : Nat} {f C : Addr} {fd : FuncData} {ps : List Str} {sp : SpP} {sr : SpR} {x m : Str}
def tCallP (sp : SpP) (dps : List PV) (t : TAp) : TEp := fun η P => t η fun args η1 => sp (args ++ dps) fun z => P z η1
theorem call_up {K : PySem.W.Frag} {σ : St} {H : Hp} {Q : VK} {E : XK} {dps : List PV} {dvs : List V} (hd : ∀ O H, Reps K O H dps dvs) (q : up K T (tCallP sp dps t) σ H Q) : tCall (upSp K T sp) dvs E (upA K T t) σ H Q := by
 obtain ⟨F, η, P, R, h, k⟩ := q
 refine ⟨F, η, _, R, h, fun args η1 vs H1 h1 e1 R1 r1 => ?_⟩
 exact ⟨Oof F σ η1, _, _, R1.trO, R1.tb, r1.app (hd _ _), h1, fun z v H2 pz g tb rz => k z η1 v H2 pz (e1.trans g.ext) (R1.gr g tb) rz⟩
theorem z_call (Fn : FnOk X.prog X.w X.K X.mg X.base CX0 k f fd ps (upSp X.K T sp)) (hr : Room k X.A) (hg : Gl X x) (hm : X.mg x = some (.ref f)) (hk : PySem.W.keepIn X.K (.ref f) = true) {dvs : List V} {ds : List Value} {dps : List PV} (hb : Binds X.K fd ps ds) (hd : Vals dvs ds) (hp : ∀ O H, Reps X.K O H dps dvs)
  (ha : PA X (e :: es) (upA X.K T t)) (hdb : (x == ("__debug__" : Str)) = false := by decide) (he : starEach (e :: es) X.env = (false, eval e X.env) :: starEach es X.env := by rfl) (hpl : (backTo pos (starEach es X.env)).any (·.1) = false := by rfl) :
  PE X (.Call (.Name x p) (e :: es) [] pos) (up X.K T (tCallP sp dps t)) :=
 PE.weak (pe_call Fn hr hg hm hk hb hd pass0 ha hdb he hpl) fun σ H Q q => call_up hp q
theorem run_g {pins : List (Addr × Obj)} {σ : St} {H : Hp} {s : Shared} {Q : VK} {us : List Value} {vs dvs : List V} {ds : List Value} {S : Sp} (Fn : FnG X.prog X.w X.K X.mg X.base k f fd ps S) (hG : X.A.guards = some []) (hr : Room k X.A) (hb : Binds X.K fd ps ds) (hd : Vals dvs ds)
  (I : L2.Inv X pins σ H s) (r : Vals vs us) (h : S (vs ++ dvs) H Q E0) : wpAny (model X.prog X.w) X.A (call (.ref f) us) (EP X pins σ Q) X.xe s := by
 have rr := r.append hd
 refine wpAny_call (codeAny_mono (Fn.run X.A X.stack s H ⟨us, []⟩ (us ++ ds) (vs ++ dvs) Q E0 hG hr I.env0 (hb s us I.kIn (by rw [← rr.length]; exact Fn.len _ _ _ _ h)) rr h) fun res s' hq => ?_)
 cases res with
 | error er => exact False.elim hq
 | ok fl => cases fl with
  | ret u => exact I.after hq
  | _ => exact False.elim hq
theorem pe_callG {S : Sp} {tv : TA} {dvs : List V} {ds : List Value} (Fn : FnG X.prog X.w X.K X.mg X.base k f fd ps S) (hG : X.A.guards = some []) (hr : Room k X.A) (hg : Gl X x) (hm : X.mg x = some (.ref f)) (hk : PySem.W.keepIn X.K (.ref f) = true) (hb : Binds X.K fd ps ds) (hd : Vals dvs ds)
  (ha : PA X (e :: es) tv) (hdb : (x == ("__debug__" : Str)) = false := by decide) (he : starEach (e :: es) X.env = (false, eval e X.env) :: starEach es X.env := by rfl) (hpl : (backTo pos (starEach es X.env)).any (·.1) = false := by rfl) :
  PE X (.Call (.Name x p) (e :: es) [] pos) (tCall S dvs E0 tv) := by
 constructor
 intro pins s σ H Q I q
 apply wpAny_Call_Name_kw
 apply ld_glob I hg hm _ hdb
 apply PySem.W.callWith_K (h₀ := X.base) I.ok.mod.kin hk _ he hpl
 apply thn (ha.run pos pins s σ H _ I q)
 rintro us s1 ⟨vs, H1, I1, r, q1⟩
 exact ⟨I1.kIn, run_g Fn hG hr hb hd I1 r q1⟩
theorem z_callG (Fn : FnG X.prog X.w X.K X.mg X.base k f fd ps (upSp X.K T sp)) (hG : X.A.guards = some []) (hr : Room k X.A) (hg : Gl X x) (hm : X.mg x = some (.ref f)) (hk : PySem.W.keepIn X.K (.ref f) = true) {dvs : List V} {ds : List Value} {dps : List PV} (hb : Binds X.K fd ps ds) (hd : Vals dvs ds) (hp : ∀ O H, Reps X.K O H dps dvs)
  (ha : PA X (e :: es) (upA X.K T t)) (hdb : (x == ("__debug__" : Str)) = false := by decide) (he : starEach (e :: es) X.env = (false, eval e X.env) :: starEach es X.env := by rfl) (hpl : (backTo pos (starEach es X.env)).any (·.1) = false := by rfl) :
  PE X (.Call (.Name x p) (e :: es) [] pos) (up X.K T (tCallP sp dps t)) :=
 PE.weak (pe_callG Fn hG hr hg hm hk hb hd ha hdb he hpl) fun σ H Q q => call_up hp q
def tCallRP (i : Nat) (sr : SpR) (t : TAp) : TEp := fun η P => (∃ o, η[i]? = some (Sl.ow o)) ∧ t η fun args η1 => match η1[i]? with
 | some (.ow o) => sr o args fun z o' => P z (η1.set i (.ow o'))
 | _ => False
theorem callR_up {K : PySem.W.Frag} {σ : St} {H : Hp} {Q : VK} {E : XK} {i : Nat} (q : up K T (tCallRP i sr t) σ H Q) : tCall (upSpR K T sr) [] E (tCons (tVar i) (upA K T t)) σ H Q := by
 obtain ⟨F, η, P, R, ⟨⟨oo, ho⟩, h⟩, k⟩ := q
 obtain ⟨b, hw, _, _⟩ := R.ow i _ ho
 refine ⟨_, hw, F, η, _, R, h, fun args η1 vs H1 h1 e1 R1 r1 => ?_⟩
 split at h1
 ·rename_i o e
  obtain ⟨a, s, q0, nf⟩ := R1.ow i o e
  rw [hw] at s; cases s
  -- the other own ones and the foreign ones
  let F' : Addr → Prop := fun c => Oof F σ η1 c ∧ c ≠ b
  have m1 : ∀ c, With F' b c → Oof F σ η1 c := fun c z => z.elim (fun z => z.1) fun z => by rw [z]; exact .inr ⟨i, o, hw, e⟩
  have m2 : ∀ c, Oof F σ η1 c → With F' b c := fun c z => by
   by_cases q : c = b
   ·exact .inr q
   ·exact .inl ⟨z, q⟩
  refine ⟨F', b, vs, o, args, _, by simp, fun z => z.2 rfl, fun c z => R1.trO c z.1, R1.tb, q0.mono m1, r1.mono m1, h1, fun z o' v H2 pz g tb ho' rz => ?_⟩
  have c1 : Car (Oof F σ η1) (Oof F σ η1) H1 H2 := fun c u n hc t => ⟨g.keep c u (fun z => n (by rw [z]; exact .inr ⟨i, o, hw, e⟩)) hc t, n⟩
  have oth : ∀ c, c ≠ b → IsOwn σ η1 c → H2 c = H1 c := fun c n z => by
   obtain ⟨j, p, z1, z2⟩ := z
   obtain ⟨c', q1, q2, q3⟩ := R1.ow j p z2
   rw [z1] at q1; cases q1
   cases p with
   | l xs => obtain ⟨us, y, _⟩ := q2; rw [y]; exact g.keep _ _ n y nofun
   | o C fs => obtain ⟨dx, us, y, _⟩ := q2; rw [y]; exact g.keep _ _ n y nofun
   | d kvs => obtain ⟨us, y, _⟩ := q2; rw [y]; exact g.keep _ _ n y nofun
  have R2 := R1.put (o' := o') e hw c1 oth (fun c z => g.live c (R1.tr c z)) tb (ho'.mono m2)
  have E2 : Ext σ η1 σ (η1.set i (.ow o')) H1 H2 := by
   refine ⟨fun c u hc n t => g.keep c u (fun z => n (by rw [z]; exact ⟨i, o, hw, e⟩)) hc t, g.live, fun c z => .inl ((own_put e).mp z), fun p q => ?_⟩
   by_cases z : (0 : Nat) = i
   ·subst z; exact ⟨o, e, rfl⟩
   ·rw [ne_set z] at q; exact ⟨p, q, rfl⟩
  exact k _ _ _ _ pz (e1.trans E2) R2 (rz.mono fun c z => m2 c (Oof_mono (fun b' z => (own_put e).mp z) c z))
 ·cases h1
theorem z_callR {i : Nat} {e0 : Expr} (Fn : FnOk X.prog X.w X.K X.mg X.base CX0 k f fd ps (upSpR X.K T sr)) (hr : Room k X.A) (hg : Gl X x) (hm : X.mg x = some (.ref f)) (hk : PySem.W.keepIn X.K (.ref f) = true) (hb : Binds X.K fd ps [])
  (ha : PA X (e0 :: es) (tCons (tVar i) (upA X.K T t))) (hdb : (x == ("__debug__" : Str)) = false := by decide) (he : starEach (e0 :: es) X.env = (false, eval e0 X.env) :: starEach es X.env := by rfl) (hpl : (backTo pos (starEach es X.env)).any (·.1) = false := by rfl) :
  PE X (.Call (.Name x p) (e0 :: es) [] pos) (up X.K T (tCallRP i sr t)) :=
 PE.weak (pe_call Fn hr hg hm hk hb .nil pass0 ha hdb he hpl) fun σ H Q q => callR_up q
end
section
variable {X : Cx} {T : List (Addr × Str)} {a b e o : Expr} {es : List Expr} {te ta tb : TEp} {t : TAp} {tf : TFp} {pos p apos : Pos} {k : Nat} {f C : Addr} {fd : FuncData} {ps : List Str} {sp : SpP} {sr : SpR} {x m : Str} {st : Stmt} {rest : List Stmt} {t1 : TSp}
abbrev SpF := List PV → (List PV → Prop) → Prop
def upSpF (K : PySem.W.Frag) (T : List (Addr × Str)) (sp : SpF) : Sp := fun vs H Q _ => ∃ F args P, Trk F H ∧ LamX.Tabs T H ∧ Reps K F H args vs ∧ sp args P ∧ ∀ xs a us H', P xs → Gr H H' → LamX.Tabs T H' → Nw H a → H' a = some (.lst us) → Reps K (With F a) H' xs us → Q (.ref a) H'
def upSF (K : PySem.W.Frag) (T : List (Addr × Str)) (tf : TFp) : TS := fun D σ H => ∃ F η P, Rs K T F σ η H ∧ tf η P ∧ ∀ xs η' a us σ' H', P xs η' → Ext σ η σ' η' H H' → Rs K T (With F a) σ' η' H' → Nw H a → H' a = some (.lst us) → Reps K (Oof (With F a) σ' η') H' xs us → D.rt (.ref a) H'
def tSeqFP (t : TSp) (u : TFp) : TFp := fun η P => t { nx := fun η' => u η' P, rt := fun _ _ => False } η
theorem zsf_ret (he : PE X e (upF X.K T tf)) : PSs X [.Return (some e) pos] (upSF X.K T tf) := by
 refine pss_one (PS.weak (ps_ret he) fun D σ H q => ?_)
 obtain ⟨F, η, P, R, h, k⟩ := q
 exact ⟨F, η, P, R, h, fun xs η' a us H' q e R' hn nf hv r => k xs η' a us σ H' q e R' hn hv r⟩
theorem zsf_cons (h1 : PS X st (upS X.K T t1)) (h2 : PSs X rest (upSF X.K T tf)) : PSs X (st :: rest) (upSF X.K T (tSeqFP t1 tf)) := by
 refine PSs.weak (pss_cons h1 h2) fun D σ H q => ?_
 obtain ⟨F, η, P, R, h, k⟩ := q
 refine ⟨F, η, _, R, h, fun η1 σ1 H1 q e1 R1 => ?_, fun _ _ _ q => q.elim, fun _ _ _ q => q.elim, fun _ _ _ _ _ q => q.elim⟩
 refine ⟨F, η1, P, R1, q, fun xs η' a us σ' H' q e R' hn hv r => k xs η' a us σ' H' q (e1.trans e) R' (e1.nw hn) hv r⟩
theorem okF {P : Program} {w : World} {K : PySem.W.Frag} {mg : Str → Option Value} {base : Heap} {x qual : Str} {st : Stmt} {f : Addr} {fd : FuncData} {N ps : List Str} {k : Nat} {sp : SpF} (Fn : Fun K x qual st f fd) (S : FnScope N ps (defScope st)) (hl : ∀ args P, sp args P → args.length = ps.length) (hn : ps.length ≤ N.length)
  (hbody : ∀ (cdv : Value) (A : Around) (outer : List Env) (s : Shared) (H : Hp) (E : XK), Room k (A.deeper (envOfC qual (defScope st) s.heap.objs.size f cdv)) →
   ∃ tf, PSs (cxOf CX0 P w K mg base N qual (defScope st) f cdv A outer s H E).nox (defBody st) (upSF K T tf) ∧ ∀ args P, sp args P → tf (startP N.length args) fun xs _ => P xs) :
  FnOk P w K mg base CX0 (k + 1) f fd ps (upSpF K T sp) := by
 refine Fn.ok S (fun vs H Q E h => ?_) fun cdv A outer s H vs Q E hr h => ?_
 ·obtain ⟨F, args, P, _, _, r, hs, _⟩ := h
  rw [r.len, hl _ _ hs]
 ·obtain ⟨tf, d, rd⟩ := hbody cdv A outer s H E hr
  obtain ⟨F, args, P, tr, tb, r, hs, k⟩ := h
  have R := rs_start (N := N) tr tb r (by rw [hl _ _ hs]; exact hn)
  refine ⟨_, d, F, _, _, R, rd args P hs, fun xs η' a us σ' H' q e R' hn hv r => ?_⟩
  exact k xs a us H' q ⟨fun b o h t => e.keep b o h startP_noown t, e.live⟩ R'.tb hn hv (r.mono fun b z => .inl z)
def tCallFP (sp : SpF) (t : TAp) : TFp := fun η P => t η fun args η1 => sp args fun xs => P xs η1
theorem z_callF {sp : SpF} (Fn : FnOk X.prog X.w X.K X.mg X.base CX0 k f fd ps (upSpF X.K T sp)) (hr : Room k X.A) (hg : Gl X x) (hm : X.mg x = some (.ref f)) (hk : PySem.W.keepIn X.K (.ref f) = true) (hb : Binds X.K fd ps [])
  (ha : PA X (e :: es) (upA X.K T t)) (hdb : (x == ("__debug__" : Str)) = false := by decide) (he : starEach (e :: es) X.env = (false, eval e X.env) :: starEach es X.env := by rfl) (hpl : (backTo pos (starEach es X.env)).any (·.1) = false := by rfl) :
  PE X (.Call (.Name x p) (e :: es) [] pos) (upF X.K T (tCallFP sp t)) := by
 refine PE.weak (pe_call Fn hr hg hm hk hb .nil pass0 ha hdb he hpl) fun σ H Q q => ?_
 obtain ⟨F, η, P, R, h, k⟩ := q
 refine ⟨F, η, _, R, h, fun args η1 vs H1 h1 e1 R1 r1 => ?_⟩
 refine ⟨Oof F σ η1, _, _, R1.trO, R1.tb, by rw [List.append_nil]; exact r1, h1, fun xs a us H2 pz g tb hn hv rz => ?_⟩
 have hn0 : Nw H a := e1.nw hn
 have nF : ¬ F a := fun z => R.tr a z hn0
 have nO : ¬ Oof F σ η1 a := fun z => R1.trO a z hn
 have m : ∀ b, Oof (With F a) σ η1 b → With (Oof F σ η1) a b := fun b z => by
  rcases z with (z | z) | z
  ·exact .inl (.inl z)
  ·exact .inr z
  ·exact .inl (.inr z)
 -- the frame over the grown heap, a among the foreign ones
 have R2 : Rs X.K T F σ η1 H2 := R1.gr g tb
 have c : Car (Oof F σ η1) (Oof (With F a) σ η1) H1 H2 := fun b u n hb t => ⟨g.keep b u hb t, fun z => by
  rcases z with (z | z) | z
  ·exact n (.inl z)
  ·exact hn.no (by rw [← z]; exact hb) t
  ·exact n (.inr z)⟩
 have R3 : Rs X.K T (With F a) σ η1 H2 := by
  refine ⟨R2.len, fun i y e => ?_, fun i o e => ?_, R2.nd, fun b z => ?_, tb⟩
  ·obtain ⟨v, q1, q2⟩ := R1.va i y e
   exact ⟨v, q1, q2.car c⟩
  ·obtain ⟨b, q1, q2, q3⟩ := R1.ow i o e
   refine ⟨b, q1, q2.car c ?_, fun z => z.elim q3 fun z => nO (by rw [← z]; exact .inr ⟨i, o, q1, e⟩)⟩
   cases o with
   | l xs => obtain ⟨vs, q, _⟩ := q2; rw [q]; exact g.keep _ _ q nofun
   | o C fs => obtain ⟨dx, ws, q, _⟩ := q2; rw [q]; exact g.keep _ _ q nofun
   | d kvs => obtain ⟨ws, q, _⟩ := q2; rw [q]; exact g.keep _ _ q nofun
  ·rcases z with z | z
   ·exact R2.tr b z
   ·rw [z]; exact fun q => q.no hv nofun
 exact k xs η1 a us H2 pz (e1.trans g.ext) R3 hn0 nF hv (rz.mono m)
def tCallRFP (tf : TFp) (sr : SpR) (t : TAp) : TEp := fun η P => tf η fun xs η1 => t η1 fun args η2 => sr (.l xs) args fun z _ => P z η2
theorem callRF_up {K : PySem.W.Frag} {σ : St} {H : Hp} {Q : VK} {E : XK} (q : up K T (tCallRFP tf sr t) σ H Q) : tCall (upSpR K T sr) [] E (tCons (upF K T tf) (upA K T t)) σ H Q := by
 obtain ⟨F, η, P, R, h, k⟩ := q
 refine ⟨F, η, _, R, h, fun xs η1 a us H1 h1 e1 R1 hn nf hv r => ⟨With F a, η1, _, R1, h1, fun args η2 vs H2 h2 e2 R2 r2 => ?_⟩⟩
 have na : ¬ IsOwn σ η1 a := fun z => by
  obtain ⟨j, p, z1, z2⟩ := z
  obtain ⟨b, q1, q2, q3⟩ := R1.ow j p z2
  rw [z1] at q1; cases q1
  exact q3 (.inr rfl)
 have na2 : ¬ IsOwn σ η2 a := fun z => by
  obtain ⟨j, p, z1, z2⟩ := z
  obtain ⟨b, q1, q2, q3⟩ := R2.ow j p z2
  rw [z1] at q1; cases q1
  exact q3 (.inr rfl)
 have hv2 : H2 a = some (.lst us) := e2.keep a _ hv na nofun
 have c12 := e2.car (F := With F a)
 let F' : Addr → Prop := Oof F σ η2
 have m1 : ∀ c, With F' a c → Oof (With F a) σ η2 c := fun c z => by
  rcases z with (z | z) | z
  ·exact .inl (.inl z)
  ·exact .inr z
  ·exact .inl (.inr z)
 have m2 : ∀ c, Oof (With F a) σ η2 c → With F' a c := fun c z => by
  rcases z with (z | z) | z
  ·exact .inl (.inl z)
  ·exact .inr z
  ·exact .inl (.inr z)
 refine ⟨F', a, vs, .l xs, args, _, by simp, fun z => z.elim nf na2, fun c z => R2.trO c (m1 c (.inl z)), R2.tb, ⟨us, hv2, (r.car c12).mono m1⟩, r2.mono m1, h2, fun z o' v H3 pz g tb ho' rz => ?_⟩
 have c3 : Car (Oof (With F a) σ η2) (Oof F σ η2) H2 H3 := fun c u n hc t => ⟨g.keep c u (fun q => n (by rw [q]; exact .inl (.inr rfl))) hc t, fun z => n (z.elim (fun z => .inl (.inl z)) .inr)⟩
 have R3 : Rs K T F σ η2 H3 := by
  refine ⟨R2.len, fun i y e => ?_, fun i o e => ?_, R2.nd, fun b z => g.live b (R2.tr b (.inl z)), tb⟩
  ·obtain ⟨v, q1, q2⟩ := R2.va i y e
   exact ⟨v, q1, q2.car c3⟩
  ·obtain ⟨b, q1, q2, q3⟩ := R2.ow i o e
   have nb : b ≠ a := fun z => q3 (.inr z)
   refine ⟨b, q1, q2.car c3 ?_, fun z => q3 (.inl z)⟩
   cases o with
   | l xs => obtain ⟨vs, q, _⟩ := q2; rw [q]; exact g.keep _ _ nb q nofun
   | o C fs => obtain ⟨dx, ws, q, _⟩ := q2; rw [q]; exact g.keep _ _ nb q nofun
   | d kvs => obtain ⟨ws, q, _⟩ := q2; rw [q]; exact g.keep _ _ nb q nofun
 have E2 := e1.trans e2
 refine k _ _ _ _ pz ⟨fun b u hb n t => g.keep b u (fun z => hn.no (by rw [← z]; exact hb) t) (E2.keep b u hb n t) t, fun b hb => g.live b (E2.live b hb), E2.new, E2.fst⟩ R3 (rz.mono fun c z => .inl z)
theorem z_callRFG {e0 : Expr} (Fn : FnG X.prog X.w X.K X.mg X.base k f fd ps (upSpR X.K T sr)) (hG : X.A.guards = some []) (hr : Room k X.A) (hg : Gl X x) (hm : X.mg x = some (.ref f)) (hk : PySem.W.keepIn X.K (.ref f) = true) (hb : Binds X.K fd ps [])
  (ha : PA X (e0 :: es) (tCons (upF X.K T tf) (upA X.K T t))) (hdb : (x == ("__debug__" : Str)) = false := by decide) (he : starEach (e0 :: es) X.env = (false, eval e0 X.env) :: starEach es X.env := by rfl) (hpl : (backTo pos (starEach es X.env)).any (·.1) = false := by rfl) :
  PE X (.Call (.Name x p) (e0 :: es) [] pos) (up X.K T (tCallRFP tf sr t)) :=
 PE.weak (pe_callG Fn hG hr hg hm hk hb .nil ha hdb he hpl) fun σ H Q q => callRF_up q
def putFP (f : Str) (x : PV) : List (Str × PV) → List (Str × PV)
 | [] => [(f, x)]
 | (n, y) :: r => if n = f then (n, x) :: r else (n, y) :: putFP f x r
theorem putF_rep {K : PySem.W.Frag} {O H} {f : Str} {x : PV} {v : V} (h : Rep K O H x v) : ∀ {fs : List (Str × PV)} {ws : List (Str × V)}, RepF K O H fs ws → RepF K O H (putFP f x fs) (putF f v ws)
 | [], _, r => by
  unfold RepF at r; subst r
  unfold putFP putF RepF
  exact ⟨v, [], rfl, h, by unfold RepF; rfl⟩
 | (n, y) :: fs, _, r => by
  unfold RepF at r
  obtain ⟨w, us, rfl, r1, r2⟩ := r
  unfold putFP putF
  by_cases e : n = f
  ·subst e
   rw [if_pos rfl, if_pos rfl]
   unfold RepF
   exact ⟨v, us, rfl, h, r2⟩
  ·rw [if_neg e, if_neg (by exact fun z => e (by first | exact z.symm | exact z))]
   unfold RepF
   exact ⟨w, _, rfl, r1, putF_rep h r2⟩
def tFldSP (C : Addr) (i : Nat) (f : Str) (te : TEp) : TSp := fun D η => te η fun x η1 => match η1[i]? with
 | some (.ow (.o C' fs)) => C' = C ∧ fs.length < 1000 ∧ D.nx (η1.set i (.ow (.o C (putFP f x fs))))
 | _ => False
theorem z_fldS {i : Nat} {f : Str} {value : Expr} {pos' : Pos} (c : Cls X.K C) (n : NoAttr X.K C f) (ho : PE X o (tVar i)) (hv : PE X value (up X.K T te)) (hs : swapsWith value (some (.Attribute o f pos')) pos.line X.env = pure false := by rfl) :
  PS X (.Assign [.Attribute o f pos'] value pos) (upS X.K T (tFldSP C i f te)) := by
 refine PS.weak (ps_fld ho hv hs) fun D σ H q => ?_
 obtain ⟨F, η, D', R, h, k1, k2, k3, k4⟩ := q
 refine ⟨F, η, _, R, h, fun x η1 v H1 h1 e1 R1 r1 => ?_⟩
 split at h1
 ·rename_i C' fs e
  obtain ⟨rfl, hl, h1⟩ := h1
  obtain ⟨a, s, ⟨dx, ws, q1, q2⟩, nf⟩ := R1.ow i _ e
  refine ⟨_, s, a, C', dx, ws, rfl, q1, c, n, by rw [q2.len]; exact hl, ?_⟩
  obtain ⟨W, E⟩ := R1.write (o' := .o C' (putFP f x fs)) (u := .ins C' dx (putF f v ws)) e s q1 nofun nofun nofun fun c => ⟨dx, _, upd_same, putF_rep (r1.car c) (q2.car c)⟩
  exact k1 _ _ _ h1 (e1.trans E) W
 ·cases h1
def tFldP (C : Addr) (f : Str) (te : TEp) : TEp := fun η P => te η fun x η1 => match x with
 | .ins C' fs => C' = C ∧ ∃ y, fs.lookup f = some y ∧ P y η1
 | _ => False
theorem z_fld {f : Str} (c : Cls X.K C) (n : NoAttr X.K C f) (he : PE X e (up X.K T te)) (hb : attributeBase e f X.env (eval e X.env) = eval e X.env := by rfl) : PE X (.Attribute e f pos) (up X.K T (tFldP C f te)) := by
 refine PE.weak (pe_fld he hb) fun σ H Q q => ?_
 obtain ⟨F, η, P, R, h, k⟩ := q
 refine ⟨F, η, _, R, h, fun x η1 v H1 h1 e1 R1 r1 => ?_⟩
 split at h1
 ·obtain ⟨rfl, y, hy, h1⟩ := h1
  obtain ⟨a, dx, ws, rfl, na, q, rr⟩ := r1.ins_
  obtain ⟨w, hw, rw'⟩ := (rr.look f).1 y hy
  exact ⟨a, _, dx, ws, w, rfl, q, c, n, hw, k _ _ _ _ h1 e1 R1 rw'⟩
 ·cases h1
def tPropP (C : Addr) (sp : SpP) (ta : TEp) : TEp := fun η P => ta η fun x η1 => (∃ fs, x = .ins C fs) ∧ sp [x] fun z => P z η1
theorem z_prop {q : Addr} {f' : Str} (he : PE X e (up X.K T ta)) (c : Cls X.K C) (hp : PropOf X.K C f' q f) (Fn : FnOk X.prog X.w X.K X.mg X.base CX0 k f fd ps (upSp X.K T sp)) (hr : Room (k + 1) X.A) (hb : Binds X.K fd ps [])
  (hab : attributeBase e f' X.env (eval e X.env) = eval e X.env := by rfl) : PE X (.Attribute e f' pos) (up X.K T (tPropP C sp ta)) := by
 refine PE.weak (pe_prop he c hp Fn hr hb .nil pass0 hab) fun σ H Q q => ?_
 obtain ⟨F, η, P, R, h, k⟩ := q
 refine ⟨F, η, _, R, h, fun x η1 v H1 h1 e1 R1 r1 => ?_⟩
 obtain ⟨⟨fs, rfl⟩, h1⟩ := h1
 have r1' := r1
 obtain ⟨a, dx, ws, rfl, na, q, rr⟩ := r1.ins_
 exact ⟨a, dx, ws, rfl, q, Oof F σ η1, _, _, R1.trO, R1.tb, .cons r1' .nil, h1, fun z v H3 pz g tb rz => k z η1 v H3 pz (e1.trans g.ext) (R1.gr g tb) rz⟩
end
set_option maxHeartbeats 1000000 in
theorem meets_enum1 {v : Value} {o : Obj} {H : Heap → Prop} (B : Begins v o H) : Meets (Builtin.«enumerate.__new__» ⟨[.type "enumerate", v], []⟩) (fun _ R s => H s.heap ∧
  R (.ok (.ret (.ref (s.heap.push o).objs.size))) { s with heap := (s.heap.push o).push { cls := .type "enumerate", data := .fields #[.none, .bool false, .ref s.heap.objs.size, rawInt 0, .none, .none] } }) := by
 refine .of_wp fun prog w A R s q => ?_
 obtain ⟨hp, g, d, tk, os⟩ := s
 obtain ⟨h1, q⟩ := q
 have hs := sub_enumerate
 have it : ∀ {A' : Around} {E : Value → Shared → Prop} {Q : Value → Shared → Prop}, Q (.ref hp.objs.size) ⟨hp.push o, g, d, tk, os⟩ → wpAny (model prog w) A' (pyIter v) Q E ⟨hp, g, d, tk, os⟩ := fun z => B.iter prog w _ _ ⟨hp, g, d, tk, os⟩ _ h1 z
 wp_walk using it
 refine wpAny_stack_any fun st => wpAny_pure ?_
 split
 ·rename_i c _ _ _ _ _
  cases (c == Value.type "enumerate") <;> (wp_walk using it; exact ⟨_, rfl, q⟩)
 ·wp_walk using it
  exact ⟨_, rfl, q⟩
theorem call_enum1 {prog : Program} {w : World} {A : Around} {E : Value → Shared → Prop} {s : Shared} {v : Value} {o : Obj} {H : Heap → Prop} {Q : Value → Shared → Prop} (B : Begins v o H) (h1 : H s.heap)
  (q : ∀ h', IsEnum h' (s.heap.objs.size + 1) s.heap.objs.size 0 .none → h'.get? s.heap.objs.size = some o → (∀ b u, s.heap.get? b = some u → h'.get? b = some u) → Q (.ref (s.heap.objs.size + 1)) { s with heap := h' }) :
  wpAny (model prog w) A (call (.type "enumerate") [v]) Q E s := by
 refine callType_new F.called_enumerate (by decide) (F.typeCall_enumerate_1 _) (F.newCall_enumerate_1 _) (fun obj => F.args_object_init_2 obj _) F.entry_enumerate_new (meets_enum1 B) ⟨h1, ?_⟩
 have z : (s.heap.push o).objs.size = s.heap.objs.size + 1 := Heap.size_push ..
 show _ ∧ _
 rw [z]
 have he : ((s.heap.push o).push { cls := .type "enumerate", data := .fields #[.none, .bool false, .ref s.heap.objs.size, rawInt 0, .none, .none] }).get? (s.heap.objs.size + 1) = some { cls := .type "enumerate", data := .fields #[.none, .bool false, .ref s.heap.objs.size, rawInt 0, .none, .none] } := by
  rw [← z]; exact Heap.get?_push_size _ rfl
 exact ⟨⟨_, he, rfl⟩, q _ he (Heap.get?_push_of_some _ (Heap.get?_push_size _ B.free)) fun b u e => Heap.get?_push_of_some _ (Heap.get?_push_of_some _ e)⟩
def Itte (K : PySem.W.Frag) (a : Addr) : It where
 go := fun i H => ∃ (xs : List V) (x : V), SqT K H a xs ∧ xs[i]? = some x
 yld := fun i H v H' => ∃ p x, v = .ref p ∧ H p = none ∧ H' = upd H p (.tup [.int (i : Nat), x]) ∧ ∀ xs, SqT K H a xs → xs[i]? = some x
 stop := fun i H => ∃ xs : List V, SqT K H a xs ∧ xs.length = i
def TnE (a e it : Addr) (i : Nat) (h : Heap) : Prop := (∃ old, IsEnum h e it (0 + ((i : Nat) : Int)) old) ∧ h.IsTupleIter it a i ∧ e ≠ it
theorem tne_apart {a e it : Addr} {i : Nat} {h : Heap} {items : Array Value} (t : TnE a e it i h) (p : IsTup h a items) : a ≠ it ∧ e ∉ [it, a] := by
 obtain ⟨⟨old, he⟩, ⟨oi, hi, ci, _⟩, ne⟩ := t
 obtain ⟨o, ho, hc, _⟩ := p
 refine ⟨fun z => ?_, fun z => ?_⟩
 ·rw [z, hi] at ho; cases ho; rw [ci] at hc; simp at hc
 ·rcases List.mem_cons.mp z with z | z
  ·exact ne z
  ·have z : e = a := by simpa using z
   have he' : h.get? e = some _ := he
   rw [z, ho] at he'; cases he'; simp at hc
theorem turn_enumT {P : Program} {w : World} {K : PySem.W.Frag} {elts : List Expr} {kk : Nat} {tpos : Pos} (a e it : Addr) : Turn P w K (.Tuple elts kk tpos) (Itte K a) [e, it] e (TnE a e it) where
 mem := by simp
 obj := fun i h st b hb => by
  obtain ⟨⟨old, he⟩, ⟨oi, hi, ci, di⟩, _⟩ := st
  rcases List.mem_cons.mp hb with z | z
  ·rw [z]; exact ⟨_, he, fun v q => nomatch q⟩
  ·have z : b = it := by simpa using z
   rw [z]; exact ⟨oi, hi, fun v q => by rw [di] at q; cases q⟩
 keep := fun i h h' st k => by
  obtain ⟨⟨old, he⟩, hi, ne⟩ := st
  exact ⟨⟨old, k e (by simp) _ he⟩, hi.at fun o q => k it (by simp) o q, ne⟩
 item := by
  intro X hP hw hK hc i pins s σ H E I hf st hg
  subst hP hw hK
  obtain ⟨xs, x, hq, hx⟩ := hg
  obtain ⟨its, rv, p, hz⟩ := I.tuple hq
  obtain ⟨u, hu, ru⟩ := rv.get hx
  obtain ⟨n1, n2⟩ := tne_apart st p
  have W := WalksT.enumFrom 0 (Draws.tuple (prog := X.prog) (w := X.w) (A := X.A.in1) (I.ok.hd hc) it a n1 its.toArray) e st.2.2 n2 (by simp)
  have hi : i < its.toArray.size := by
   have := (List.getElem?_eq_some_iff.mp hu).1
   simpa using this
  refine W.item i s _ _ hi ⟨st.1, st.2.1, p⟩ fun q vals h' tk ⟨t, y, hy, ev⟩ hq' hT hm hk => ?_
  have ey : y = u := by
   rw [Array.getElem?_eq_getElem hi] at hy
   rw [List.getElem?_eq_getElem (by simpa using hi)] at hu
   simp at hy hu
   rw [← hy, ← hu]
  subst ey
  refine ⟨_, rfl, W.go elts kk tpos i q { s with heap := h', toks := tk } _ _ hm fun h'' st' hk' => ?_⟩
  have nq := W.apart i q h' hm
  have hT2 : IsTup h'' q vals := by
   obtain ⟨o, z1, z2⟩ := hT
   exact ⟨o, hk' q o nq z1, z2⟩
  have kp : ∀ b o, b ∉ [e, it] → s.heap.get? b = some o → h''.get? b = some o := fun b o hb z => hk' b o hb (hk b o hb z)
  have new : ObjOk X.prog X.w (upd H q (.tup [.int (i : Nat), x])) h'' q (.tup [.int (i : Nat), x]) := by
   refine ⟨by show 2 ≤ sizeLine; decide, [.int (0 + (i : Int)) t, y], .cons ⟨t, by rw [Int.zero_add]⟩ (.cons ru .nil), ?_⟩
   rw [ev] at hT2; exact hT2
  have hn : H q = none := I.hok.fresh hq'
  refine ⟨.ref q, _, I.turnedNew (t' := tk) (ch := [e, it]) kp hf hq' new, rfl, ⟨q, x, rfl, hn, rfl, fun ys hy => by rw [I.tuple_inj hy hq]; exact hx⟩, ⟨st'.1, st'.2.1, st.2.2⟩, fun b hb => ?_⟩
  have hb' : b ≠ q := fun z => nq (by rw [← z]; exact hb)
  rw [upd_ne hb']
  exact (hf b hb).1
 done := by
  intro X hP hw hK hc i pins s σ H E I hf st hg
  subst hP hw hK
  obtain ⟨xs, hq, hx⟩ := hg
  obtain ⟨its, rv, p, hz⟩ := I.tuple hq
  obtain ⟨n1, n2⟩ := tne_apart st p
  have W := WalksT.enumFrom 0 (Draws.tuple (prog := X.prog) (w := X.w) (A := X.A.in1) (I.ok.hd hc) it a n1 its.toArray) e st.2.2 n2 (by simp)
  have hl : its.toArray.size = i := by rw [← hx, rv.length]; simp
  refine W.done s _ _ (by rw [hl]; exact ⟨st.1, st.2.1, p⟩) fun h' tk kp => ⟨rfl, ?_⟩
  have nit : ∀ b u, H b = some u → b ∉ [e, it] := fun b u z hb => by
   have := (hf b hb).1
   rw [this] at z; cases z
  exact I.step (g' := s.gens) (d' := s.drawn) (t' := tk) (ch := [e, it]) (fun b hb => ⟨(hf b hb).2.2.2.1, (hf b hb).2.1, (hf b hb).2.2.2.2.1, (hf b hb).2.2.2.2.2⟩) (fun b o _ _ hb z _ => kp b o hb z) (fun b o _ _ hb z _ => ⟨o.slots, kp b o hb z⟩) (fun _ _ _ _ n => n)
   (fun b o hb z => ⟨o, kp b o hb z⟩) (fun _ _ z => z) (fun _ _ _ z => z) (fun b ps z => ⟨#[], by rw [z]; simp⟩) (fun m hm => by
    obtain ⟨o, es, ep, ho, r⟩ := hm
    exact ⟨o, es, ep, kp _ o (fun z => (hf _ z).2.1 rfl) ho, r⟩) (fun b u z => (I.hok b u z).stay (fun c v hc q => kp c v (fun y => by
     rcases hc with hc | hc
     ·exact nit b u z (by rw [← hc]; exact y)
     ·exact nit c _ hc y) q) (fun _ q => q) fun _ _ q => q) I.bare
 self := fun A i s Q E st q => by
  obtain ⟨⟨old, he⟩, _⟩ := st
  exact wpAny_pyIter_enum he q
def iEnumT (K : PySem.W.Frag) (te : TE) : TI := fun σ H R => te σ H fun v H1 => ∃ a xs, [v] = [V.ref a] ∧ SqT K H1 a xs ∧ R (Itte K a) H1
theorem pi_enumT {X : Cx} {e : Expr} {te : TE} {p pos tpos : Pos} {elts : List Expr} {kk : Nat} (hg : Gl X "enumerate") (hm : X.mg "enumerate" = none) (he : PE X e te) (hs : starEach [e] X.env = [(false, eval e X.env)] := by rfl) :
  PI X (.Tuple elts kk tpos) (.Call (.Name "enumerate" p) [e] [] pos) (iEnumT X.K te) := by
 constructor
 intro pins s σ H R I h
 refine Call_ (ld_blt I hg hm boot_enumerate (PyProof.Rows.callWith_type1 (thn ((pa_cons he pa_nil hs).run pos pins s σ H (fun vs H1 => ∃ a xs, vs = [V.ref a] ∧ SqT X.K H1 a xs ∧ R (Itte X.K a) H1) I h) fun us s1 ⟨vs, H1, I1, r1, q1⟩ => ?_) hs rfl))
 obtain ⟨a, xs, rfl, hq, q⟩ := q1
 obtain ⟨u, rfl, ru⟩ := vals1 r1
 cases ru
 obtain ⟨its, rv, p', hz⟩ := I1.tuple hq
 refine call_enum1 (begins_tuple a its.toArray) p' fun h' he hit hk => wpAny_pyIter_enum he ?_
 have I2 : L2.Inv X pins σ H1 { s1 with heap := h' } := I1.kept (t' := s1.toks) hk
 refine ⟨s1.heap.objs.size + 1, [s1.heap.objs.size + 1, s1.heap.objs.size], _, _, H1, rfl, I2, turn_enumT a (s1.heap.objs.size + 1) s1.heap.objs.size, ⟨⟨.none, he⟩, ⟨_, hit, rfl, rfl⟩, Nat.succ_ne_self _⟩, fun b hb => ?_, q⟩
 have hle : s1.heap.objs.size ≤ b := by
  rcases List.mem_cons.mp hb with z | z
  ·rw [z]; exact Nat.le_succ _
  ·have z : b = s1.heap.objs.size := by simpa using z
   rw [z]; exact Nat.le_refl _
 exact I1.fpOk hle (I1.hok.fresh hle)
def enumP (xs : List PV) : List PV := xs.zipIdx.map fun p => .tup [.int (p.2 : Nat), p.1]
section
variable {X : Cx} {T : List (Addr × Str)} {e : Expr} {te : TEp}
def iEnumP (te : TEp) : TIp := fun η P => te η fun x η1 => match x with
 | .tup xs => P (enumP xs) η1
 | _ => False
theorem enumP_get {xs : List PV} {i : Nat} {x : PV} (h : (enumP xs)[i]? = some x) : ∃ y, xs[i]? = some y ∧ x = .tup [.int (i : Nat), y] := by
 unfold enumP at h
 rw [List.getElem?_map, List.getElem?_zipIdx] at h
 cases q : xs[i]? with
 | none => rw [q] at h; cases h
 | some y => rw [q] at h; simp at h; exact ⟨y, rfl, h.symm⟩
theorem it_enumT {K : PySem.W.Frag} {O H} {a : Addr} {xs : List PV} {vs : List V} (t : TupAt K O H a vs) (r : Reps K O H xs vs) : Itr8 K O (Itte K a) (enumP xs) H := fun O' H' tr c _ i => by
 have h' := t.inj_car c
 have r' := r.car c
 refine ⟨fun x e => ?_, fun e => ⟨vs, h', by rw [r'.len]; simpa [enumP] using e⟩⟩
 obtain ⟨y, hy, rfl⟩ := enumP_get e
 obtain ⟨v, e1, r1⟩ := r'.get hy
 refine ⟨⟨vs, v, h', e1⟩, fun w H'' q => ?_⟩
 obtain ⟨p, x', rfl, hp, rfl, hx⟩ := q
 have := hx vs h'
 rw [e1] at this; cases this
 exact ⟨Same.new hp, rep_newT tr hp (.cons rep_int (.cons r1 .nil))⟩
theorem zi_enumT {p pos tpos : Pos} {elts : List Expr} {kk : Nat} (hg : Gl X "enumerate") (hm : X.mg "enumerate" = none) (he : PE X e (up X.K T te)) (hs : starEach [e] X.env = [(false, eval e X.env)] := by rfl) :
  PI X (.Tuple elts kk tpos) (.Call (.Name "enumerate" p) [e] [] pos) (upI X.K T (iEnumP te)) := by
 refine PI.weak (pi_enumT hg hm he hs) fun σ H Q q => ?_
 obtain ⟨F, η, P, R, h, k⟩ := q
 refine ⟨F, η, _, R, h, fun x η1 v H1 h1 e1 R1 r1 => ?_⟩
 split at h1
 ·obtain ⟨a, vs, rfl, t, rr⟩ := r1.tup_
  exact ⟨a, vs, rfl, t.sq, k _ _ _ _ h1 e1 R1 (it_enumT t rr)⟩
 ·cases h1
end
section
variable {prog : Program} {w : World} {A : Around} {E : Value → Shared → Prop} {s : Shared}
def copied (g : Heap) (vs : List Value) : Heap := (g.push (seqObj "list" #[] 0)).update g.objs.size (Obj.mapSeq (· ++ vs.toArray))
theorem collect_tup {l : Addr} {vs : List Value} {Q : List Value → Shared → Prop} (p : IsTup s.heap l vs.toArray) (hz : vs.length ≤ sizeLine) (q : Q vs { s with heap := copied s.heap vs }) :
  wpAny (model prog w) A (collect (.ref l)) Q E s := by
 obtain ⟨ob, hb, cb, k, db⟩ := p
 have old : (s.heap.push (seqObj "list" #[] 0)).get? l = some ob := Heap.get?_push_of_some _ hb
 have new : (s.heap.push (seqObj "list" #[] 0)).get? s.heap.objs.size = some (seqObj "list" #[] 0) := Heap.get?_push_size _ rfl
 have tt : (Value.type "tuple" == Value.type "tuple") = true := by rfl
 have sz : ((#[] : Array Value) ++ vs.toArray).size ≤ sizeLine + 1 := by
  rw [Array.size_append, List.size_toArray]
  simp
  omega
 unfold collect
 refine wpAny_bind
  (wpAny_runValue (codeAny_builtin entry_proto_collect' ?_))
 show wpAny _ _ (do
  again (.builtin "list.__iadd__" ⟨[← newList [], .ref l], []⟩)) _ _ s
 refine wpAny_bind (wpAny_newList
  (wpAny_pure ⟨Code.quiet_builtin _ (by decide +kernel), codeAny_builtin entry_list_iadd' ?_⟩))
 show wpAny _ _
  (Builtin.List.listExtendWith (.ref s.heap.objs.size) (.ref l) (.ref s.heap.objs.size)) _ _
  { s with heap := s.heap.push (seqObj "list" #[] 0) }
 unfold Builtin.List.listExtendWith
 refine wpAny_bind (wpAny_typeOf (T := "tuple") ⟨ob, old, cb⟩ ?_)
 rw [if_pos (by rw [tt, Bool.or_true])]
 refine wpAny_bind (listItems_at old db ?_)
 refine wpAny_bind (listItems_at new rfl ?_)
 rw [if_neg (by simp)]
 refine wpAny_bind (listUpdate_at new rfl ?_ (Nat.zero_le _) sz)
 refine wpAny_pure ?_
 show wpAny (model prog w) A (do
  let ob ← load s.heap.objs.size
  match ob.data with
  | .seq xs _ => pure xs.toList
  | _ => unsupported "internal:collect") Q E { s with heap := copied s.heap vs }
 refine wpAny_bind (wpAny_load (get?_update_seq new _) ?_)
 show wpAny _ _ (pure ((#[] : Array Value) ++ vs.toArray).toList) Q E _
 have e : ((#[] : Array Value) ++ vs.toArray).toList = vs := by simp
 rw [e]
 exact wpAny_pure q
theorem sort_of_tup {l : Addr} {vs : List Value} {kw : List (Str × Value)} {Q : Value → Shared → Prop} (p : IsTup s.heap l vs.toArray) (hz : vs.length ≤ sizeLine) (a1 : argsOk "sorted" ⟨[.ref l], kw⟩) (a2 : ∀ x, argsOk "list.sort" ⟨[.ref x], kw⟩)
  (body : ∀ E' : Value → Shared → Prop, wpAny (model prog w) A.in1.in1 (Builtin.«list.sort» ⟨[.ref (s.heap.objs.size + 1)], kw⟩)
   (fun f s' => f = .done (.ret .none) ∧ Q (.ref (s.heap.objs.size + 1)) s') E' { s with heap := PySem.W.copyHeap s.heap vs }) :
  wpAny (model prog w) A (call (.builtin "sorted") [.ref l] kw) Q E s := by
 have sz : (copied s.heap vs).objs.size = s.heap.objs.size + 1 := by
  unfold copied
  rw [Heap.size_update, size_push']
 refine call_function_entry_kw kind_sorted plain_sorted entry_sorted a1 ?_
 unfold Builtin.«sorted»
 refine wpAny_bind
  (m := checkCount "sorted" 1 1 _) (wpAny_pure ?_)
 refine wpAny_bind (collect_tup p hz ?_)
 refine wpAny_bind (wpAny_newList ?_ hz)
 show wpAny _ _ _ _ _
  { s with heap := PySem.W.copyHeap s.heap vs }
 rw [sz]
 refine wpAny_bind (wpAny_holding
  (wpAny_call_entry_kw slot_list_sort ⟨_, PySem.W.copyHeap_at s.heap vs, rfl⟩ entry_list_sort ?_ (a2 _)))
 show wpAny (model prog w) A.in1.in1
  (Builtin.«list.sort» ⟨[.ref (s.heap.objs.size + 1)], kw⟩) _ _ _
 refine wpAny_mono (body _) (fun f s' z => ?_) fun _ _ e => e
 obtain ⟨e, z⟩ := z
 subst e
 exact ⟨_, rfl, wpAny_pure ⟨_, rfl, z⟩⟩
theorem sorted_key_tup {β : Type} {R : Value → β → Prop} {bs : List β} {l : Addr} {vs : List Value} {f : Value} {kw : List (Str × Value)} {Q : Value → Shared → Prop} (k : β → PyData) (p : IsTup s.heap l vs.toArray) (e : PySem.W.EachIs R vs bs) (hal : PySem.W.AllAlike (bs.map k)) (hk : PySem.W.Sortable (bs.map k)) (hL : bs.length ≤ sizeLine)
  (hu : ∀ x, x ∈ bs → A.units + 2 + (k x).depth < cLine) (a1 : argsOk "sorted" ⟨[.ref l], kw⟩) (a2 : ∀ x, argsOk "list.sort" ⟨[.ref x], kw⟩) (ht : ∀ x, Builtin.«list.sort» ⟨[.ref x], kw⟩ = ksk_tree x f false)
  (turn : ∀ (v : Value) (x : β), R v x → x ∈ bs → ∀ (h : Heap) (tk : Nat), (∀ b o, s.heap.get? b = some o → h.get? b = some o) →
   wpAny (model prog w) A.in1.in1 (call f [v]) (PySem.W.KeyPure (k x) { s with heap := h, toks := tk }) (fun _ _ => False) { s with heap := h, toks := tk })
  (q : ∀ out c h' tk, (∀ b o, s.heap.get? b = some o → h'.get? b = some o) → h'.get? (s.heap.objs.size + 1) = some (seqObj "list" (List.toArray out) c) → out.length = bs.length → PySem.W.EachIs R out (bs.mergeSort (PySem.W.dataLe false k)) →
   Q (.ref (s.heap.objs.size + 1)) { s with heap := h', toks := tk }) :
  wpAny (model prog w) A (call (.builtin "sorted") [.ref l] kw) Q E s := by
 have grown : ∀ {g : Heap}, PySem.W.KeepsBut (s.heap.objs.size + 1) (PySem.W.copyHeap s.heap vs) g → ∀ b o, s.heap.get? b = some o → g.get? b = some o := fun kp b o z =>
  kp b o (Nat.ne_of_lt (Nat.lt_succ_of_lt (Heap.lt_size z))) (PySem.W.copyHeap_old z)
 have hlen : (bs.map k).length = vs.length := by rw [List.length_map]; exact e.length.symm
 refine sort_of_tup p (by rw [e.length]; exact hL) a1 a2 fun E' => ?_
 rw [ht]
 refine PySem.W.keyH_tree (kz := bs.map k) (s := { s with heap := PySem.W.copyHeap s.heap vs })
  (PySem.W.copyHeap_at s.heap vs) hlen (by rw [e.length]; exact hL) hal hk (fun d hd => ?_)
  (PySem.W.keyH_turns (s := { s with heap := PySem.W.copyHeap s.heap vs }) e fun v x hR hx h tk kp => turn v x hR hx h tk (grown kp))
  fun h' tk out c kp hD ko => ⟨rfl, ?_⟩
 ·obtain ⟨x, hx, rfl⟩ := List.mem_map.mp hd
  have := hu x hx
  show A.units + 1 + 1 + _ < _
  omega
 ·exact q out c h' tk (grown kp) hD ((ko.length hlen).trans e.length) (PySem.W.keyedOut_each k ko e)
end
structure Lam1 (nm : Str) (scope : Scope) : Prop where
 kind : scope.kind = .function
 co : scope.isCoroutine = false
 gen : scope.isGenerator = false
 loc : scope.names.lookup nm = some .local
 own : ∀ y ∈ scope.names, y.2 ≠ .cell
section
variable {prog : Program} {w : World} {A : Around} {E : Value → Shared → Prop} {s : Shared}
theorem lam_pair {f r : Addr} {c' : Addr} {name qual nm : Str} {params : Arguments} {scope : Scope} {pm ctv : Value} {items : Array Value} {i j : Int} {ki kj : Nat} {u v : Value} {k1 k2 p1 p2 p3 p4 p5 p6 kt pt} {Q : Value → Shared → Prop}
  (L : Lam1 nm scope) (hroom : A.depth < recursionLimit)
  (ho : s.heap.get? f = some (PySem.W.kla_obj name qual params (.Tuple [.Subscript (.Name nm p1) (.Constant (.int i) k1 p2) p3, .Subscript (.Name nm p4) (.Constant (.int j) k2 p5) p6] kt pt) scope [] pm c' ctv))
  (hcd : s.heap.CodeRec (.ref c') qual) (hlim : s.heap.NoLimit)
  (hb : bindArgs (PySem.W.kla_fn name qual params (.Tuple [.Subscript (.Name nm p1) (.Constant (.int i) k1 p2) p3, .Subscript (.Name nm p4) (.Constant (.int j) k2 p5) p6] kt pt) scope [] pm (.ref c') ctv) ⟨[.ref r], []⟩ = pure [(nm, .ref r)])
  (ht : IsTup s.heap r items) (bi : -(2 ^ 63) ≤ i ∧ i < 2 ^ 63 ∧ seqIndex? i items.size = some ki ∧ items[ki]? = some u) (bj : -(2 ^ 63) ≤ j ∧ j < 2 ^ 63 ∧ seqIndex? j items.size = some kj ∧ items[kj]? = some v)
  (hd : (nm == ("__debug__" : Str)) = false)
  (q : ∀ h' tk a, (∀ b o, s.heap.get? b = some o → h'.get? b = some o) → IsTup h' a #[u, v] → Q (.ref a) { s with heap := h', toks := tk }) :
  wpAny (model prog w) A (call (.ref f) [.ref r]) Q E s := by
 refine wpAny_call (PySem.W.kla_callFunE hroom ho rfl L.co L.gen rfl hcd ?_)
 rw [hb]
 refine wpAny_pure (wpAny_newFunctionEnv L.own (fun y hy => ?_) (fun h1 hns hsb => ⟨hlim.fresh _ hsb, ?_⟩) L.kind)
 ·have e : y = (nm, .ref r) := by simpa using hy
  rw [e]; exact L.loc
 refine PySem.W.kla_codeExpr ?_
 have kp : ∀ b o, s.heap.get? b = some o → h1.get? b = some o := fun b o e => hsb.extBut b o (Nat.ne_of_lt (Heap.lt_size e)) (Heap.get?_push_of_some _ e)
 have ht1 : IsTup h1 r items := ht.keeps kp
 have nml : (fun y => ([(nm, Value.ref r)] : List (Str × Value)).reverse.lookup y) nm = some (.ref r) := by
  show ([(nm, Value.ref r)] : List (Str × Value)).lookup nm = _
  simp
 refine wpAny_Tuple_spliced ?_
 show wpAny _ _ (spliced [(false, _), (false, _)]) _ _ _
 refine Calls.spliced_cons (Subscript_ (wpAny_Name (wpAny_loadName_local L.kind L.loc hns nml ?_) hd))
 refine wpAny_Constant_int (item_tuple (ht1) bi.1 bi.2.1 bi.2.2.1 bi.2.2.2 ?_)
 refine Calls.spliced_cons (Subscript_ (wpAny_Name (wpAny_loadName_local L.kind L.loc hns nml ?_) hd))
 refine wpAny_Constant_int (item_tuple (ht1) bj.1 bj.2.1 bj.2.2.1 bj.2.2.2 ?_)
 refine Calls.spliced_nil ⟨by show 2 ≤ sizeLine; decide, ?_⟩
 exact q _ _ _ (fun b o e => Heap.get?_push_of_some _ (kp b o e)) (IsTup.new _ _)
end
section
variable {X : Cx} {T : List (Addr × Str)} {e : Expr} {te : TEp}
def keyP (i j : Int) : PV → PyData
 | .tup xs => match atI xs i, atI xs j with
  | some a, some b => .tuple [encD a, encD b]
  | _, _ => .none
 | _ => .none
def flatD : PV → Bool
 | .int _ => true
 | .str _ => true
 | _ => false
def tSortLP (i j : Int) (te : TEp) : TEp := fun η P => te η fun x η1 => match x with
 | .tup xs => (∀ y ∈ xs, ∃ ys a b, y = .tup ys ∧ atI ys i = some a ∧ atI ys j = some b ∧ flatD a = true ∧ flatD b = true) ∧ PySem.W.AllAlike (xs.map (keyP i j)) ∧ xs.length ≤ sizeLine ∧ P (.lst (xs.mergeSort (PySem.W.dataLe false (keyP i j)))) η1
 | _ => False
theorem flat_reads {K : PySem.W.Frag} {O H} {h : Heap} {x : PV} {v : V} {u : Value} (f : flatD x = true) (r : Rep K O H x v) (ru : L2.RelV v u) : Reads h u (encD x) [] := by
 cases x with
 | int i =>
  cases r.int_
  obtain ⟨t, rfl⟩ := ru
  exact .int _ _
 | str i =>
  cases r.str_
  obtain ⟨t, rfl⟩ := ru
  exact .str _ _
 | _ => cases f
theorem z_sortL {i j : Int} {nm : Str} {x : Str} {p lpos pos kpos : Pos} {params : Arguments} {scope : Scope} {c P : Addr} {k1 k2 p1 p2 p3 p4 p5 p6 kt pt} {k : Nat}
  (hg : Gl X "sorted") (hm : X.mg "sorted" = none) (he : PE X e (up X.K T te)) (hr : Room k X.A) (L : Lam1 nm scope) (hdef : defaultsOf params X.env = ([], [])) (TB : LamX.TabB X.base X.mg c P) (hcode : X.env.code = .ref c) (hmT : (P, X.env.qual ++ "<lambda>") ∈ T) (huT : ∀ p ∈ T, p.1 = P → p.2 = X.env.qual ++ "<lambda>")
  (hfree : ∀ y ∈ scope.names, y.2 ≠ .free)
  (hcl : cloFrom X.env.cells scope.names [] = [])
  (hb : ∀ (r : Addr) (q : Str) (pm cv ctv : Value), bindArgs (PySem.W.kla_fn "<lambda>" q params (.Tuple [.Subscript (.Name nm p1) (.Constant (.int i) k1 p2) p3, .Subscript (.Name nm p4) (.Constant (.int j) k2 p5) p6] kt pt) scope [] pm cv ctv) ⟨[.ref r], []⟩ = pure [(nm, .ref r)])
  (bi : -(2 ^ 63) ≤ i ∧ i < 2 ^ 63) (bj : -(2 ^ 63) ≤ j ∧ j < 2 ^ 63) (hd : (nm == ("__debug__" : Str)) = false)
  (hs : starEach [e] X.env = [(false, eval e X.env)] := by rfl) (h5 : backTo pos (starEach [e] X.env) = (false, eval e X.env) :: backTo pos (starEach [] X.env) := by rfl) (h6 : (backTo pos (starEach [e] X.env)).any (·.1) = false := by rfl) :
  PE X (.Call (.Name "sorted" p) [e] [⟨some "key", .Lambda params (.Tuple [.Subscript (.Name nm p1) (.Constant (.int i) k1 p2) p3, .Subscript (.Name nm p4) (.Constant (.int j) k2 p5) p6] kt pt) scope lpos, kpos⟩] pos) (up X.K T (tSortLP i j te)) := by
 constructor
 intro pins s σ H Q I h
 obtain ⟨F, η, PP, R, h, kk⟩ := h
 apply wpAny_Call_Name_kw
 refine ld_blt (u := .builtin "sorted") I hg hm (by decide +kernel) ?_
 refine PyProof.Rows.callWith_kw (thn ((pa_cons he pa_nil hs).run pos pins s σ H (fun vs H1 => ∃ xs η1 a us, vs = [V.ref a] ∧ TupAt X.K (Oof F σ η1) H1 a us ∧ Reps X.K (Oof F σ η1) H1 xs us ∧ Rs X.K T F σ η1 H1 ∧ Ext σ η σ η1 H H1 ∧
  (∀ y ∈ xs, ∃ ys a b, y = .tup ys ∧ atI ys i = some a ∧ atI ys j = some b ∧ flatD a = true ∧ flatD b = true) ∧ PySem.W.AllAlike (xs.map (keyP i j)) ∧ xs.length ≤ sizeLine ∧ PP (.lst (xs.mergeSort (PySem.W.dataLe false (keyP i j)))) η1) I ?_) fun us s1 hA => ?_) ?_ ?_ ?_ ?_
 ·refine ⟨F, η, _, R, h, fun x η1 v H1 h1 e1 R1 r1 => ?_⟩
  split at h1
  ·obtain ⟨a, us, rfl, t, rr⟩ := r1.tup_
   exact ⟨_, η1, a, us, rfl, t, rr, R1, e1, h1⟩
  ·cases h1
 ·obtain ⟨vs, H1, I1, r1, xs, η1, a, us', rfl, tA, rr, R1, e1, hx, hal, hz, hP⟩ := hA
  obtain ⟨u0, rfl, ru⟩ := vals1 r1
  cases ru
  show wpAny _ _ (evalAll [do let v ← eval (.Lambda params (.Tuple [.Subscript (.Name nm p1) (.Constant (.int i) k1 p2) p3, .Subscript (.Name nm p4) (.Constant (.int j) k2 p5) p6] kt pt) scope lpos) X.env; standAt pos; pure v]) _ _ s1
  refine wpAny_evalAll_cons (wpAny_bind (LamX.lam_make2 I1 TB hcode hmT huT R1.tb hdef (fun y hy e => absurd e (hfree y hy)) fun f c' pm ctv H2 s2 I2 eN T2 hf hfn hfr hco => wpAny_bind (wpAny_standAt (wpAny_pure (wpAny_evalAll_nil ?_)))))
  have g : Gr H1 H2 := ⟨eN, fun b n q => n fun o ho => Classical.byContradiction fun nt => q.no (eN b o ho fun ps z => nt ⟨ps, z⟩) fun ps z => nt ⟨ps, z⟩⟩
  have R2 := R1.gr g T2
  have c12 : Car (Oof F σ η1) (Oof F σ η1) H1 H2 := g.car
  have tA2 := tA.car c12
  have rr2 := rr.car c12
  obtain ⟨its, rits, p, hz2⟩ := I2.tuple tA2.sq
  rw [hcl] at hf
  obtain ⟨⟨oc, vs, tq, hoc, hdc, hvc⟩, _, _⟩ := I2.hok c' _ hco
  have hu := hr.un
  have hdp := hr.dp
  have hmem : ∀ y ∈ xs, (keyP i j y).depth ≤ 1 ∧ ∃ ys a b, y = .tup ys ∧ atI ys i = some a ∧ atI ys j = some b ∧ flatD a = true ∧ flatD b = true := fun y hy => by
   obtain ⟨ys, a, b, rfl, ha, hb', fa, fb⟩ := hx y hy
   refine ⟨?_, ys, a, b, rfl, ha, hb', fa, fb⟩
   unfold keyP
   simp only [ha, hb']
   cases a <;> first | cases fa | skip
   all_goals (cases b <;> first | cases fb | skip)
   all_goals (simp [encD, toD, PyData.depth, PyData.depthAll])
  refine sorted_key_tup (R := ValR X.K (Oof F σ η1) H2) (bs := xs) (f := .ref f) (keyP i j) p (each_val rr2 rits) hal ?_ hz (fun y hy => by have := (hmem y hy).1; omega) (ksk_s1 _ _) (fun x => ?_) (fun x => ksk_t1 f x) ?_ ?_
  ·refine .inl fun d hd => ?_
   obtain ⟨y, hy, rfl⟩ := List.mem_map.mp hd
   obtain ⟨_, ys, a, b, rfl, ha, hb', _, _⟩ := hmem y hy
   exact ⟨encD a, [encD b], by unfold keyP; simp only [ha, hb']⟩
  ·exact ksk_l1 _ _
  ·rintro v y ⟨w, rw', rep⟩ hy h tk kp
   obtain ⟨_, ys, a, b, rfl, ha, hb', fa, fb⟩ := hmem y hy
   obtain ⟨r, ws, rfl, t, rw2⟩ := rep.tup_
   cases rw'
   obtain ⟨its2, r3, p3, _⟩ := I2.tuple t.sq
   have lens : its2.length = ys.length := by rw [← r3.length]; exact rw2.len
   have item : ∀ {k : Int} {z : PV}, atI ys k = some z → flatD z = true → ∃ kk uu, seqIndex? k its2.toArray.size = some kk ∧ its2.toArray[kk]? = some uu ∧ ∀ h', Reads h' uu (encD z) [] := fun {k z} hk fz => by
    obtain ⟨kk, q1, q2, _⟩ := atI_get hk
    obtain ⟨v', q3, q4⟩ := rw2.get q2
    obtain ⟨uu, q5, q6⟩ := r3.get q3
    refine ⟨kk, uu, by rw [List.size_toArray, lens]; exact q1, by simpa using q5, fun h' => flat_reads fz q4 q6⟩
   obtain ⟨ki, ui, i1, i2, i3⟩ := item ha fa
   obtain ⟨kj, uj, j1, j2, j3⟩ := item hb' fb
   refine lam_pair (c' := c') (items := its2.toArray) L ?_ (kp _ _ hf) ⟨c', oc, vs, tq, rfl, kp _ _ hoc, hdc, hvc⟩ (I2.nolimit.keeps kp) (hb _ _ _ _ _) (p3.keeps kp) ⟨bi.1, bi.2, i1, i2⟩ ⟨bj.1, bj.2, j1, j2⟩ hd fun h' tk' a' kp' ht' => ?_
   ·show X.A.depth < recursionLimit
    omega
   ·refine ⟨h', tk', rfl, kp', ?_⟩
    obtain ⟨o, ho, hc, n, hd'⟩ := ht'
    have e : keyP i j (.tup ys) = .tuple [encD a, encD b] := by unfold keyP; simp only [ha, hb']
    rw [e]
    exact Reads.tuple ho hc hd' (ReadsAll.cons (i3 h') (ReadsAll.cons (j3 h') ReadsAll.nil))
  ·intro out cc h' tk kp hD ho eo
   obtain ⟨ys, r3, r4⟩ := val_each eo
   have fr : H2 (s2.heap.objs.size + 1) = none := I2.hok.fresh (Nat.le_succ _)
   refine ⟨.ref (s2.heap.objs.size + 1), upd H2 (s2.heap.objs.size + 1) (.lst ys), I2.laid (t' := tk) kp (Nat.le_succ _) ⟨?_, out, cc, r4, hD⟩, rfl, ?_⟩
   ·rw [r3.len, List.length_mergeSort]; exact hz
   ·exact kk _ η1 _ _ hP ((e1.trans g.ext).trans (.same (Same.new fr))) (R2.same (Same.new fr)) (rep_newL R2.trO fr r3)
 ·exact h5
 ·exact h6
 all_goals rfl
end
inductive Ar where
 | v (x : PV) | fo (o : Ow)
abbrev Ar.f (xs : List PV) : Ar := .fo (.l xs)
abbrev TArp := EP' → (List Ar → EP' → Prop) → Prop
def ArOk (K : PySem.W.Frag) (O : Addr → Prop) (H : Hp) : List Ar → List V → Prop
 | [], vs => vs = []
 | .v x :: ars, vs => ∃ v us, vs = v :: us ∧ Rep K O H x v ∧ ArOk K O H ars us
 | .fo o :: ars, vs => ∃ a us, vs = .ref a :: us ∧ OwAt K O H a o ∧ ArOk K O H ars us
def ArNew (F : Addr → Prop) (H : Hp) : List Ar → List V → Prop
 | .v _ :: ars, _ :: us => ArNew F H ars us
 | .fo _ :: ars, .ref a :: us => Nw H a ∧ ¬ F a ∧ ArNew (With F a) H ars us
 | [], [] => True
 | _, _ => False
def FA (F : Addr → Prop) : List Ar → List V → Addr → Prop
 | .v _ :: ars, _ :: us => FA F ars us
 | .fo _ :: ars, .ref a :: us => FA (With F a) ars us
 | _, _ => F
def upAr (K : PySem.W.Frag) (T : List (Addr × Str)) (tp : TArp) : TA := fun σ H Q => ∃ F η P, Rs K T F σ η H ∧ tp η P ∧ ∀ ars η' vs H', P ars η' → Ext σ η σ η' H H' → Rs K T (FA F ars vs) σ η' H' → ArNew F H ars vs → ArOk K (Oof (FA F ars vs) σ η') H' ars vs → Q vs H'
section
variable {K : PySem.W.Frag} {T : List (Addr × Str)} {F : Addr → Prop} {σ : St} {η : EP'} {H H' : Hp}
theorem ArOk.mono {O O' : Addr → Prop} (h : ∀ a, O' a → O a) : ∀ {ars : List Ar} {vs : List V}, ArOk K O H ars vs → ArOk K O' H ars vs
 | [], _, r => r
 | .v x :: ars, _, r => by
  obtain ⟨v, us, rfl, r1, r2⟩ := r
  exact ⟨v, us, rfl, r1.mono h, r2.mono h⟩
 | .fo o :: ars, _, r => by
  obtain ⟨a, us, rfl, r1, r2⟩ := r
  exact ⟨a, us, rfl, r1.mono h, r2.mono h⟩
theorem FA_with {a b : Addr} : ∀ {ars : List Ar} {vs : List V} {F : Addr → Prop}, FA (With F a) ars vs b ↔ FA F ars vs b ∨ b = a
 | [], [], F => Iff.rfl
 | [], _ :: _, F => Iff.rfl
 | .v _ :: ars, _ :: us, F => FA_with (ars := ars) (vs := us)
 | .v _ :: _, [], F => Iff.rfl
 | .fo _ :: ars, .ref c :: us, F => by
  show FA (With (With F a) c) ars us b ↔ FA (With F c) ars us b ∨ b = a
  rw [FA_with, FA_with, FA_with]
  constructor
  ·rintro ((h | h) | h)
   ·exact .inl (.inl h)
   ·exact .inr h
   ·exact .inl (.inr h)
  ·rintro ((h | h) | h)
   ·exact .inl (.inl h)
   ·exact .inr h
   ·exact .inl (.inr h)
 | .fo _ :: _, [], F => Iff.rfl
 | .fo _ :: _, .non :: _, F => Iff.rfl
 | .fo _ :: _, .bl _ :: _, F => Iff.rfl
 | .fo _ :: _, .int _ :: _, F => Iff.rfl
 | .fo _ :: _, .str _ :: _, F => Iff.rfl
 | .fo _ :: _, .byt _ :: _, F => Iff.rfl
 | .fo _ :: _, .flt _ :: _, F => Iff.rfl
 | .fo _ :: _, .ty _ :: _, F => Iff.rfl
theorem ArNew.mono : ∀ {ars : List Ar} {vs : List V} {F F' : Addr → Prop}, (∀ a, F' a → F a) → ArNew F H ars vs → ArNew F' H ars vs
 | [], [], _, _, _, _ => trivial
 | [], _ :: _, _, _, _, h => h.elim
 | .v _ :: ars, _ :: us, _, _, m, h => ArNew.mono (ars := ars) (vs := us) m h
 | .v _ :: _, [], _, _, _, h => h.elim
 | .fo _ :: ars, .ref c :: us, _, _, m, h => ⟨h.1, fun z => h.2.1 (m c z), ArNew.mono (ars := ars) (vs := us) (fun a z => z.elim (fun z => .inl (m a z)) .inr) h.2.2⟩
 | .fo _ :: _, [], _, _, _, h => h.elim
 | .fo _ :: _, .non :: _, _, _, _, h => h.elim
 | .fo _ :: _, .bl _ :: _, _, _, _, h => h.elim
 | .fo _ :: _, .int _ :: _, _, _, _, h => h.elim
 | .fo _ :: _, .str _ :: _, _, _, _, h => h.elim
 | .fo _ :: _, .byt _ :: _, _, _, _, h => h.elim
 | .fo _ :: _, .flt _ :: _, _, _, _, h => h.elim
 | .fo _ :: _, .ty _ :: _, _, _, _, h => h.elim
theorem FA_not {a : Addr} : ∀ {ars : List Ar} {vs : List V} {F : Addr → Prop}, ArNew (With F a) H ars vs → ¬ F a → ¬ FA F ars vs a
 | [], [], _, _, n, h => n h
 | [], _ :: _, _, h, _, _ => h.elim
 | .v _ :: ars, _ :: us, _, h, n, z => FA_not (ars := ars) (vs := us) h n z
 | .v _ :: _, [], _, h, _, _ => h.elim
 | .fo _ :: ars, .ref c :: us, F, h, n, z => by
  have z' : FA (With F c) ars us a := z
  have hc : ¬ With F a c := h.2.1
  rcases FA_with.mp z' with z' | z'
  ·exact FA_not (ars := ars) (vs := us) (F := F) (h.2.2.mono fun b q => .inl q) n z'
  ·exact hc (.inr z'.symm)
 | .fo _ :: _, [], _, h, _, _ => h.elim
 | .fo _ :: _, .non :: _, _, h, _, _ => h.elim
 | .fo _ :: _, .bl _ :: _, _, h, _, _ => h.elim
 | .fo _ :: _, .int _ :: _, _, h, _, _ => h.elim
 | .fo _ :: _, .str _ :: _, _, h, _, _ => h.elim
 | .fo _ :: _, .byt _ :: _, _, h, _, _ => h.elim
 | .fo _ :: _, .flt _ :: _, _, h, _, _ => h.elim
 | .fo _ :: _, .ty _ :: _, _, h, _, _ => h.elim
def storesV : List Nat → List V → St → St
 | i :: is, v :: vs, σ => storesV is vs (σ.set i (some v))
 | _, _, σ => σ
def storesP : List Nat → List Ar → EP' → EP'
 | i :: is, .v x :: ars, η => storesP is ars (η.set i (.va x))
 | i :: is, .fo o :: ars, η => storesP is ars (η.set i (.ow o))
 | _, _, η => η
def okIx (n : Nat) : List Nat → List Ar → Prop
 | i :: is, .v _ :: ars => okIx n is ars
 | i :: is, .fo _ :: ars => 0 ≠ i ∧ i < n ∧ okIx n is ars
 | [], [] => True
 | _, _ => False
theorem stores_ok {σ0 : St} {η0 : EP'} {H0 : Hp} : ∀ {is : List Nat} {ars : List Ar} {vs : List V} {F : Addr → Prop} {σ : St} {η : EP'}, okIx η.length is ars → Rs K T (FA F ars vs) σ η H → Ext σ0 η0 σ η H0 H → ArNew F H0 ars vs → ArOk K (Oof (FA F ars vs) σ η) H ars vs →
  Rs K T F (storesV is vs σ) (storesP is ars η) H ∧ Ext σ0 η0 (storesV is vs σ) (storesP is ars η) H0 H
 | [], [], vs, F, σ, η, _, R, E, N, A => by
  have A' : vs = [] := A
  subst A'
  exact ⟨R, E⟩
 | i :: is, .v x :: ars, vs, F, σ, η, hi, R, E, N, A => by
  obtain ⟨v, us, rfl, r, A⟩ := A
  have R' : Rs K T (FA F ars us) σ η H := R
  have m : ∀ a, Oof (FA F ars us) (σ.set i (some v)) (η.set i (.va x)) a → Oof (FA F ars us) σ η a := Oof_mono fun b z => own_set z
  exact stores_ok (is := is) (ars := ars) (vs := us) (F := F) (by rw [List.length_set]; exact hi) (R'.setv r) (E.trans .setv) N (A.mono m)
 | i :: is, .fo o :: ars, vs, F, σ, η, hi, R, E, N, A => by
  obtain ⟨a, us, rfl, r, A⟩ := A
  obtain ⟨h0, hl, hi⟩ := hi
  obtain ⟨n1, n2, N⟩ := N
  have R0 : Rs K T (FA (With F a) ars us) σ η H := R
  have nf : ¬ FA F ars us a := FA_not N n2
  have R1 : Rs K T (With (FA F ars us) a) σ η H := R0.shrink fun b z => FA_with.mpr z
  have m0 : ∀ b, Oof (With (FA F ars us) a) σ η b → Oof (FA (With F a) ars us) σ η b := fun b z => z.elim (fun z => .inl (FA_with.mpr z)) .inr
  have R2 := R1.seto (i := i) (o := o) nf (r.mono m0) hl
  have m1 : ∀ b, Oof (FA F ars us) (σ.set i (some (.ref a))) (η.set i (.ow o)) b → Oof (FA (With F a) ars us) σ η b := by
   rintro b (z | ⟨j, p, z1, z2⟩)
   ·exact .inl (FA_with.mpr (.inl z))
   ·by_cases hj : j = i
    ·subst hj
     cases at_set z1
     exact .inl (FA_with.mpr (.inr rfl))
    ·rw [ne_set hj] at z1 z2
     exact .inr ⟨j, p, z1, z2⟩
  exact stores_ok (is := is) (ars := ars) (vs := us) (F := F) (by rw [List.length_set]; exact hi) R2 (E.seto n1 h0) (N.mono fun b z => .inl z) (A.mono m1)
 | [], .v _ :: _, _, _, _, _, h, _, _, _, _ => h.elim
 | [], .fo _ :: _, _, _, _, _, h, _, _, _, _ => h.elim
 | _ :: _, [], _, _, _, _, h, _, _, _, _ => h.elim
end
section
variable {X : Cx} {T : List (Addr × Str)} {e a b c : Expr} {es : List Expr} {te : TEp} {tf : TFp} {tr : TArp} {pos : Pos}
def tNilAr : TArp := fun η P => P [] η
def tConsV (te : TEp) (t : TArp) : TArp := fun η P => te η fun x η1 => t η1 fun ars η2 => P (.v x :: ars) η2
def tConsF (tf : TFp) (t : TArp) : TArp := fun η P => tf η fun xs η1 => t η1 fun ars η2 => P (.f xs :: ars) η2
theorem zr_nil : PA X [] (upAr X.K T tNilAr) := by
 refine PA.weak pa_nil fun σ H Q q => ?_
 obtain ⟨F, η, P, R, h, k⟩ := q
 exact k [] η [] H h .refl R trivial rfl
theorem new_back {F : Addr → Prop} {σ : St} {η η1 : EP'} {H H1 : Hp} (e : Ext σ η σ η1 H H1) : ∀ {ars : List Ar} {vs : List V} {F : Addr → Prop}, ArNew F H1 ars vs → ArNew F H ars vs
 | [], [], _, _ => trivial
 | [], _ :: _, _, h => h.elim
 | .v _ :: ars, _ :: us, _, h => new_back e (F := F) (ars := ars) (vs := us) h
 | .v _ :: _, [], _, h => h.elim
 | .fo _ :: ars, .ref c :: us, _, h => ⟨e.nw h.1, h.2.1, new_back e (F := F) (ars := ars) (vs := us) h.2.2⟩
 | .fo _ :: _, [], _, h => h.elim
 | .fo _ :: _, .non :: _, _, h => h.elim
 | .fo _ :: _, .bl _ :: _, _, h => h.elim
 | .fo _ :: _, .int _ :: _, _, h => h.elim
 | .fo _ :: _, .str _ :: _, _, h => h.elim
 | .fo _ :: _, .byt _ :: _, _, h => h.elim
 | .fo _ :: _, .flt _ :: _, _, h => h.elim
 | .fo _ :: _, .ty _ :: _, _, h => h.elim
theorem car_FA {F G : Addr → Prop} {σ : St} {η η1 : EP'} {H H1 : Hp} (e : Ext σ η σ η1 H H1) (hn : ∀ b, G b → F b ∨ Nw H b) : Car (Oof F σ η) (Oof G σ η1) H H1 := fun a o n h t => by
 obtain ⟨k, n'⟩ := e.car (F := F) a o n h t
 refine ⟨k, fun z => ?_⟩
 rcases z with z | z
 ·rcases hn a z with z | z
  ·exact n (.inl z)
  ·exact z.no h t
 ·exact n' (.inr z)
theorem FA_new {H : Hp} : ∀ {ars : List Ar} {vs : List V} {F : Addr → Prop} {b : Addr}, ArNew F H ars vs → FA F ars vs b → F b ∨ Nw H b
 | [], [], _, _, _, h => .inl h
 | [], _ :: _, _, _, h, _ => h.elim
 | .v _ :: ars, _ :: us, _, _, h, z => FA_new (ars := ars) (vs := us) h z
 | .v _ :: _, [], _, _, h, _ => h.elim
 | .fo _ :: ars, .ref c :: us, F, b, h, z => by
  rcases FA_new (ars := ars) (vs := us) (F := With F c) h.2.2 z with (q | q) | q
  ·exact .inl q
  ·rw [q]; exact .inr h.1
  ·exact .inr q
 | .fo _ :: _, [], _, _, h, _ => h.elim
 | .fo _ :: _, .non :: _, _, _, h, _ => h.elim
 | .fo _ :: _, .bl _ :: _, _, _, h, _ => h.elim
 | .fo _ :: _, .int _ :: _, _, _, h, _ => h.elim
 | .fo _ :: _, .str _ :: _, _, _, h, _ => h.elim
 | .fo _ :: _, .byt _ :: _, _, _, h, _ => h.elim
 | .fo _ :: _, .flt _ :: _, _, _, h, _ => h.elim
 | .fo _ :: _, .ty _ :: _, _, _, h, _ => h.elim
theorem zr_v (he : PE X e (up X.K T te)) (hr : PA X es (upAr X.K T tr)) (hs : starEach (e :: es) X.env = (false, eval e X.env) :: starEach es X.env := by rfl) : PA X (e :: es) (upAr X.K T (tConsV te tr)) := by
 refine PA.weak (pa_cons he hr hs) fun σ H Q q => ?_
 obtain ⟨F, η, P, R, h, k⟩ := q
 refine ⟨F, η, _, R, h, fun x η1 v H1 h1 e1 R1 r1 => ⟨F, η1, _, R1, h1, fun ars η2 vs H2 h2 e2 R2 N2 A2 => ?_⟩⟩
 exact k (.v x :: ars) η2 (v :: vs) H2 h2 (e1.trans e2) R2 (show ArNew F H ars vs from new_back (F := F) e1 N2) ⟨v, vs, rfl, r1.car (car_FA e2 fun b z => FA_new N2 z), A2⟩
theorem zr_f (he : PE X e (upF X.K T tf)) (hr : PA X es (upAr X.K T tr)) (hs : starEach (e :: es) X.env = (false, eval e X.env) :: starEach es X.env := by rfl) : PA X (e :: es) (upAr X.K T (tConsF tf tr)) := by
 refine PA.weak (pa_cons he hr hs) fun σ H Q q => ?_
 obtain ⟨F, η, P, R, h, k⟩ := q
 refine ⟨F, η, _, R, h, fun xs η1 a ws H1 h1 e1 R1 hn nf hv r1 => ⟨With F a, η1, _, R1, h1, fun ars η2 vs H2 h2 e2 R2 N2 A2 => ?_⟩⟩
 have na : ¬ IsOwn σ η1 a := fun z => by
  obtain ⟨j, p, z1, z2⟩ := z
  obtain ⟨b, q1, q2, q3⟩ := R1.ow j p z2
  rw [z1] at q1; cases q1
  exact q3 (.inr rfl)
 exact k (.f xs :: ars) η2 (.ref a :: vs) H2 h2 (e1.trans e2) R2 ⟨hn, nf, new_back (F := F) e1 N2⟩ ⟨a, vs, rfl, ⟨ws, e2.keep a _ hv na nofun, r1.car (car_FA e2 fun b z => FA_new N2 z)⟩, A2⟩
def tParP (is : List Nat) (tr : TArp) : TSp := fun D η => tr η fun ars η1 => ars.length = is.length ∧ okIx η1.length is ars ∧ D.nx (storesP is ars η1)
theorem ArOk.len {K : PySem.W.Frag} {O H} : ∀ {ars : List Ar} {vs : List V}, ArOk K O H ars vs → vs.length = ars.length
 | [], _, r => by
  have r' : _ = [] := r
  rw [r']; rfl
 | .v x :: ars, _, r => by
  obtain ⟨v, us, rfl, r1, r2⟩ := r
  simp [r2.len]
 | .fo o :: ars, _, r => by
  obtain ⟨a, us, rfl, r1, r2⟩ := r
  simp [r2.len]
theorem par_up {K : PySem.W.Frag} {is : List Nat} {D : Ends} {σ : St} {H : Hp} (q : upS K T (tParP is tr) D σ H) : upAr K T tr σ H (fun vs H1 => vs.length = is.length ∧ D.nx (storesV is vs σ) H1) := by
 obtain ⟨F, η, D', R, h, k1, k2, k3, k4⟩ := q
 refine ⟨F, η, _, R, h, fun ars η1 vs H1 h1 e1 R1 N A => ⟨by rw [A.len]; exact h1.1, ?_⟩⟩
 obtain ⟨R2, E2⟩ := stores_ok (is := is) h1.2.1 R1 e1 N A
 exact k1 _ _ _ h1.2.2 E2 R2
theorem z_par2 {i j : Nat} {st : Stmt} {K0 : PySem.W.Frag} (hK : X.K = K0) (pf : PS X st (tPar i j (upAr K0 T tr))) : PS X st (upS K0 T (tParP [i, j] tr)) := by
 refine PS.weak pf fun D σ H q => ?_
 obtain ⟨F, η, P, R, h, k⟩ := par_up q
 refine ⟨F, η, P, R, h, fun ars η' vs H' h1 e1 R1 N A => ?_⟩
 obtain ⟨hl, hd⟩ := k ars η' vs H' h1 e1 R1 N A
 match vs, hl, hd with
 | [v, w], _, hd => exact ⟨v, w, rfl, hd⟩
theorem z_par3 {i j l : Nat} {st : Stmt} {K0 : PySem.W.Frag} (hK : X.K = K0) (pf : PS X st (tPar3 i j l (upAr K0 T tr))) : PS X st (upS K0 T (tParP [i, j, l] tr)) := by
 refine PS.weak pf fun D σ H q => ?_
 obtain ⟨F, η, P, R, h, k⟩ := par_up q
 refine ⟨F, η, P, R, h, fun ars η' vs H' h1 e1 R1 N A => ?_⟩
 obtain ⟨hl, hd⟩ := k ars η' vs H' h1 e1 R1 N A
 match vs, hl, hd with
 | [u, v, w], _, hd => exact ⟨u, v, w, rfl, hd⟩
end
section
variable {X : Cx} {T : List (Addr × Str)} {a b e o : Expr} {es : List Expr} {te ta tb : TEp} {t : TAp} {tf : TFp} {pos p apos : Pos} {x : Str}
theorem z_gi {i : Int} (hg : Gl X x) (h : ∃ u, X.mg x = some u ∧ RelV (.int i) u) (hd : (x == ("__debug__" : Str)) = false := by decide) : PE X (.Name x pos) (up X.K T (tConP (.int i))) := by
 obtain ⟨u, hm, r⟩ := h
 exact z_con (pe_glob hg hm r hd) fun _ _ => by unfold Rep; rfl
theorem z_gs {i : Str} (hg : Gl X x) (h : ∃ u, X.mg x = some u ∧ RelV (.str i) u) (hd : (x == ("__debug__" : Str)) = false := by decide) : PE X (.Name x pos) (up X.K T (tConP (.str i))) := by
 obtain ⟨u, hm, r⟩ := h
 exact z_con (pe_glob hg hm r hd) fun _ _ => by unfold Rep; rfl
theorem z_gc {C : Addr} (hg : Gl X x) (hm : X.mg x = some (.ref C)) (hd : (x == ("__debug__" : Str)) = false := by decide) : PE X (.Name x pos) (up X.K T (tConP (.raw (.ref C)))) := z_con (pe_glob (v := .ref C) hg hm rfl hd) fun _ _ => by unfold Rep; rfl
theorem z_ty {id : String} (hg : Gl X x) (hm : X.mg x = none) (hv : bootBuiltins x = some (.type id)) (hn : x ≠ "__name__" := by decide) (hd : (x == ("__debug__" : Str)) = false := by decide) : PE X (.Name x pos) (up X.K T (tConP (.raw (.ty id)))) := z_con (pe_bltn (v := .ty id) hg hm hv rfl hn hd) fun _ _ => by unfold Rep; rfl
def tNegP (te : TEp) : TEp := fun η P => te η fun x η1 => match x with | .int i => P (.int (-i)) η1 | _ => False
theorem z_neg (h : PE X e (up X.K T te)) : PE X (.UnaryOp .USub e pos) (up X.K T (tNegP te)) := by
 refine PE.weak (pe_un un_neg h) fun σ H Q q => ?_
 obtain ⟨F, η, P, R, h, k⟩ := q
 refine ⟨F, η, _, R, h, fun x η1 v H1 h1 e1 R1 r1 => ?_⟩
 split at h1
 ·exact ⟨_, r1.int_, k _ _ _ _ h1 e1 R1 rep_int⟩
 ·cases h1
theorem zgs_cons1 {t : TGp} {u : TGsp} (h1 : PG X e (upG X.K T t)) (h2 : PGs X es (upGs X.K T u)) (hs : (assignEach (e :: es) X.env).map (·.2) = assign e X.env :: (assignEach es X.env).map (·.2) := by rfl) : PGs X (e :: es) (upGs X.K T (gConsP t u)) := zgs_cons h1 h2 (pgs_cons h1 h2 hs)
theorem z_chain1 {c : Expr} {tc : TEp} {op op' : CmpOp} {r r' : R2p} (ho : OpR X (compareOp op) (r2 X.K r)) (ho' : OpR X (compareOp op') (r2 X.K r')) (ha : PE X a (up X.K T ta)) (hb : PE X b (up X.K T tb)) (hc : PE X c (up X.K T tc))
  (hm : lastMarks [op, op'] [b, c] = false := by with_unfolding_all rfl) : PE X (.Compare a [op, op'] [b, c] pos) (up X.K T (tChainP r r' ta tb tc)) := z_chain ho ho' ha hb hc (pe_chain ho ho' ha hb hc hm)
theorem zt_chain {c : Expr} {tc : TEp} {op op' : CmpOp} {r r' : R2p} (ho : OpR X (compareOp op) (r2 X.K r)) (ho' : OpR X (compareOp op') (r2 X.K r')) (ha : PE X a (up X.K T ta)) (hb : PE X b (up X.K T tb)) (hc : PE X c (up X.K T tc))
  (hm : lastMarks [op, op'] [b, c] = false := by with_unfolding_all rfl) : PT X (.Compare a [op, op'] [b, c] pos) (upB X.K T (tBlP (tChainP r r' ta tb tc))) := by
 refine PT.weak (pt_chain ho ho' ha hb hc hm) fun σ H Q q => ?_
 obtain ⟨F, η, P, R, h, k⟩ := q
 refine ⟨F, η, _, R, h, fun x η1 v H1 h1 e1 R1 r1' => ⟨F, η1, _, R1, h1, fun y η2 w H2 h2 e2 R2' rw' => ?_⟩⟩
 refine ⟨Oof F σ η2, x, y, _, R2'.trO, r1'.car e2.car, rw', h2, fun z u H3 pz s rz => ?_⟩
 obtain ⟨kk, rfl, pz⟩ := pz
 unfold Rep at rz
 refine ⟨kk, rz, ?_⟩
 cases kk with
 | false => exact ⟨_, rfl, k _ η2 H3 pz ((e1.trans e2).trans (.same s)) (R2'.same s)⟩
 | true =>
  simp only [if_true] at pz ⊢
  refine ⟨F, η2, _, R2'.same s, pz, fun z' η3 u' H4 h4 e4 R4 r4 => ?_⟩
  refine ⟨Oof F σ η3, y, z', _, R4.trO, (rw'.car (Car.same s)).car e4.car, r4, h4, fun z2 u2 H5 p5 s5 r5 => ?_⟩
  split at p5
  ·unfold Rep at r5
   exact ⟨_, r5, k _ η3 H5 p5 ((((e1.trans e2).trans (.same s)).trans e4).trans (.same s5)) (R4.same s5)⟩
  ·cases p5
theorem zi_enum1 {p pos tpos : Pos} {elts : List Expr} {kk : Nat} (hg : Gl X "enumerate") (hm : X.mg "enumerate" = none) (he : PE X e (up X.K T te)) (hs : starEach [e] X.env = [(false, eval e X.env)] := by rfl) :
  PI X (.Tuple elts kk tpos) (.Call (.Name "enumerate" p) [e] [] pos) (upI X.K T (iEnumP te)) := zi_enumT hg hm he hs
def rMulA : R2p := fun x y P => rMul x y P ∨ rMulS x y P
theorem zo_mulA : OpR X (binaryOp .Mult) (r2 X.K rMulA) := by
 intro pins s σ H x y v u Q I rx ry q
 obtain ⟨O, px, py, P, tr, h1, h2, h, k⟩ := q
 rcases h with h | h
 ·exact zo_mul pins s σ H x y v u Q I rx ry ⟨O, px, py, P, tr, h1, h2, h, k⟩
 ·exact zo_mulS pins s σ H x y v u Q I rx ry ⟨O, px, py, P, tr, h1, h2, h, k⟩
end
structure FunX (K : PySem.W.Frag) (x qual : Str) (st : Stmt) (dvs : List V) (c f : Addr) (fd : FuncData) : Prop where
 ex : ∃ (oc : Value) (od : Option Addr) (dV kV doc pm : Value) (an : Option Addr) (ct : Value) (osl : Array (Option Value)),
  fd = PySem.W.fnOf x qual (defArgs st) (defBody st) (defScope st) dV kV doc pm an (.ref c) ct ∧ K.lookup f = some ⟨oc, od, .func fd, osl⟩ ∧ PySem.W.codeIn K (.ref c) qual = true ∧ DflV K dV dvs
 kp : PySem.W.keepIn K (.ref f) = true
section
variable {P : Program} {w : World} {K : PySem.W.Frag} {mg : Str → Option Value} {base : Heap} {T : List (Addr × Str)} {x qual : Str} {st : Stmt} {f c : Addr} {fd : FuncData} {dvs : List V} {ps : List Str}
theorem FunX.d (F : FunX K x qual st dvs c f fd) : FunD K x qual (defArgs st) (defBody st) (defScope st) dvs [] f fd := by
 obtain ⟨oc, od, dV, kV, doc, pm, an, ct, osl, h1, h2, h3, h4⟩ := F.ex
 exact ⟨⟨oc, od, dV, kV, doc, pm, an, .ref c, ct, osl, h1, h2, h3, h4, .inl rfl⟩, F.kp⟩
theorem FunX.b0 (F : FunX K x qual st dvs c f fd) (hd : dvs ≠ [])
  (h : ∀ (T : Addr) (kV doc pm : Value) (an : Option Addr) (cdv ct : Value) (us its : List Value), us.length = ps.length → its.length = dvs.length →
   ∃ k, bindArgs (PySem.W.fnOf x qual (defArgs st) (defBody st) (defScope st) (.ref T) kV doc pm an cdv ct) ⟨us, []⟩ = seqItems? (.ref T) >>= k ∧ k (some its.toArray) = pure (ps.zip (us ++ its.drop dvs.length))) : Binds K fd ps [] := by
 obtain ⟨ds, h1, h2⟩ := F.d.binds1 (ps := ps) ps.length dvs.length hd (by omega) h
 rw [List.drop_length] at h1
 cases ds with
 | nil => exact h2
 | cons => exact (nomatch h1)
end
end Z
namespace Z
open PySem PySem.Spec L2 ClX
open PyProof.Rows hiding St
structure SMet (K : PySem.W.Frag) (C : Addr) (mc : Value) (m : Str) (p g : Addr) : Prop where
 at_ : PySem.W.findCls K (.ref C) mc m = some (.get (.builtin "staticmethod.__get__") (.ref p) .none (.ref C))
 rc : ∃ rest, PySem.W.recIn K p "staticmethod" = some (.ref g :: rest)
 kp : PySem.W.keepIn K (.ref g) = true
structure SInst (K : PySem.W.Frag) (C : Addr) (m : Str) (p g : Addr) : Prop where
 pg : PySem.W.plainGet K C Str.empty = true
 ic : PySem.W.isClsIn K C = true
 at_ : PySem.W.findIn K (.ref C) m = some (some (.ref p))
 ty : PySem.W.typeIn K (.ref p) = some (.type "staticmethod")
 get : PySem.W.specialIn K (.ref p) "__get__" = some (some (.builtin "staticmethod.__get__"))
 tk : PySem.W.takesIn K (.ref p) = some false
 cp : PySem.W.copiedNames.contains m = false
 rc : ∃ rest, PySem.W.recIn K p "staticmethod" = some (.ref g :: rest)
 kp : PySem.W.keepIn K (.ref g) = true
section
variable {X : Cx} {T : List (Addr × Str)} {k : Nat} {C p g : Addr} {mc : Value} {sp : SpP} {o e : Expr} {es : List Expr} {m : Str} {pos apos kpos : Pos} {te ta : TEp} {t : TAp} {fd : FuncData} {ps ks : List Str} {kws : List Keyword} {nm : Option Str}
theorem PK.weak {kws : List Keyword} {t t' : TA} (h : PK X kws t) (w : ∀ σ H Q, t' σ H Q → t σ H Q) : PK X kws t' := ⟨fun pos pins s σ H Q I q => h.run pos pins s σ H Q I (w _ _ _ q)⟩
theorem zk_nil : PK X [] (upA X.K T tNilP) := by
 refine PK.weak pk_nil fun σ H Q q => ?_
 obtain ⟨F, η, P, R, h, k⟩ := q
 exact k [] η [] H h .refl R .nil
theorem zk_cons (ha : PE X e (up X.K T te)) (hr : PK X kws (upA X.K T t)) : PK X (⟨nm, e, kpos⟩ :: kws) (upA X.K T (tConsP te t)) := by
 refine PK.weak (pk_cons ha hr) fun σ H Q q => ?_
 obtain ⟨F, η, P, R, h, k⟩ := q
 refine ⟨F, η, _, R, h, fun x η1 v H1 h1 e1 R1 r1' => ⟨F, η1, _, R1, h1, fun y η2 w H2 h2 e2 R2' rw' => ?_⟩⟩
 exact k (x :: y) η2 (v :: w) H2 h2 (e1.trans e2) R2' (.cons (r1'.car e2.car) rw')
end
end Z
namespace Z
open PySem PySem.Spec L2 ClX
open PyProof.Rows hiding St
def trk0 (ts : List Addr) (a : Addr) (o : Obj) (u : HO) : Hp := fun b => if b = a then some (.frz o u) else if b ∈ ts then some (.tbl #[]) else none
section
variable {ts : List Addr} {a b : Addr} {o : Obj} {u : HO}
theorem trk0_a : trk0 ts a o u a = some (.frz o u) := if_pos rfl
theorem trk0_t (n : b ≠ a) (h : b ∈ ts) : trk0 ts a o u b = some (.tbl #[]) := (if_neg n).trans (if_pos h)
theorem trk0_n (n : b ≠ a) (h : b ∉ ts) : trk0 ts a o u b = none := (if_neg n).trans (if_neg h)
end
def NoList (K : PySem.W.Frag) : Bool := K.all fun p => match p.2.cls with
 | .type n => !(n == "list")
 | _ => true
theorem noList_at {K : PySem.W.Frag} (h : NoList K = true) {b : Addr} {o : Obj} (e : K.lookup b = some o) : o.cls ≠ .type "list" := by
 intro z
 have hm : ∃ p ∈ K, p.2 = o := by
  clear h
  induction K with
  | nil => cases e
  | cons p r ih =>
   rw [List.lookup_cons] at e
   cases q : (b == p.1) with
   | true =>
    rw [q] at e
    exact ⟨p, List.mem_cons_self, Option.some.inj e⟩
   | false =>
    rw [q] at e
    obtain ⟨p', h1, h2⟩ := ih e
    exact ⟨p', List.mem_cons_of_mem _ h1, h2⟩
 obtain ⟨p, h1, h2⟩ := hm
 have h3 := List.all_eq_true.mp h p h1
 rw [h2, z] at h3
 exact absurd h3 (by decide)
structure AtEnd (K : PySem.W.Frag) (mg mb : Str → Option Value) (cs : List (Addr × Addr)) (h : Heap) : Prop where
 X : K.In h
 g : h.Ns mainGlobals mg
 b : h.Ns builtinsNs mb
 bb : ∀ x : Str, x ≠ "__name__" → mb x = bootBuiltins x
 nolim : h.NoLimit
 code : ∀ p ∈ cs, PySem.W.CodeHd h p.1 p.2
 tab : ∀ p ∈ cs, h.get? p.2 = some (PySem.W.tabObj #[])
 bm : ∃ bm ob, mg "__builtins__" = some (.ref bm) ∧ bm ≠ builtinsNs ∧ h.get? bm = some ob ∧ ob.cls = .type "module" ∧ ob.dict = some builtinsNs ∧ ob.data = .plain
theorem law_endG {P : Program} {w : World} {K : PySem.W.Frag} {mg mb : Str → Option Value} {k : Nat} {fa a : Addr} {cs : List (Addr × Addr)} {T : List (Addr × Str)} {fd : FuncData} {x : Str} {sp : SpP} {s1 : Shared} {vs : List Value} {ns : List Int}
  (t : AtEnd K mg mb cs s1.heap) (nl : NoList K = true) (nK : ∀ p ∈ cs, K.lookup p.2 = none) (hTT : ∀ p ∈ T, p.1 ∈ cs.map (·.2)) (gn : s1.gens = #[])
  (ha : s1.heap.get? a = some { cls := .type "list", data := .seq vs.toArray }) (hi : IntsAre vs ns) (hl : ns.length ≤ sizeLine) (hr : Room k callerA)
  (F : ∀ base : Heap, K.In base → base.Ns mainGlobals mg → (∀ p ∈ cs, LamX.TabB base mg p.1 p.2) → FnG P w K mg base k fa fd [x] (upSp K T sp)) (hb : ∀ (s : Shared) (u : Value), BindsTo s fd ⟨[u], []⟩ [(x, u)])
  (hsp : sp [.scr ns] fun z => z = .bl true) :
  codeAny (model P w) callerA (.call (.ref fa) ⟨[.ref a], []⟩) (fun r s' => r = .ok (.ret (.bool true)) ∧ OldK s1.heap s'.heap ∧ s'.os = s1.os ∧ AllBare s'.gens) s1 := by
 let ts := cs.map (·.2)
 let ob : Obj := { cls := .type "list", data := .seq vs.toArray }
 let H : Hp := trk0 ts a ob (.lst (ns.map V.int))
 have isT : ∀ b ∈ ts, s1.heap.get? b = some (PySem.W.tabObj #[]) := fun b hb => by
  obtain ⟨p, hp, e⟩ := List.mem_map.mp hb
  rw [← e]; exact t.tab p hp
 have aT : a ∉ ts := fun z => by
  have q := (isT a z).symm.trans ha
  cases q
 have tA : ∀ b ∈ ts, b ≠ a := fun b hb z => aT (z ▸ hb)
 have kA : K.lookup a = none := by
  cases q : K.lookup a with
  | none => rfl
  | some o =>
   have e := (t.X a o q).symm.trans ha
   cases e
   exact absurd rfl (noList_at nl q)
 have kT : ∀ b ∈ ts, K.lookup b = none := fun b hb => by
  obtain ⟨p, hp, e⟩ := List.mem_map.mp hb
  rw [← e]; exact nK p hp
 -- an object that is neither the script nor a table
 have out : ∀ {b : Addr} {o : Obj}, s1.heap.get? b = some o → (∀ vs n, o.data ≠ .seq vs n) → o.data ≠ .fields #[] → H b = none := fun {b o} e h1 h2 => by
  refine trk0_n (fun z => ?_) fun z => ?_
  ·rw [z, ha] at e; cases e; exact h1 _ _ rfl
  ·rw [isT b z] at e; cases e; exact h2 rfl
 have toBase : ∀ {b : Addr} {o : Obj}, s1.heap.get? b = some o → (∀ vs n, o.data ≠ .seq vs n) → o.data ≠ .fields #[] → (hidT s1.heap H).get? b = some o := fun e h1 h2 => hidT_get e (out e h1 h2)
 have nsB : ∀ {b : Addr} {m : Str → Option Value}, s1.heap.Ns b m → (hidT s1.heap H).Ns b m := fun {b m} ⟨o, es, ep, e, d, r⟩ => ⟨o, es, ep, toBase e (fun vs n z => by rw [d] at z; cases z) (fun z => by rw [d] at z; cases z), d, r⟩
 have KB : K.In (hidT s1.heap H) := fun b o e => hidT_get (t.X b o e) (by
  refine trk0_n (fun z => ?_) fun z => ?_
  ·rw [z, kA] at e; cases e
  ·rw [kT b z] at e; cases e)
 have M : L2.Mod K mg (hidT s1.heap H) := ⟨KB, nsB t.g, ⟨mb, nsB t.b, t.bb⟩, let ⟨mc, h1, h2⟩ := t.nolim; ⟨mc, nsB h1, h2⟩⟩
 have TB : ∀ p ∈ cs, LamX.TabB (hidT s1.heap H) mg p.1 p.2 := fun p hp => by
  have e2 := t.tab p hp
  refine ⟨?_, ?_, fun z => ?_⟩
  ·obtain ⟨o, us, file, tf, flags, tg, inF, text, tt, e1, r1, r2, r3, r⟩ := t.code p hp
   exact ⟨o, us, file, tf, flags, tg, inF, text, tt, toBase e1 (fun vs n z => by rw [r2] at z; cases z) (fun z => by rw [r2] at z; cases z; simp at r3), r1, r2, r3, r⟩
  ·obtain ⟨m, om, b1, b2, b3, b4, b5, b6⟩ := t.bm
   refine ⟨m, om, b1, b2, fun q => ?_, fun q => ?_, toBase b3 (fun vs n z => by rw [b6] at z; cases z) (fun z => by rw [b6] at z; cases z), b4, b5, b6⟩
   ·obtain ⟨o, es, ep, e, hd, _⟩ := t.g
    rw [q, e] at b3; cases b3; rw [hd] at b6; cases b6
   ·rw [q, e2] at b3; cases b3; cases b6
  ·obtain ⟨o, es, ep, e, hd, _⟩ := t.g
   rw [z, e2] at e; cases e; cases hd
 have rv := vals_ints hi
 have hok : HOk P w H s1.heap := fun b u e => by
  by_cases hba : b = a
  ·rw [hba] at e ⊢
   obtain rfl : _ = u := Option.some.inj (trk0_a.symm.trans e)
   exact ⟨ha, by rw [List.length_map]; exact hl, vs, _, rv, ha⟩
  ·by_cases hbt : b ∈ ts
   ·obtain rfl : _ = u := Option.some.inj ((trk0_t hba hbt).symm.trans e)
    exact isT b hbt
   ·have z := (trk0_n (o := ob) (u := .lst (ns.map V.int)) hba hbt).symm.trans e
    cases z
 have e0 : Env0 P w K mg (hidT s1.heap H) callerA [] s1 H := ⟨rfl, M, fun b o e => of_hidT e, Nat.le_of_eq (hidT_size _ _), trivial, (fun b z => absurd (show b ∈ ([] : List Addr) from z) (by simp)), hok, .of_eq gn⟩
 have hT0 : LamX.Tabs T H := fun p hp => ⟨#[], trk0_t (tA _ (hTT p hp)) (hTT p hp), trivial, fun pos cv z => by cases z⟩
 have promise : upSp K T sp [.ref a] H (fun v _ => v = .bl true) fun _ _ _ => False := by
  refine ⟨fun _ => False, [.scr ns], fun z => z = .bl true, fun b z => z.elim, hT0, ?_, hsp, fun z v H' e _ _ r => ?_⟩
  ·unfold Reps
   refine ⟨.ref a, [], rfl, ?_, ?_⟩
   ·unfold Rep
    exact ⟨a, ob, rfl, id, trk0_a⟩
   ·unfold Reps
    rfl
  ·subst e
   exact r.bl_
 refine codeAny_mono ((F _ KB (nsB t.g) TB).run callerA [] s1 H ⟨[.ref a], []⟩ [.ref a] [.ref a] _ _ rfl hr e0 (hb s1 (.ref a)) (.cons rfl .nil) promise) fun r s' h => ?_
 match r, h with
 | .error e, h => exact h.elim
 | .ok (.ret u), ⟨v, H', os, bare, un, hok', r', q⟩ =>
  have q' : v = .bl true := q
  subst q'
  obtain rfl : u = Value.bool true := r'
  have same : ∀ b o, b ∉ ts → s1.heap.get? b = some o → s'.heap.get? b = some o := fun b o nb e => by
   by_cases hba : b = a
   ·have z2 := un.frzs b ob (.lst (ns.map V.int)) (by rw [hba]; exact trk0_a)
    rw [hba] at e z2 ⊢
    rw [ha] at e; cases e
    exact (hok' a _ z2).1
   ·exact un.keep b o e (trk0_n hba nb) (by intro z; exact absurd (show b ∈ ([] : List Addr) from z) (by simp)) (by simp)
  have more : ∀ b ∈ ts, ∃ m : Array Value, s'.heap.get? b = some (PySem.W.tabObj m) := fun b hb => by
   obtain ⟨m, z⟩ := un.tbls b #[] (trk0_t (tA b hb) hb)
   exact ⟨_, hok' b _ z⟩
  refine ⟨rfl, ⟨fun b o e => ?_, fun b o e => ?_⟩, os, bare⟩
  ·by_cases hb : b ∈ ts
   ·obtain ⟨m, hm⟩ := more b hb
    rw [isT b hb] at e; cases e
    obtain ⟨p, hp, ep⟩ := List.mem_map.mp hb
    refine .inr (.inl ⟨?_, rfl, #[], m, rfl, by rw [Array.empty_append]; exact hm⟩)
    rw [← ep]
    exact ((t.code p hp).tab (t.tab p hp)).isCodeTable
   ·exact .inl (same b o hb e)
  ·by_cases hb : b ∈ ts
   ·obtain ⟨m, hm⟩ := more b hb
    exact ⟨_, hm⟩
   ·exact ⟨o, same b o hb e⟩
def LawG (l : PySem.W.OpenLaw) (w : World) (K : PySem.W.Frag) (k n : Nat) (x : Str) (mg : Str → Option Value) (fa : Addr) (h : Heap) : Prop :=
 ∃ (fd : FuncData) (cs : List (Addr × Addr)) (T : List (Addr × Str)) (sp : SpP), (∀ p ∈ cs, PySem.W.CodeHd h p.1 p.2) ∧ (∀ p ∈ cs, h.get? p.2 = some (PySem.W.tabObj #[])) ∧ (∀ p ∈ cs, K.lookup p.2 = none) ∧ NoList K = true ∧ (∀ p ∈ T, p.1 ∈ cs.map (·.2)) ∧
  (∀ (s : Shared) (u : Value), BindsTo s fd ⟨[u], []⟩ [(x, u)]) ∧ (∀ ns : List Int, ns.length ≤ n → (∀ z ∈ ns, Builtin.Int.intBits z ≤ 1048576) → sp [.scr ns] fun z => z = .bl true) ∧
  ∀ base : Heap, K.In base → base.Ns mainGlobals mg → (∀ p ∈ cs, LamX.TabB base mg p.1 p.2) → FnG l.prog w K mg base k fa fd [x] (upSp K T sp)
theorem walkG {l : PySem.W.OpenLaw} {n k : Nat} {q : Program} {loose : List Str} {XP : (Str → Option Value) → Heap → Prop} {YP : World → Heap → Prop} {d : DefRec} {K : Params → PySem.W.Frag} {x : Str}
  (hn : l.most = some n) (hn2 : n ≤ sizeLine) (hdf : d.params.defaults = []) (hr : Room k callerA) (hY : ∀ (w : World) (h : Heap), YP w h → (K w.params).In h)
  (F : ∀ (w : World) (mg : Str → Option Value) (fa : Addr) (h : Heap), YP w h → (K w.params).In h → h.Ns mainGlobals mg → mg d.name = some (.ref fa) → LawG l w (K w.params) k n x mg fa h) :
  PySem.W.WalkO q loose XP YP l.row.toRowW d [] (fun f vs => PySem.call f vs) := by
 refine Att.attach_callB hn hdf fun w s0 s1 mg mb fa o pm cd doc a vs ns G Y ho hd hcd hmg hobj hints hlen hbits hg => ?_
 obtain ⟨fd, cs, T, sp, hC, hT, nT, nl, hTT, hb, hsp, hF⟩ := F w mg fa _ Y (hY w _ Y) G.T.g hmg
 exact law_endG ⟨hY w _ Y, G.T.g, G.T.b, G.T.builtins, G.T.nolimit, hC, hT, G.T.bmain⟩ nl nT hTT hg hobj hints (Nat.le_trans hlen hn2) hr hF hb (hsp ns hlen hbits)
end Z
namespace Z
open PySem PySem.Spec L2 PySem.Calls
open PyProof.Rows hiding St
structure OwnC (K : PySem.W.Frag) (C fE fL fS : Addr) : Prop where
 t : ClsT K C
 eq : PySem.W.findIn K (.ref C) "__eq__" = some (some (.ref fE))
 eqf : PySem.W.isFn K (.ref fE) = true
 ne : PySem.W.findIn K (.ref C) "__ne__" = some (some (.builtin "object.__ne__"))
 len : PySem.W.findIn K (.ref C) "__len__" = some (some (.ref fL))
 lenf : PySem.W.isFn K (.ref fL) = true
 bool : PySem.W.findIn K (.ref C) "__bool__" = some none
 str : PySem.W.findIn K (.ref C) "__str__" = some (some (.ref fS))
 strf : PySem.W.isFn K (.ref fS) = true
 nf : ∀ n : String, n ∈ ["NoneType", "int", "bool", "str", "tuple", "list", "dict"] → PySem.W.notFirst K C (.type n) = true
theorem OwnC.nfC {K : PySem.W.Frag} {C fE fL fS : Addr} (o : OwnC K C fE fL fS) : PySem.W.notFirst K C (.ref C) = true := by unfold PySem.W.notFirst; simp
section
variable {prog : Program} {w : World} {A : Around} {E : Value → Shared → Prop} {s : Shared} {K : PySem.W.Frag} {x C f : Addr} {ox : Obj} {od : Option Obj}
theorem ifBoundB {id : String} {name : Str} {args : List Value} {Q : Option Value → Shared → Prop} (X : K.In s.heap) (I : PySem.W.InstAt s.heap x ox C od) (hs : PySem.W.findIn K (.ref C) name = some (some (.builtin id)))
  (hb : ∀ self, bindSpecial (.builtin id) self = pure (.builtin id, [self])) (h : wpAny (model prog w) A (call (.builtin id) (.ref x :: args)) (fun v => Q (some v)) E s) : wpAny (model prog w) A (callSpecialIfBound? (.ref x) name args) Q E s := by
 have fin : wpAny (model prog w) A (call (.builtin id) ([.ref x] ++ args) >>= fun v => pure (some v)) Q E s := wpAny_bind (wpAny_mono h (fun v s' z => wpAny_pure z) fun _ _ z => z)
 simp only [callSpecialIfBound?, bindSpecialIfBound?]
 refine wpAny_holding (wpAny_bind (wpAny_bind (wpAny_bind (I.type.here ((PySem.W.looks_findIn X hs).here (wpAny_bind (wpAny_askSetting (wpAny_ite ?_))))))))
 split
 ·exact wpAny_bind (((PySem.W.Looks.of_pure (hb (.ref x))).here) (wpAny_pure (by exact fin)))
 ·exact wpAny_tryCatch (wpAny_bind (((PySem.W.Looks.of_pure (hb (.ref x))).here) (wpAny_pure (by exact fin))))
theorem objNe {b : Value} {Q : Value → Shared → Prop} (hu : A.in1.units < cLine) (X : K.In s.heap) (I : PySem.W.InstAt s.heap x ox C od) (hm : PySem.W.mroIn K C (.type "object") = some true)
  (he : PySem.W.findIn K (.ref C) "__eq__" = some (some (.ref f))) (hf : PySem.W.isFn K (.ref f) = true)
  (h : wpAny (model prog w) A.in1 (call (.ref f) [.ref x, b]) (fun v s' => ∃ r, v = .bool r ∧ Q (.bool (!r)) s') E s) : wpAny (model prog w) A (call (.builtin "object.__ne__") [.ref x, b]) Q E s := by
 refine wpAny_call (codeAny_call_builtin PySem.F.slot_object_ne.plain PySem.F.cmpEntry_ne (PySem.W.check_slot (i := "object.__ne__") (owner := "object") (n := "__ne__") (by decide +kernel) (by decide +kernel) (I.type.andThen (PySem.W.looks_mroIn X hm)) (PySem.F.cmpArgs_ne _ _) ?_))
 unfold Builtin.«object.__ne__»
 refine wpAny_bind (m := slotArgs "__ne__" 1 _) (wpAny_pure (wpAny_bind (m := cRoomFor _ _) (wpAny_cRoomFor hu ?_)))
 refine wpAny_bind (m := callSpecialIfBound? (.ref x) (Str.ofString "__eq__") _) (PySem.W.ifBound_K X I he hf (wpAny_mono h (fun v s' ⟨r, e, q⟩ => ?_) fun _ _ z => z))
 subst e
 exact wpAny_bind (wpAny_truthy_bool (wpAny_pure q))
theorem ne_own {b tb : Value} {Q : Value → Shared → Prop} (hu : A.units + 1 < cLine) (X : K.In s.heap) (I : PySem.W.InstAt s.heap x ox C od) (hb : PySem.W.Looks (model prog w) s.heap (typeOf b) tb) (hn : PySem.W.notFirst K C tb = true)
  (hne : PySem.W.findIn K (.ref C) "__ne__" = some (some (.builtin "object.__ne__"))) (hm : PySem.W.mroIn K C (.type "object") = some true) (he : PySem.W.findIn K (.ref C) "__eq__" = some (some (.ref f))) (hf : PySem.W.isFn K (.ref f) = true)
  (h : wpAny (model prog w) A.in1 (call (.ref f) [.ref x, b]) (fun v s' => ∃ r, v = .bool r ∧ Q (.bool (!r)) s') E s) : wpAny (model prog w) A (richCompare .NotEq (.ref x) b) Q E s := by
 have one : wpAny (model prog w) A (tryCompare (.ref x) (cmpInfo .NotEq).2.1 b) (fun r s' => ∃ v, r = some (.bool v) ∧ Q (.bool v) s') E s := by
  unfold tryCompare
  have z := objNe (Q := fun v s' => ∃ r, v = .bool r ∧ Q (.bool r) s') hu X I hm he hf (wpAny_mono h (fun v s' ⟨r, e, q⟩ => ⟨r, e, _, rfl, q⟩) fun _ _ z => z)
  refine wpAny_bind (ifBoundB X I hne PySem.F.slot_object_ne.bind (wpAny_mono z (fun v s' ⟨r, e, q⟩ => ?_) fun _ _ z => z))
  subst e
  exact wpAny_pure ⟨r, rfl, q⟩
 unfold richCompare
 simp only [oneThing_ref]
 refine wpAny_holding (wpAny_bind (wpAny_cRoomFor (by omega) (wpAny_bind (I.type.here (wpAny_bind (hb.here ?_))))))
 have back : ∀ {r : Option Value} {s' : Shared}, (∃ v, r = some (.bool v) ∧ Q (.bool v) s') → True := fun _ => True.intro
 split
 ·rename_i q
  have e : PySem.W.subIn K tb (.ref C) = some false := by
   rcases Bool.or_eq_true_iff.mp hn with e | e
   ·rw [beq_iff_eq.mp e] at q; simp at q
   ·exact beq_iff_eq.mp e
  refine wpAny_bind ((PySem.W.looks_subIn X e).here ?_)
  simp only [Bool.false_eq_true, if_false]
  refine wpAny_bind (wpAny_mono one (fun r s' ⟨v, e1, q1⟩ => ?_) fun _ _ z => z)
  subst e1; exact wpAny_pure q1
 ·refine wpAny_bind (wpAny_pure ?_)
  simp only [Bool.false_eq_true, if_false]
  refine wpAny_bind (wpAny_mono one (fun r s' ⟨v, e1, q1⟩ => ?_) fun _ _ z => z)
  subst e1; exact wpAny_pure q1
end
end Z
namespace Z
open PySem PySem.Spec L2 PySem.Calls
open PyProof.Rows hiding St
section
variable {X : Cx} {k : Nat} {C fE fL fS f : Addr} {fd : FuncData} {ps : List Str} {sp : Sp}
theorem run_at {pins : List (Addr × Obj)} {σ : St} {H : Hp} {s : Shared} {Q : VK} {us : List Value} {vs : List V} {A : Around} (F : FnOk X.prog X.w X.K X.mg X.base CX0 k f fd ps sp) (fr : A.frames = X.A.frames) (hr : Room k A) (hb : Binds X.K fd ps [])
  (I : Inv X pins σ H s) (r : Vals vs us) (h : sp vs H Q E0) : wpAny (model X.prog X.w) A (call (.ref f) us) (EP X pins σ Q) X.xe s := by
 have e := I.env0
 have e0 : Env0 X.prog X.w X.K X.mg X.base A X.stack s H := ⟨by rw [fr]; exact e.frames, e.mod, e.bs, e.bsz, e.funs, e.frf, e.hok, e.bare⟩
 have hl := F.len _ _ _ _ h
 refine wpAny_call (codeAny_mono (F.run A X.stack s H ⟨us, []⟩ us vs Q E0 hr e0 (by
  have z := hb s us I.kIn (by rw [List.append_nil, ← r.length]; exact hl)
  rwa [List.append_nil] at z) r h) fun r' s' hq => ?_)
 match r', hq with
 | .error e, hq => exact pass0 pins σ H s e s' I hq
 | .ok (.ret u), hq => exact I.after hq
def rEqO (K : PySem.W.Frag) (C : Addr) (sp : Sp) (neg : Bool) : R2 := fun x y H Q => ∃ a dx fs t, x = .ref a ∧ H a = some (.ins C dx fs) ∧ TyX K H y t ∧ PySem.W.notFirst K C t = true ∧ sp [x, y] H (fun z H' => ∃ b, z = .bl b ∧ Q (.bl (b != neg)) H') E0
theorem op_neO (F : FnOk X.prog X.w X.K X.mg X.base CX0 k fE fd ps sp) (hr : Room (k + 1) X.A) (o : OwnC X.K C fE fL fS) (hb : Binds X.K fd ps []) : OpR X (compareOp .NotEq) (rEqO X.K C sp true) := by
 intro pins s σ H x y v u Q I rx ry h
 obtain ⟨a, dx, fs, t, rfl, ha, ty, nf, hsp⟩ := h
 cases rx
 obtain ⟨mA, J, _⟩ := ins_get I.hok ha
 obtain ⟨od, J, _⟩ := J.look
 obtain ⟨P, kx, hp, _⟩ := kit_of I ry ty
 have hu := hr.un
 refine PySem.W.cmp_ofNotEq (ne_own (tb := t) (by omega) I.kIn J (kx.ty _ _ I.kIn hp) nf o.ne o.t.hm o.eq o.eqf ?_)
 refine wpAny_mono (run_at F rfl hr.in1 hb I (.cons (show RelV (V.ref a) (Value.ref a) from rfl) (.cons ry .nil)) hsp) (fun v s' ⟨z, H', I', rz, b, ez, q⟩ => ?_) fun _ _ e => e
 subst ez
 obtain rfl : v = Value.bool b := rz
 exact ⟨b, rfl, .bl (!b), H', I', rfl, by simpa using q⟩
def rStrO (C : Addr) (sp : Sp) : List V → Hp → VK → Prop := fun xs H Q => ∃ a dx fs, xs = [.ref a] ∧ H a = some (.ins C dx fs) ∧ sp [.ref a] H (fun z H' => ∃ y, z = .str y ∧ Q z H') E0
theorem call_strO (F : FnOk X.prog X.w X.K X.mg X.base CX0 k fS fd ps sp) (hr : Room (k + 2) X.A) (o : OwnC X.K C fE fL fS) (hb : Binds X.K fd ps []) : CallR X (.type "str") (rStrO C sp) := by
 intro pins s σ H xs us Q I r h
 obtain ⟨a, dx, fs, rfl, ha, hsp⟩ := h
 obtain rfl := Vals.ref1 r
 obtain ⟨mA, J, _⟩ := ins_get I.hok ha
 obtain ⟨od, J, _⟩ := J.look
 refine PySem.W.kso_call (Room.in1 (Room.in1 hr)).units0 I.kIn J o.str o.strf ?_
 refine wpAny_mono (run_at F rfl (Room.in1 (Room.in1 hr)) hb I r hsp) (fun v s' ⟨z, H', I', rz, y, ez, q⟩ => ?_) fun _ _ e => e
 subst ez
 obtain ⟨t, rfl⟩ : ∃ t, v = Value.str y t := rz
 exact ⟨.str y, H', I', ⟨t, rfl⟩, q⟩
end
section
variable {X : Cx} {T : List (Addr × Str)} {k : Nat} {C fE fL fS f : Addr} {fd : FuncData} {ps ks : List Str} {sp : SpP} {sr : SpR} {a b e : Expr} {es : List Expr} {ta tb : TEp} {t tk : TAp} {pos p : Pos} {x : Str} {kws : List Keyword}
def EqTy (K : PySem.W.Frag) (C : Addr) (y : PV) : Prop := (tyN y).isSome = true ∨ ∃ fs, y = .ins C fs
theorem eqTy_rep {K : PySem.W.Frag} {O : Addr → Prop} {H : Hp} {y : PV} {v : V} (o : OwnC K C fE fL fS) (h : Rep K O H y v) (t : EqTy K C y) : ∃ u, TyX K H v u ∧ PySem.W.notFirst K C u = true := by
 rcases t with t | ⟨fs, rfl⟩
 ·obtain ⟨n, e⟩ := Option.isSome_iff_exists.mp t
  refine ⟨_, tyN_rep h e, o.nf n ?_⟩
  cases y <;> unfold tyN at e <;> cases e <;> decide
 ·obtain ⟨a, dx, ws, rfl, na, q, rr⟩ := h.ins_
  exact ⟨_, .base (.ins q o.t.cl o.t.ha o.t.hn o.t.htk o.t.hm), o.nfC⟩
def tEqOP (K : PySem.W.Frag) (C : Addr) (sp : SpP) (neg : Bool) (ta tb : TEp) : TEp := fun η P => ta η fun x η1 => tb η1 fun y η2 => (∃ fs, x = .ins C fs) ∧ EqTy K C y ∧ sp [x, y] fun z => ∃ b, z = .bl b ∧ P (.bl (b != neg)) η2
theorem zt_cmpO {op : CmpOp} {neg : Bool} (o : OwnC X.K C fE fL fS) (ho : OpR X (compareOp op) (rEqO X.K C (upSp X.K T sp) neg)) (ha : PE X a (up X.K T ta)) (hb : PE X b (up X.K T tb)) (hm : behindInMarks op b = false := by first | exact nomark _ | rfl) :
  PT X (.Compare a [op] [b] pos) (upB X.K T (tBlP (tEqOP X.K C sp neg ta tb))) := by
 refine PT.weak (pt_cmpR ho ha hb hm) fun σ H Q q => ?_
 obtain ⟨F, η, P, R, h, kk⟩ := q
 refine ⟨F, η, _, R, h, fun x η1 v H1 h1 e1 R1 r1 => ⟨F, η1, _, R1, h1, fun y η2 w H2 h2 e2 R2 rw => ?_⟩⟩
 obtain ⟨⟨fs, rfl⟩, ty, h2⟩ := h2
 have rx := r1.car e2.car
 obtain ⟨u, t1, t2⟩ := eqTy_rep o rw ty
 obtain ⟨a', dx, ws, rfl, na, q', rr⟩ := id rx.ins_
 exact ⟨a', dx, ws, u, rfl, q', t1, t2, Oof F σ η2, _, _, R2.trO, R2.tb, .cons rx (.cons rw .nil), h2, fun z v H3 ⟨b, ez, pz⟩ g tb rz => ⟨b, by rw [ez] at rz; exact rz.bl_, _, rfl, kk _ η2 H3 pz ((e1.trans e2).trans g.ext) (R2.gr g tb)⟩⟩
def tStrOP (C : Addr) (sp : SpP) (t : TAp) : TEp := fun η P => t η fun xs η1 => ∃ fs, xs = [.ins C fs] ∧ sp [.ins C fs] fun z => (∃ y, z = .str y) ∧ P z η1
theorem z_strO (o : OwnC X.K C fE fL fS) (hc : CallR X (.type "str") (rStrO C (upSp X.K T sp))) (hg : Gl X x) (hm : X.mg x = none) (hv : bootBuiltins x = some (.type "str")) (ha : PA X (e :: es) (upA X.K T t)) (hn : x ≠ "__name__" := by decide) (hdb : (x == ("__debug__" : Str)) = false := by decide)
  (he : starEach (e :: es) X.env = (false, eval e X.env) :: starEach es X.env := by rfl) (hpl : (backTo pos (starEach es X.env)).any (·.1) = false := by rfl) : PE X (.Call (.Name x p) (e :: es) [] pos) (up X.K T (tStrOP C sp t)) := by
 refine PE.weak (pe_callTy hc hg hm hv ha hn hdb he hpl) fun σ H Q q => ?_
 obtain ⟨F, η, P, R, h, kk⟩ := q
 refine ⟨F, η, _, R, h, fun xs η1 v H1 h1 e1 R1 r1 => ?_⟩
 obtain ⟨fs, rfl, h1⟩ := h1
 obtain ⟨v1, rfl, r2⟩ := r1.one
 obtain ⟨a', dx, ws, rfl, na, q', rr⟩ := id r2.ins_
 exact ⟨a', dx, ws, rfl, q', Oof F σ η1, _, _, R1.trO, R1.tb, .cons r2 .nil, h1, fun z v H3 ⟨⟨y, ez⟩, pz⟩ g tb rz => ⟨y, by rw [ez] at rz; exact rz.str_, kk _ η1 _ H3 pz (e1.trans g.ext) (R1.gr g tb) rz⟩⟩
end
def LowS (x : Str) : Prop := ∀ c ∈ x.cps.toList, 97 ≤ c ∧ c ≤ 122
abbrev Row3 := Str × Int × Int
def rowE (r : Row3) : PyData := .tuple [.str r.1, .int r.2.1, .int r.2.2]
structure GoodR (r : Row3) : Prop where
 low : LowS r.1
 s0 : 0 ≤ r.2.1
 e0 : 0 ≤ r.2.2
def joinL : List (List Nat) → List Nat
 | [] => []
 | [x] => x
 | x :: y :: r => x ++ 44 :: 32 :: joinL (y :: r)
end Z
namespace Z
open PySem PySem.Spec L2 StX
open PyProof.Rows hiding St
section
variable {X : Cx} {T : List (Addr × Str)} {e : Expr} {es : List Expr} {te : TEp} {t : TAp} {pos p : Pos}
def tStarP (te : TEp) (t : TAp) : TAp := fun η P => te η fun x η1 => match x with
 | .lst xs => t η1 fun ys η2 => P (xs ++ ys) η2
 | .tup xs => t η1 fun ys η2 => P (xs ++ ys) η2
 | _ => False
theorem za_star (he : PE X e (up X.K T te)) (hr : PA X es (upA X.K T t)) (hs : starEach (.Starred e p :: es) X.env = (true, eval e X.env) :: starEach es X.env := by rfl) : PA X (.Starred e p :: es) (upA X.K T (tStarP te t)) := by
 refine PA.weak (pa_star he hr hs) fun σ H Q q => ?_
 obtain ⟨F, η, P, R, h, k⟩ := q
 refine ⟨F, η, _, R, h, fun x η1 v H1 h1 e1 R1 r1 => ?_⟩
 split at h1
 ·obtain ⟨a, vs, rfl, n, q, rr⟩ := r1.lst_
  exact ⟨a, vs, rfl, .inr (SqL.of q), F, η1, _, R1, h1, fun ys η2 ws H2 h2 e2 R2 r2 => k _ η2 _ H2 h2 (e1.trans e2) R2 ((rr.car e2.car).app r2)⟩
 ·obtain ⟨a, vs, rfl, q, rr⟩ := r1.tup_
  exact ⟨a, vs, rfl, .inl q.sq, F, η1, _, R1, h1, fun ys η2 ws H2 h2 e2 R2 r2 => k _ η2 _ H2 h2 (e1.trans e2) R2 ((rr.car e2.car).app r2)⟩
 ·cases h1
def tFmtP (te : TEp) : TEp := fun η P => te η fun x η1 => match x with
 | .str y => y.length ≤ sizeLine ∧ P (.str y) η1
 | .int i => i.natAbs.log2 < 1920 ∧ P (.str (toString i)) η1
 | _ => False
theorem z_fmt (he : PE X e (up X.K T te)) : PE X (.FormattedValue e (-1) none pos) (up X.K T (tFmtP te)) := by
 refine PE.weak (pe_fmt he) fun σ H Q q => ?_
 obtain ⟨F, η, P, R, h, k⟩ := q
 refine ⟨F, η, _, R, h, fun x η1 v H1 h1 e1 R1 r1 => ?_⟩
 split at h1
 ·exact .inl ⟨_, r1.str_, h1.1, k _ η1 _ H1 h1.2 e1 R1 (by unfold Rep; rfl)⟩
 ·exact .inr ⟨_, r1.int_, h1.1, k _ η1 _ H1 h1.2 e1 R1 (by unfold Rep; rfl)⟩
 ·cases h1
def tJsP : List TEp → Str → EP' → (Str → EP' → Prop) → Prop
 | [], acc, η, P => P acc η
 | t :: ts, acc, η, P => t η fun x η1 => ∃ y : Str, x = .str y ∧ (acc ++ y).length ≤ sizeLine ∧ tJsP ts (acc ++ y) η1 P
def tJoinedP (ts : List TEp) : TEp := fun η P => tJsP ts Str.empty η fun out η' => P (.str out) η'
theorem js_up {K : PySem.W.Frag} {F : Addr → Prop} {σ : St} : ∀ (ts : List TEp) (acc : Str) (η : EP') (H : Hp) (P : Str → EP' → Prop) (Q : Str → Hp → Prop), Rs K T F σ η H → tJsP ts acc η P →
  (∀ out η' H', P out η' → Ext σ η σ η' H H' → Rs K T F σ η' H' → Q out H') → tJs (ts.map (up K T)) acc σ H Q
 | [], acc, η, H, P, Q, R, h, k => k acc η H h .refl R
 | t :: ts, acc, η, H, P, Q, R, h, k => by
  refine ⟨F, η, _, R, h, fun x η1 v H1 h1 e1 R1 r1 => ?_⟩
  obtain ⟨y, rfl, hz, h1⟩ := h1
  exact ⟨y, r1.str_, hz, js_up ts _ η1 H1 P Q R1 h1 fun out η' H' p e2 R2 => k out η' H' p (e1.trans e2) R2⟩
theorem z_js {v1 v2 : Expr} {rest : List Expr} {ts : List TEp} (h : PJ X (v1 :: v2 :: rest) (ts.map (up X.K T))) : PE X (.JoinedStr (v1 :: v2 :: rest) pos) (up X.K T (tJoinedP ts)) := by
 refine PE.weak (pe_joined h) fun σ H Q q => ?_
 obtain ⟨F, η, P, R, h, k⟩ := q
 exact js_up ts Str.empty η H _ _ R h fun out η' H' p e1 R1 => k _ η' _ H' p e1 R1 (by unfold Rep; rfl)
end
theorem reps_rev {K : PySem.W.Frag} {O : Addr → Prop} {H : Hp} : ∀ {zs : List PV} {vs : List V}, Reps K O H zs vs → Reps K O H zs.reverse vs.reverse
 | [], _, h => by cases h.inv0; exact .nil
 | x :: xs, _, h => by
  obtain ⟨v, us, rfl, r, t⟩ := h.inv
  rw [List.reverse_cons, List.reverse_cons]
  exact (reps_rev t).app (.cons r .nil)
theorem val_weak {K : PySem.W.Frag} {T : List (Addr × Str)} {tf : TFp} {σ : St} {H : Hp} {Q : VK} (q : up K T (tValP tf) σ H Q) : upF K T tf σ H Q := by
 obtain ⟨F, η, P, R, h, k⟩ := q
 refine ⟨F, η, _, R, h, fun xs η' a vs H' h1 e1 R1 hn nf hv r => ?_⟩
 refine k _ _ _ _ h1 e1 (R1.shrink fun b z => .inl z) ?_
 unfold Rep
 refine ⟨a, vs, rfl, fun z => ?_, hv, r.mono fun b z => z.elim (fun z => .inl (.inl z)) .inr⟩
 rcases z with z | ⟨j, p, h1, h2⟩
 ·exact nf z
 ·obtain ⟨b, q1, q2, q3⟩ := R1.ow j p h2
  rw [h1] at q1; cases q1
  exact q3 (.inr rfl)
theorem z_setLc {X : Cx} {T : List (Addr × Str)} {y : Str} {py : Pos} {elt tg iter : Expr} {ifs : List Expr} {scope : Scope} {own : List (Str × Nat)} {pos spos : Pos} {i : Nat} {ti : TIp} {g : TGp} {tt : TTp} {te : TEp}
  (pf : PS X (.Assign [.Name y py] (.ListComp elt [⟨tg, iter, ifs, 0⟩] scope pos) spos) (tAsg (tLc (upI X.K T ti) (upGw X.K T (own.map (·.2)) g) (upB X.K T tt) (up X.K T te) (own.map (·.2))) (gName i))) :
  PS X (.Assign [.Name y py] (.ListComp elt [⟨tg, iter, ifs, 0⟩] scope pos) spos) (upS X.K T (tSetP i (tValP (tLcP ti g tt te (own.map (·.2)))))) := by
 refine PS.weak pf fun D σ H q => lc_weak (val_weak ?_)
 obtain ⟨F, η, D', R, h, k1, k2, k3, k4⟩ := q
 exact ⟨F, η, _, R, h, fun x η1 v H1 h1 e1 R1 r => k1 _ _ _ h1 (e1.trans .setv) (R1.setv r)⟩
end Z
namespace Z
open PySem PySem.Spec L2 GenW
open PyProof.Rows hiding St
end Z
namespace Z
open PySem PySem.Spec L2 GenW
open PyProof.Rows hiding St
section
variable {X : Cx} {T : List (Addr × Str)} {k : Nat} {C f : Addr} {fd : FuncData} {ps : List Str} {sp : Sp} {e : Expr} {es : List Expr} {t : TAp} {x : Str} {p pos : Pos}
theorem call_reprO (F : FnOk X.prog X.w X.K X.mg X.base CX0 k f fd ps sp) (hr : Room (k + 1) X.A) (hs : PySem.W.findIn X.K (.ref C) "__repr__" = some (some (.ref f))) (hf : PySem.W.isFn X.K (.ref f) = true) (hb : Binds X.K fd ps []) : CallR X (.builtin "repr") (rStrO C sp) := by
 intro pins s σ H xs us Q I r h
 obtain ⟨a, dx, fs, rfl, ha, hsp⟩ := h
 obtain rfl := Vals.ref1 r
 obtain ⟨mA, J, _⟩ := ins_get I.hok ha
 obtain ⟨od, J, _⟩ := J.look
 obtain ⟨m, hF⟩ := I.fr
 refine PySem.W.repr_K hr.in1.units0 hF I.ok.mod.kin J hs hf ?_
 refine wpAny_mono (run_at F rfl hr.in1 hb I r hsp) (fun v s' ⟨z, H', I', rz, y, ez, q⟩ => ?_) fun _ _ e => e
 subst ez
 obtain ⟨t, rfl⟩ : ∃ t, v = Value.str y t := rz
 exact ⟨.str y, H', I', ⟨t, rfl⟩, q⟩
theorem z_reprO {sp : SpP} (hc : CallR X (.builtin "repr") (rStrO C (upSp X.K T sp))) (hg : Gl X x) (hm : X.mg x = none) (hv : bootBuiltins x = some (.builtin "repr")) (ha : PA X (e :: es) (upA X.K T t)) (hn : x ≠ "__name__" := by decide) (hdb : (x == ("__debug__" : Str)) = false := by decide)
  (he : starEach (e :: es) X.env = (false, eval e X.env) :: starEach es X.env := by rfl) (hpl : (backTo pos (starEach es X.env)).any (·.1) = false := by rfl) : PE X (.Call (.Name x p) (e :: es) [] pos) (up X.K T (tStrOP C sp t)) := by
 refine PE.weak (pe_callB hc hg hm hv ha hn hdb he hpl) fun σ H Q q => ?_
 obtain ⟨F, η, P, R, h, kk⟩ := q
 refine ⟨F, η, _, R, h, fun xs η1 v H1 h1 e1 R1 r1 => ?_⟩
 obtain ⟨fs, rfl, h1⟩ := h1
 obtain ⟨v1, rfl, r2⟩ := r1.one
 obtain ⟨a', dx, ws, rfl, na, q', rr⟩ := id r2.ins_
 exact ⟨a', dx, ws, rfl, q', Oof F σ η1, _, _, R1.trO, R1.tb, .cons r2 .nil, h1, fun z v H3 ⟨⟨y, ez⟩, pz⟩ g tb rz => ⟨y, by rw [ez] at rz; exact rz.str_, kk _ η1 _ H3 pz (e1.trans g.ext) (R1.gr g tb) rz⟩⟩
end
end Z
namespace Z
open PySem PySem.Spec L2 StX
open PyProof.Rows hiding St
end Z
namespace Z
open PySem PySem.Spec L2 StX
open PyProof.Rows hiding St
end Z
namespace Z
open PySem PySem.Spec L2 StX
open PyProof.Rows hiding St
def pick {α : Type} (is : List Nat) (xs : List α) : List α := is.filterMap fun i => xs[i]?
structure KwB (K : PySem.W.Frag) (fd : FuncData) (ps : List Str) (n : Nat) (ks : List Str) (is : List Nat) : Prop where
 to : ∀ (s : Shared) (us ws : List Value), K.In s.heap → us.length = n → ws.length = ks.length → BindsTo s fd ⟨us, ks.zip ws⟩ (ps.zip (us ++ pick is ws))
 ln : n + is.length = ps.length ∧ ∀ i ∈ is, i < ks.length
end Z
namespace Z
open PySem
open Sem (wp)
def stung : GenState → GenState
 | .suspended _ l c p fs _ => .suspended (fun _ => .unsupported "") l c p fs false
 | x => x
def sleeps : GenState → Bool
 | .suspended .. => true
 | _ => false
def isGenF : Frame → Bool
 | .gen .. => true
 | _ => false
def NoG (fs : List Frame) : Prop := ∀ F ∈ fs, isGenF F = false
def NoGS : GenState → Prop
 | .suspended _ _ _ _ fs _ => NoG fs
 | _ => True
def pickG (y : Option GenState) (x : GenState) : GenState := match y with
 | some y => if sleeps y = true then y else x
 | none => x
def un (G : Array GenState) (s : Shared) : Shared := { s with gens := s.gens.mapIdx fun i x => pickG G[i]? x }
structure Good (G : Array GenState) (s : Shared) : Prop where
 sz : G.size ≤ s.gens.size
 sl : ∀ (i : Nat) (y : GenState), G[i]? = some y → sleeps y = true → s.gens[i]? = some (stung y)
 no : ∀ (i : Nat) (x : GenState), (∀ y, G[i]? = some y → sleeps y = false) → s.gens[i]? = some x → NoGS x
section
variable {G : Array GenState} {s : Shared}
theorem Good.of {s' : Shared} (g : Good G s) (e : s'.gens = s.gens) : Good G s' := ⟨by rw [e]; exact g.sz, by rw [e]; exact g.sl, by rw [e]; exact g.no⟩
end
end Z
namespace Z
open PySem L2
open Sem (wp)
open PyProof.Rows hiding St
section
variable {M : Model} {G : Array GenState}
def Still (G : Array GenState) (s : Shared) : Prop := ∀ (i : Nat) (y : GenState), G[i]? = some y → sleeps y = true → s.gens[i]? = some y
end
end Z
namespace Z
open PySem PySem.Spec L2 GenW
open PyProof.Rows hiding St
structure WRel (it L : Addr) (s0 s : Shared) : Prop where
 os : s.os = s0.os
 gens : s.gens = s0.gens
 keep : ∀ b o, b ≠ it → b ≠ L → s0.heap.get? b = some o → s.heap.get? b = some o
def TupQ (qs : List V) (q : Addr) (h : Heap) : Prop := ∃ its : List Value, Vals qs its ∧ h.IsTuple q its.toArray
structure WAt (it L q : Addr) (i : Nat) (h : Heap) : Prop where
 ns : ∃ m, h.Ns L m
 it : h.IsTupleIter it q i
def YW (it L q : Addr) (qs : List V) (N : Nat) : Protocol := fun n s0 v s1 kap =>
 ∃ i x, n + (i + 1) = N ∧ qs[i]? = some x ∧ RelV x v ∧ WRel it L s0 s1 ∧ WAt it L q (i + 1) s1.heap ∧ ∀ s'', WAt it L q (i + 1) s''.heap → TupQ qs q s''.heap → kap (.send .none) s'' ∧ kap (.send (.bool true)) s''
def FW (it L : Addr) (qs : List V) (N n : Nat) (s0 s1 : Shared) : Prop := N = n + qs.length ∧ WRel it L s0 s1
def RW (it L : Addr) (qs : List V) (N : Nat) : GenEnd := fun n s0 r s1 => ((r = .ok (.ret .none) ∨ r = .ok .next) ∧ FW it L qs N n s0 s1) ∨ ∃ e, r = .error e ∧ False
theorem WRel.refl {it L : Addr} {s : Shared} : WRel it L s s := ⟨rfl, rfl, fun _ _ _ _ e => e⟩
theorem WRel.trans {it L : Addr} {s0 s1 s2 : Shared} (a : WRel it L s0 s1) (b : WRel it L s1 s2) : WRel it L s0 s2 := ⟨b.os.trans a.os, b.gens.trans a.gens, fun c o h1 h2 e => b.keep c o h1 h2 (a.keep c o h1 h2 e)⟩
theorem WRel.toks {it L : Addr} {s0 s : Shared} {t : Nat} (a : WRel it L s0 s) : WRel it L s0 { s with toks := t } := ⟨a.os, a.gens, a.keep⟩
section
variable {prog : Program} {w : World} {A : Around} {env : Env} {it L q : Addr} {qs : List V} {p1 p2 p3 p4 p5 p6 p7 : Pos}
abbrev wBody (p4 p5 p6 : Pos) : List Stmt := [.Expr (.Yield (some (.Name "row" p4)) p5) p6]
abbrev wFor (p1 p2 p3 p4 p5 p6 p7 : Pos) (f : Str) : Stmt := .For (.Name "row" p1) (.Attribute (.Name "self" p2) f p3) (wBody p4 p5 p6) [] p7
end
end Z
namespace Z
open PySem PySem.Spec L2 GenW
open PyProof.Rows hiding St
section
variable {P : Program} {w : World} {A : Around} {a it L q : Addr} {g : Nat} {qs : List V}
structure GAt (P : Program) (w : World) (A : Around) (a it L q : Addr) (g : Nat) (qs : List V) (i : Nat) (s : Shared) : Prop where
 gs : ∃ gs : GenState, s.gens[g]? = some gs ∧ sleeps gs = true ∧ gs.bare = true ∧ ∀ s'', WAt it L q i s''.heap → TupQ qs q s''.heap → gs.Goes (model P w) A.in1 (RW it L qs qs.length) (YW it L q qs qs.length) (qs.length - i) (.send .none) s''
 at_ : WAt it L q i s.heap
 gen : s.heap.IsGen a g
structure GStep (it L : Addr) (g : Nat) (s s1 : Shared) : Prop where
 os : s1.os = s.os
 bare : AllBare s.gens → AllBare s1.gens
 keep : ∀ b o, b ≠ it → b ≠ L → s.heap.get? b = some o → s1.heap.get? b = some o
end
end Z
set_option maxHeartbeats 1000000
namespace Z
open PySem PySem.Spec L2 GenW
open PyProof.Rows hiding St
structure WNew (P : Program) (w : World) (fl : Str) (o a L : Addr) (g : Nat) (s : Shared) : Prop where
 gen : s.heap.IsGen a g
 gs : ∃ env p1 p2 p3 p4 p5 p6 p7, s.gens[g]? = some (.fresh (.func [wFor p1 p2 p3 p4 p5 p6 p7 fl] env)) ∧ env.scope.kind = .function ∧ env.kindOf "self" = some .local ∧ env.kindOf "row" = some .local ∧ env.scope.isCoroutine = false ∧
  interactive env = false ∧ env.locals = L ∧ attributeBase (.Name "self" p2) fl env (eval (.Name "self" p2) env) = eval (.Name "self" p2) env
 ns : ∃ m, s.heap.Ns L m ∧ m "self" = some (.ref o)
structure WMade (P : Program) (w : World) (fl : Str) (o : Addr) (s : Shared) (u : Value) (s' : Shared) : Prop where
 ex : ∃ a L g, u = .ref a ∧ s.heap.objs.size ≤ a ∧ s.heap.objs.size ≤ L ∧ WNew P w fl o a L g s'
 os : s'.os = s.os
 bare : AllBare s'.gens
 keep : ∀ b ob, s.heap.get? b = some ob → s'.heap.get? b = some ob
structure WFn (P : Program) (w : World) (K : PySem.W.Frag) (mg : Str → Option Value) (base : Heap) (k : Nat) (f : Addr) (fd : FuncData) (fl : Str) : Prop where
 run : ∀ (A : Around) (outer : List Env) (s : Shared) (H : Hp) (args : Args) (o : Addr), Room k A → Env0 P w K mg base A outer s H → BindsTo s fd args (([("self" : Str)]).zip [Value.ref o]) →
  codeAny (model P w) A (.call (.ref f) args) (fun r s' => match r with | .ok (.ret u) => WMade P w fl o s u s' | _ => False) s
section
variable {X : Cx} {k : Nat} {C f : Addr} {fd : FuncData} {fl m : Str} {o : Expr} {ta : TE} {pos' apos : Pos}
structure PWk (X : Cx) (C : Addr) (fl : Str) (e : Expr) (tw : St → Hp → (Addr → Addr → List V → Hp → Prop) → Prop) : Prop where
 run : ∀ (pins : List (Addr × Obj)) (s : Shared) (σ : L2.St) (H : Hp) (R : Addr → Addr → List V → Hp → Prop), Inv X pins σ H s → tw σ H R → wpAny (model X.prog X.w) X.A (eval e X.env)
  (fun u s' => ∃ o q qs H1 a L g, u = .ref a ∧ Inv X pins σ H1 s' ∧ FpOk X pins H1 a ∧ FpOk X pins H1 L ∧ WNew X.prog X.w fl o a L g s' ∧ (∃ dx fs, H1 o = some (.ins C dx fs) ∧ fs.lookup fl = some (.ref q)) ∧ SqT X.K H1 q qs ∧ qs.length < 1000 ∧ R o q qs H1) X.xe s
end
end Z
namespace Z
open PySem PySem.Spec L2 GenW
open PyProof.Rows hiding St
section
variable {X : Cx} {C : Addr} {fl : Str} {e : Expr} {tw : St → Hp → (Addr → Addr → List V → Hp → Prop) → Prop}
theorem Still.trans {G : Array GenState} {s s' : Shared} (h : Still G s) (k : Still s.gens s') : Still G s' := fun i y e z => k i y (h i y e z) z
end
end Z
namespace Z
open PySem PySem.Spec L2 GenW
open PyProof.Rows hiding St
end Z
namespace Z
open PySem PySem.Spec L2 GenW
open PyProof.Rows hiding St
end Z
namespace Z
open PySem PySem.Spec L2
open PyProof.Rows hiding St
section
variable {X : Cx}
end
end Z
namespace Z
open PySem PySem.Spec L2 HT
open PyProof.Rows hiding St
end Z
namespace Z
open PySem PySem.Spec L2
open PyProof.Rows hiding St
end Z
namespace Z
open PySem PySem.Spec L2
open PyProof.Rows hiding St
section
variable {X : Cx} {T : List (Addr × Str)} {e e2 tg : Expr} {te : TEp} {t : TAp}
def tRevLP (te : TEp) : TEp := fun η P => te η fun x η1 => match x with
 | .lst xs => P (.lst xs.reverse) η1
 | _ => False
theorem z_revL {k : Nat} {p1 p2 p3 pos : Pos} (he : PE X e (up X.K T te)) : PE X (.Subscript e (.Slice none none (some (.UnaryOp .USub (.Constant (.int 1) k p1) p2)) p3) pos) (up X.K T (tRevLP te)) := by
 refine PE.weak (pe_revL he) fun σ H Q q => ?_
 obtain ⟨F, η, P, R, h, k⟩ := q
 refine ⟨F, η, _, R, h, fun x η1 v H1 h1 e1 R1 r1 => ?_⟩
 split at h1
 ·obtain ⟨a, vs, rfl, n, q, rr⟩ := r1.lst_
  refine ⟨a, vs, rfl, SqL.of q, fun p hp => ?_⟩
  exact k _ η1 _ _ h1 (e1.trans (.same (Same.new hp))) (R1.same (Same.new hp)) (rep_newL R1.trO hp (reps_rev rr))
 ·cases h1
end
end Z
namespace Z
open PySem PySem.Spec L2
open PyProof.Rows hiding St
end Z
namespace Z
open PySem PySem.Spec L2
open PyProof.Rows hiding St
end Z
namespace Z
open PySem PySem.Spec L2 GenW
open PyProof.Rows hiding St
end Z
namespace Z
open PySem PySem.Spec L2 GenW
open PyProof.Rows hiding St
end Z
namespace Z
open PySem PySem.Spec L2
open PyProof.Rows hiding St
section
variable {X : Cx}
theorem call_divmodW : CallR X (.builtin "divmod") (fun xs H Q => ∃ i j, xs = [.int i, .int j] ∧ CDivW i j ∧ ∀ p, H p = none → Q (.ref p) (upd H p (.tup [.int (i / j), .int (i % j)]))) := by
 intro pins s σ H xs us Q I r h
 obtain ⟨i, j, rfl, ⟨h1, h2⟩, q⟩ := h
 obtain ⟨u, w', rfl, ⟨t, rfl⟩, ⟨t', rfl⟩⟩ := vals2 r
 refine divmod_int (by omega) ?_ (.inl (PyProof.noPylong_of_log2 h2))
 rw [Int.fdiv_eq_ediv_of_nonneg i (by omega), Int.fmod_eq_emod_of_nonneg i (by omega)]
 have hn : H s.heap.objs.size = none := I.hok.fresh (Nat.le_refl _)
 refine ⟨.ref s.heap.objs.size, _, ?_, rfl, q _ hn⟩
 refine I.laid (fun b o e => Heap.get?_push_of_some _ e) (Nat.le_refl _) ⟨by simp only [List.length_cons, List.length_nil]; rw [sizeLine_eq]; decide, [.int (i / j) s.toks, .int (i % j) (s.toks + 1)], .cons ⟨_, rfl⟩ (.cons ⟨_, rfl⟩ .nil), ?_⟩
 exact ⟨_, Heap.get?_push_size s.heap rfl, rfl, 0, rfl⟩
def rDivmodW : R1p := fun ps P => match ps with
 | [.int i, .int j] => CDivW i j ∧ P (.tup [.int (i / j), .int (i % j)])
 | _ => False
theorem zc_divmodW : CallR X (.builtin "divmod") (r1 X.K rDivmodW) := by
 refine CallR.weak (call_divmodW (X := X)) fun xs H Q h => ?_
 obtain ⟨O, ps, P, tr, hx, h, k⟩ := h
 unfold rDivmodW at h
 split at h
 ·obtain ⟨v, w, rfl, r, r'⟩ := hx.two
  cases r.int_; cases r'.int_
  exact ⟨_, _, rfl, h.1, fun p hp => k.newT h.2 tr (.cons rep_int (.cons rep_int .nil)) hp⟩
 ·cases h
theorem q_divmodW {i j : Int} {P : PV → Prop} (c : CDivW i j) (h : P (.tup [.int (i / j), .int (i % j)])) : rDivmodW [.int i, .int j] P := ⟨c, h⟩
theorem cdivW {i j : Int} (h : 0 < j) (h' : j < 10 ^ 40) : CDivW i j := wide_div (b := 200) h (by
 have : (10 : Int) ^ 40 < 2 ^ 200 := by decide
 omega) (by decide) (by decide)
end
def Kn (K : PySem.W.Frag) (x : PV) : Prop := (tyN x).isSome = true ∨ ∃ C fs, x = .ins C fs ∧ ClsT K C
def isInt : PV → Bool
 | .int _ => true
 | _ => false
def isStn : PV → Bool
 | .int i => decide (0 ≤ i)
 | _ => false
def isLat (s : Int) : PV → Bool
 | .int i => decide (s < i)
 | _ => false
def abc : Str := ("abcdefghijklmnopqrstuvwxyz" : Str)
def isNm : PV → Bool
 | .str z => decide (1 ≤ z.length) && (decide (z.length ≤ 8) && z.cps.toList.all fun c => decide (c ∈ abc.cps.toList))
 | _ => false
abbrev Trip := Str × Int × Int
def rowP (r : Trip) : PV := .tup [.str r.1, .int r.2.1, .int r.2.2]
def rowsP (rs : List Trip) : PV := .tup (rs.map rowP)
structure Rw (rs : List Trip) : Prop where
 len : rs.length ≤ 24
 each : ∀ r ∈ rs, isNm (.str r.1) = true ∧ 0 ≤ r.2.1 ∧ r.2.1 < r.2.2
 asc : rs.Pairwise fun a b => a.1.cps.toList < b.1.cps.toList
def queueP (rs : List Trip) : PV := .tup ((rs.map rowP).mergeSort (PySem.W.dataLe false (keyP 1 0)))
def lineF (n : Int) (rs : List Trip) : List (Str × PV) := [(("seat_count" : Str), .int n), (("rows" : Str), rowsP rs), (("queue" : Str), queueP rs)]
def lineP (C : Addr) (n : Int) (rs : List Trip) : PV := .ins C (lineF n rs)
abbrev PrP := PySem.W.Frag → Addr → SpP
def sp_is_integer : PrP := fun K _ args P => ∃ x, args = [x] ∧ Kn K x ∧ P (.bl (isInt x))
def sp_is_station : PrP := fun K _ args P => ∃ x, args = [x] ∧ Kn K x ∧ P (.bl (isStn x))
def sp_is_later : PrP := fun K _ args P => ∃ x s, args = [x, .int s] ∧ Kn K x ∧ P (.bl (isLat s x))
def sp_is_trip_name : PrP := fun K _ args P => ∃ x, args = [x] ∧ Kn K x ∧ (∀ z, x = .str z → z.length ≤ sizeLine) ∧ P (.bl (isNm x))
def sp_Line_trips : PrP := fun K C args P => ∃ n rs, args = [lineP C n rs] ∧ P (rowsP rs)
def sp_law_cell : PrP := fun K _ args P => ∃ ns k, args = [.scr ns, .int k] ∧ 0 ≤ k ∧ k < 100 ∧ ∀ c, P (.int c)
def sp_law_pool : PySem.W.Frag → Addr → SpF := fun K _ args P => ∃ c, args = [.int c] ∧ ∀ s d, 0 ≤ s → s < 1000000007 → 0 ≤ d → P [.int s, .int d, .int 0]
def Pool (o : Ow) : Prop := ∃ s d c, o = .l [.int s, .int d, .int c] ∧ 0 ≤ s ∧ s < 1000000007 ∧ 0 ≤ d
abbrev PrR := PySem.W.Frag → Addr → SpR
def sp_law_draw : PrR := fun K _ o args P => ∃ m : Int, Pool o ∧ args = [.int m] ∧ 0 < m ∧ m < 10 ^ 40 ∧ ∀ o' (k : Int), Pool o' → 0 ≤ k → k < m → P (.int k) o'
def Nms (ws : List Str) : Prop := (∀ w ∈ ws, isNm (.str w) = true) ∧ ws.Nodup
def sp_law_words : PrR := fun K _ o args P => ∃ m : Int, Pool o ∧ args = [.int m] ∧ 0 ≤ m ∧ m ≤ 24 ∧ ∀ o' ws, Pool o' → ws.length = m.toNat → Nms ws → P (.lst (ws.map .str)) o'
def sp_law_far : PrR := fun K _ o args P => ∃ h : Int, Pool o ∧ args = [.int h] ∧ 0 ≤ h ∧ h ≤ 30 ∧ ∀ o' (xs : List Int), Pool o' → xs.length = (h + 1).toNat → xs.Pairwise (· < ·) → (∀ x ∈ xs, 0 ≤ x ∧ x < 10 ^ 40) → P (.lst (xs.map .int)) o'
def sp_law_rides : PrR := fun K _ o args P => ∃ ws h, Pool o ∧ args = [.lst (ws.map .str), .int h] ∧ Nms ws ∧ ws.length ≤ 24 ∧ 1 ≤ h ∧ h ≤ 30 ∧ ∀ o' rs, Pool o' → Rw rs → rs.length = ws.length → (∀ r ∈ rs, r.1 ∈ ws ∧ r.2.2 < 10 ^ 40) → P (rowsP rs) o'
def ts_is_integer (K : PySem.W.Frag) (CLine : Addr) : TSp := tRetP (tAndVP (tCBP (rIsI K) (tConsP (tVarP 0) (tConsP (tConP (.raw (.ty "int"))) (tNilP)))) (tNotVP (tCBP (rIsI K) (tConsP (tVarP 0) (tConsP (tConP (.raw (.ty "bool"))) (tNilP))))))
def ts_is_station (K : PySem.W.Frag) (CLine : Addr) : TSp := tRetP (tAndVP (tCallP (sp_is_integer K CLine) [] (tConsP (tVarP 0) (tNilP))) (tOpP rGe (tVarP 0) (tConP (.int 0))))
def ts_is_later (K : PySem.W.Frag) (CLine : Addr) : TSp := tRetP (tAndVP (tCallP (sp_is_integer K CLine) [] (tConsP (tVarP 0) (tNilP))) (tOpP rGt (tVarP 0) (tVarP 1)))
def ts_is_trip_name (K : PySem.W.Frag) (CLine : Addr) : TSp := tSeqP (tIfSP (tOrP (tNotP (tBlP (tCBP (rIsI K) (tConsP (tVarP 0) (tConsP (tConP (.raw (.ty "str"))) (tNilP)))))) (tNotP (tBlP (tChainP rLe rLe (tConP (.int 1)) (tCBP rLen (tConsP (tVarP 0) (tNilP))) (tConP (.int 8)))))) (tRetP (tConP (.bl false))) (tNextP)) (tRetP (tCBP rAllP (tConsP (tValP (tLcP (iStrP (tVarP 0)) (gNameP 1) (tYesP) (tOpP (rInS false) (tVarP 1) (tConP (.str ("abcdefghijklmnopqrstuvwxyz" : Str)))) [1])) (tNilP))))
def ts_Line_trips (K : PySem.W.Frag) (CLine : Addr) : TSp := tRetP (tFldP CLine ("rows" : Str) (tVarP 0))
def ts_law_cell (K : PySem.W.Frag) (CLine : Addr) : TSp := tSeqP (tIfSP (tBlP (tOpP rLt (tVarP 1) (tCBP rLen (tConsP (tVarP 0) (tNilP))))) (tRetP (tOpP rIxP (tVarP 0) (tVarP 1))) (tNextP)) (tSeqP (tSetP 2 (tOpP rMod (tOpP rMulA (tConP (.int 50021)) (tOpP rAdd (tOpP rAdd (tOpP rMulA (tVarP 1) (tVarP 1)) (tOpP rMulA (tConP (.int 7)) (tVarP 1))) (tConP (.int 3)))) (tConP (.int 1000000007)))) (tSeqP (tForP (iListP (tSliceP (tVarP 0) (tNoPartP) (tPartP (tConP (.int 3))))) (gNameP 3) (tSetP 2 (tOpP rMod (tOpP rAdd (tOpP rMulA (tVarP 2) (tConP (.int 30011))) (tVarP 3)) (tConP (.int 1000000007))))) (tRetP (tVarP 2))))
def ts_law_pool (K : PySem.W.Frag) (CLine : Addr) : TFp := tSeqFP (tSetP 1 (tConP (.int 0))) (tSeqFP (tIfSP (tOrP (tBlP (tOpP rLt (tVarP 0) (tConP (.int 0)))) (tBlP (tOpP rGe (tVarP 0) (tOpP rPow (tConP (.int 10)) (tConP (.int 18)))))) (tSetP 1 (tCBP rAbs (tConsP (tVarP 0) (tNilP)))) (tNextP)) (tLstFP (tConsP (tOpP rMod (tVarP 0) (tConP (.int 1000000007))) (tConsP (tVarP 1) (tConsP (tConP (.int 0)) (tNilP))))))
def ts_law_draw (K : PySem.W.Frag) (CLine : Addr) : TSp := tSeqP (tAsgP (tOpP rAdd (tIxOP 0 (tConP (.int 2))) (tConP (.int 1))) (gSubP 0 (tConP (.int 2)))) (tSeqP (tSetP 2 (tIxOP 0 (tConP (.int 0)))) (tSeqP (tAsgP (tOpP rMod (tOpP rAdd (tOpP rAdd (tOpP rMulA (tVarP 2) (tOpP rAdd (tOpP rMod (tVarP 2) (tConP (.int 46007))) (tConP (.int 20011)))) (tOpP rMulA (tConP (.int 60013)) (tIxOP 0 (tConP (.int 2))))) (tConP (.int 5))) (tConP (.int 1000000007))) (gSubP 0 (tConP (.int 0)))) (tSeqP (tIfSP (tBlP (tOpP rGt (tIxOP 0 (tConP (.int 1))) (tConP (.int 0)))) (tSeqP (tAsgP (tCBP rDivmodW (tConsP (tIxOP 0 (tConP (.int 1))) (tConsP (tVarP 1) (tNilP)))) (gTupP 2 (gConsP (gSubP 0 (tConP (.int 1))) (gConsP (gNameP 3) (gNilP))))) (tRetP (tVarP 3))) (tNextP)) (tRetP (tOpP rMod (tOpP rDiv (tIxOP 0 (tConP (.int 0))) (tConP (.int 32))) (tVarP 1))))))
def ts_law_words (K : PySem.W.Frag) (CLine : Addr) : TSp := tSeqP (tSetP 2 (tConP (.str ("abcdefghijklmnopqrstuvwxyz" : Str)))) (tSeqP (tSetP 3 (tLstP (tConsP (tConP (.str ("book" : Str))) (tConsP (tConP (.str ("cancel" : Str))) (tConsP (tConP (.str ("exchange" : Str))) (tConsP (tConP (.str ("shift" : Str))) (tConsP (tConP (.str ("seats" : Str))) (tConsP (tConP (.str ("undo" : Str))) (tConsP (tConP (.str ("show" : Str))) (tConsP (tConP (.str ("line" : Str))) (tConsP (tConP (.str ("count" : Str))) (tConsP (tConP (.str ("number" : Str))) (tConsP (tConP (.str ("load" : Str))) (tConsP (tConP (.str ("trip" : Str))) (tNilP))))))))))))))) (tSeqP (tSetP 3 (tOpP rAdd (tVarP 3) (tLstP (tConsP (tConP (.str ("none" : Str))) (tConsP (tConP (.str ("cut" : Str))) (tConsP (tConP (.str ("overfull" : Str))) (tConsP (tConP (.str ("a" : Str))) (tConsP (tConP (.str ("b" : Str))) (tConsP (tConP (.str ("x" : Str))) (tConsP (tConP (.str ("plan" : Str))) (tConsP (tConP (.str ("route" : Str))) (tConsP (tConP (.str ("fixed" : Str))) (tConsP (tConP (.str ("full" : Str))) (tConsP (tConP (.str ("goal" : Str))) (tConsP (tConP (.str ("name" : Str))) (tNilP)))))))))))))))) (tSeqP (tAsgP (tTupP (tConsP (tCallRP 0 (sp_law_draw K CLine) (tConsP (tConP (.int 3)) (tNilP))) (tConsP (tCallRP 0 (sp_law_draw K CLine) (tConsP (tConP (.int 24)) (tNilP))) (tNilP)))) (gTupP 2 (gConsP (gNameP 4) (gConsP (gNameP 5) (gNilP))))) (tSeqP (tIfSP (tBlP (tOpP (rEqP false) (tVarP 4) (tConP (.int 0)))) (tRetP (tValP (tLcP (iRng1P (tVarP 1)) (gNameP 8) (tYesP) (tOpP rIxP (tVarP 3) (tOpP rMod (tOpP rAdd (tVarP 5) (tOpP rMulA (tConP (.int 5)) (tVarP 8))) (tConP (.int 24)))) [8]))) (tNextP)) (tSeqP (tIfSP (tBlP (tOpP (rEqP false) (tVarP 4) (tConP (.int 1)))) (tRetP (tValP (tLcP (iRng1P (tVarP 1)) (gNameP 8) (tYesP) (tOpP rMulA (tOpP rIxP (tVarP 2) (tOpP rMod (tOpP rAdd (tVarP 5) (tOpP rMulA (tConP (.int 7)) (tVarP 8))) (tConP (.int 26)))) (tOpP rAdd (tConP (.int 1)) (tOpP rMod (tVarP 8) (tConP (.int 8))))) [8]))) (tNextP)) (tSeqP (tSetP 6 (tJoinP (tConP (.str ("" : Str))) (tValP (tLcP (iRng1P (tCallRP 0 (sp_law_draw K CLine) (tConsP (tConP (.int 8)) (tNilP)))) (gNameP 8) (tYesP) (tOpP rIxP (tVarP 2) (tCallRP 0 (sp_law_draw K CLine) (tConsP (tConP (.int 26)) (tNilP)))) [8])))) (tSeqP (tSetP 7 (tCallRP 0 (sp_law_draw K CLine) (tConsP (tOpP rAdd (tCBP rLen (tConsP (tVarP 6) (tNilP))) (tConP (.int 1))) (tNilP)))) (tRetP (tValP (tLcP (iRng1P (tVarP 1)) (gNameP 8) (tYesP) (tOpP rAdd (tOpP rAdd (tSliceP (tVarP 6) (tNoPartP) (tPartP (tVarP 7))) (tOpP rIxP (tVarP 2) (tOpP rMod (tOpP rAdd (tVarP 5) (tOpP rMulA (tConP (.int 5)) (tVarP 8))) (tConP (.int 26))))) (tSliceP (tVarP 6) (tPartP (tVarP 7)) (tNoPartP))) [8]))))))))))
def ts_law_far (K : PySem.W.Frag) (CLine : Addr) : TSp := tSeqP (tParP [2, 3, 4] (tConsF (tLstFP (tNilP)) (tConsV (tCallRP 0 (sp_law_draw K CLine) (tConsP (tConP (.int 3)) (tNilP))) (tConsV (tCallRP 0 (sp_law_draw K CLine) (tConsP (tConP (.int 3)) (tNilP))) (tNilAr))))) (tSeqP (tForP (iRng1P (tOpP rAdd (tVarP 1) (tConP (.int 1)))) (gNameP 5) (tSeqP (tAppP 2 (tIfP (tBlP (tOpP rGt (tVarP 4) (tConP (.int 0)))) (tVarP 5) (tVarP 3))) (tSetP 3 (tOpP rAdd (tOpP rAdd (tVarP 3) (tConP (.int 1))) (tOpP rIxP (tLstP (tConsP (tConP (.int 0)) (tConsP (tCallRP 0 (sp_law_draw K CLine) (tConsP (tConP (.int 9)) (tNilP))) (tConsP (tOpP rPow (tConP (.int 10)) (tConP (.int 29))) (tNilP))))) (tCallRP 0 (sp_law_draw K CLine) (tConsP (tConP (.int 3)) (tNilP)))))))) (tRetP (tVarP 2)))
def ts_law_rides (K : PySem.W.Frag) (CLine : Addr) : TSp := tSeqP (tParP [3, 4, 5] (tConsV (tCallRP 0 (sp_law_far K CLine) (tConsP (tVarP 2) (tNilP))) (tConsF (tLstFP (tNilP)) (tConsV (tConP (.int 0)) (tNilAr))))) (tSeqP (tForP (iListP (tVarP 1)) (gNameP 6) (tSeqP (tSetP 7 (tCallRP 0 (sp_law_draw K CLine) (tConsP (tConP (.int 4)) (tNilP)))) (tSeqP (tSetP 8 (tIfP (tAndP (tBlP (tOpP (rEqP false) (tVarP 7) (tConP (.int 0)))) (tBlP (tOpP rLt (tVarP 5) (tVarP 2)))) (tVarP 5) (tCallRP 0 (sp_law_draw K CLine) (tConsP (tVarP 2) (tNilP))))) (tSeqP (tSetP 5 (tOpP rAdd (tOpP rAdd (tVarP 8) (tConP (.int 1))) (tCallRP 0 (sp_law_draw K CLine) (tConsP (tIfP (tBlP (tOpP rGt (tOpP rSub (tVarP 2) (tVarP 8)) (tConP (.int 1)))) (tOpP rIxP (tLstP (tConsP (tConP (.int 1)) (tConsP (tConP (.int 2)) (tConsP (tOpP rSub (tVarP 2) (tVarP 8)) (tConsP (tOpP rSub (tVarP 2) (tVarP 8)) (tNilP)))))) (tVarP 7)) (tConP (.int 1))) (tNilP))))) (tSeqP (tSetP 5 (tCBP rMin2 (tConsP (tVarP 5) (tConsP (tVarP 2) (tNilP))))) (tAppP 4 (tTupP (tConsP (tVarP 6) (tConsP (tOpP rIxP (tVarP 3) (tVarP 8)) (tConsP (tOpP rIxP (tVarP 3) (tVarP 5)) (tNilP))))))))))) (tRetP (tCBP rTuple (tConsP (tCBP rSortD (tConsP (tVarP 4) (tNilP))) (tNilP)))))
section
variable {K : PySem.W.Frag} {C : Addr} {args : List PV} {P : PV → Prop} {PR : PV → Ow → Prop} {PF : List PV → Prop} {o : Ow}
theorem len_is_integer (h : sp_is_integer K C args P) : args.length = 1 := by
 unfold sp_is_integer at h
 first | (obtain ⟨_, rfl, _⟩ := h; rfl) | (obtain ⟨_, _, rfl, _⟩ := h; rfl)
theorem len_is_station (h : sp_is_station K C args P) : args.length = 1 := by
 unfold sp_is_station at h
 first | (obtain ⟨_, rfl, _⟩ := h; rfl) | (obtain ⟨_, _, rfl, _⟩ := h; rfl)
theorem len_is_later (h : sp_is_later K C args P) : args.length = 2 := by
 unfold sp_is_later at h
 first | (obtain ⟨_, rfl, _⟩ := h; rfl) | (obtain ⟨_, _, rfl, _⟩ := h; rfl)
theorem len_is_trip_name (h : sp_is_trip_name K C args P) : args.length = 1 := by
 unfold sp_is_trip_name at h
 first | (obtain ⟨_, rfl, _⟩ := h; rfl) | (obtain ⟨_, _, rfl, _⟩ := h; rfl)
theorem len_Line_trips (h : sp_Line_trips K C args P) : args.length = 1 := by
 unfold sp_Line_trips at h
 first | (obtain ⟨_, rfl, _⟩ := h; rfl) | (obtain ⟨_, _, rfl, _⟩ := h; rfl)
theorem len_law_cell (h : sp_law_cell K C args P) : args.length = 2 := by
 unfold sp_law_cell at h
 first | (obtain ⟨_, rfl, _⟩ := h; rfl) | (obtain ⟨_, _, rfl, _⟩ := h; rfl)
theorem len_law_pool (h : sp_law_pool K C args PF) : args.length = 1 := by
 unfold sp_law_pool at h
 first | (obtain ⟨_, rfl, _⟩ := h; rfl) | (obtain ⟨_, _, rfl, _⟩ := h; rfl)
theorem len_law_draw (h : sp_law_draw K C o args PR) : args.length = 1 := by
 unfold sp_law_draw at h
 first | (obtain ⟨_, _, rfl, _⟩ := h; rfl) | (obtain ⟨_, _, _, rfl, _⟩ := h; rfl)
theorem len_law_words (h : sp_law_words K C o args PR) : args.length = 1 := by
 unfold sp_law_words at h
 first | (obtain ⟨_, _, rfl, _⟩ := h; rfl) | (obtain ⟨_, _, _, rfl, _⟩ := h; rfl)
theorem len_law_far (h : sp_law_far K C o args PR) : args.length = 1 := by
 unfold sp_law_far at h
 first | (obtain ⟨_, _, rfl, _⟩ := h; rfl) | (obtain ⟨_, _, _, rfl, _⟩ := h; rfl)
theorem len_law_rides (h : sp_law_rides K C o args PR) : args.length = 2 := by
 unfold sp_law_rides at h
 first | (obtain ⟨_, _, rfl, _⟩ := h; rfl) | (obtain ⟨_, _, _, rfl, _⟩ := h; rfl)
theorem rIsI_ty {x : PV} {n : String} {Q : PV → Prop} : rIsI K [x, .raw (.ty n)] Q = (match tyN x with
  | some t => ∃ b, kitB t n = some b ∧ Q (.bl b)
  | none => match x with
   | .ins C _ => ClsT K C ∧ n ∈ ["int", "bool", "str", "tuple", "list", "dict"] ∧ Q (.bl false)
   | _ => False) := rfl
theorem isi_ty {x : PV} {n : String} {Q : PV → Prop} (h : Kn K x) (hn : n ∈ ["int", "bool", "str", "tuple", "list", "dict"]) (q : ∀ b, (∀ t, tyN x = some t → kitB t n = some b) → (tyN x = none → b = false) → Q (.bl b)) : rIsI K [x, .raw (.ty n)] Q := by
 rw [rIsI_ty]
 split
 ·rename_i t e
  have : ∃ b, kitB t n = some b := by
   have ht : t ∈ ["NoneType", "int", "bool", "str", "tuple", "list", "dict"] := by cases x <;> simp [tyN] at e <;> subst e <;> decide
   simp only [List.mem_cons, List.not_mem_nil, or_false] at hn ht
   rcases hn with rfl | rfl | rfl | rfl | rfl | rfl <;> rcases ht with rfl | rfl | rfl | rfl | rfl | rfl | rfl <;> first | exact ⟨true, by decide +kernel⟩ | exact ⟨false, by decide +kernel⟩
  obtain ⟨b, hb⟩ := this
  exact ⟨b, hb, q b (fun t' z => by cases e.symm.trans z; exact hb) fun z => by rw [z] at e; cases e⟩
 ·rename_i e
  rcases h with h | ⟨D, fs, rfl, cl⟩
  ·rw [e] at h; cases h
  ·exact ⟨cl, hn, q false (fun t z => nomatch z) fun _ => rfl⟩
theorem isi_is {x : PV} {n : String} {f : PV → Bool} {Q : PV → Prop} (h : Kn K x) (hn : n ∈ ["int", "bool", "str", "tuple", "list", "dict"]) (hf : ∀ x t, tyN x = some t → kitB t n = some (f x)) (h0 : ∀ x, tyN x = none → f x = false) (q : Q (.bl (f x))) : rIsI K [x, .raw (.ty n)] Q := by
 refine isi_ty h hn fun b h1 h2 => ?_
 cases e : tyN x with
 | some t =>
  have := (h1 t e).symm.trans (hf x t e)
  cases this
  exact q
 | none => rw [h2 e, ← h0 x e]; exact q
def isIb : PV → Bool
 | .int _ => true
 | .bl _ => true
 | _ => false
def isBl : PV → Bool
 | .bl _ => true
 | _ => false
def isSt : PV → Bool
 | .str _ => true
 | _ => false
def isTu : PV → Bool
 | .tup _ => true
 | _ => false
theorem isi_int {x : PV} {Q : PV → Prop} (h : Kn K x) (q : Q (.bl (isIb x))) : rIsI K [x, .raw (.ty "int")] Q :=
 isi_is h (by decide) (fun x t e => by cases x <;> simp [tyN] at e <;> subst e <;> first | (show kitB _ _ = some true; decide +kernel) | (show kitB _ _ = some false; decide +kernel)) (fun x e => by cases x <;> simp [tyN] at e <;> rfl) q
theorem isi_bool {x : PV} {Q : PV → Prop} (h : Kn K x) (q : Q (.bl (isBl x))) : rIsI K [x, .raw (.ty "bool")] Q :=
 isi_is h (by decide) (fun x t e => by cases x <;> simp [tyN] at e <;> subst e <;> first | (show kitB _ _ = some true; decide +kernel) | (show kitB _ _ = some false; decide +kernel)) (fun x e => by cases x <;> simp [tyN] at e <;> rfl) q
theorem isi_str {x : PV} {Q : PV → Prop} (h : Kn K x) (q : Q (.bl (isSt x))) : rIsI K [x, .raw (.ty "str")] Q :=
 isi_is h (by decide) (fun x t e => by cases x <;> simp [tyN] at e <;> subst e <;> first | (show kitB _ _ = some true; decide +kernel) | (show kitB _ _ = some false; decide +kernel)) (fun x e => by cases x <;> simp [tyN] at e <;> rfl) q
theorem isi_tuple {x : PV} {Q : PV → Prop} (h : Kn K x) (q : Q (.bl (isTu x))) : rIsI K [x, .raw (.ty "tuple")] Q :=
 isi_is h (by decide) (fun x t e => by cases x <;> simp [tyN] at e <;> subst e <;> first | (show kitB _ _ = some true; decide +kernel) | (show kitB _ _ = some false; decide +kernel)) (fun x e => by cases x <;> simp [tyN] at e <;> rfl) q
theorem rd_is_integer (h : sp_is_integer K C args P) : ts_is_integer K C { nx := fun _ => P .non, rt := fun x _ => P x } (startP 1 args) := by
 obtain ⟨x, rfl, hk, hp⟩ := h
 have e : startP 1 [x] = [.va x] := rfl
 simp only [ts_is_integer, e, tLcP, tForP, iStrP, iListP, iTupP, iRng1P, iRng2P, iEnumP, wipeP, tAppP, tJoinP, tSeqP, tRetP, tRetNP, tIfSP, tNextP, tNevP, tSetP, tSetFP, tDropP, tAsgP, gNameP, gNilP, gConsP, gTupP, tAndVP, tNotVP, tOrVP, tCBP, tConsP, tNilP, tVarP, tConP, tBlP, tOrP, tAndP, tNotP, tOpP, tChainP, tCallP, tCallFP, tTupP, tLstP, tLstFP, tValP, tIfP, tNegP, tSliceP, tNoPartP, tPartP, tSeqFP, tYesP, frz, List.getElem?_cons_zero, List.getElem?_cons_succ, List.set_cons_zero, List.set_cons_succ, List.append_nil, List.length_cons, List.length_nil, Nat.zero_add]
 refine isi_int hk ?_
 cases x <;> first | exact isi_bool hk hp | exact hp
theorem rd_is_station (h : sp_is_station K C args P) : ts_is_station K C { nx := fun _ => P .non, rt := fun x _ => P x } (startP 1 args) := by
 obtain ⟨x, rfl, hk, hp⟩ := h
 have e : startP 1 [x] = [.va x] := rfl
 simp only [ts_is_station, e, tLcP, tForP, iStrP, iListP, iTupP, iRng1P, iRng2P, iEnumP, wipeP, tAppP, tJoinP, tSeqP, tRetP, tRetNP, tIfSP, tNextP, tNevP, tSetP, tSetFP, tDropP, tAsgP, gNameP, gNilP, gConsP, gTupP, tAndVP, tNotVP, tOrVP, tCBP, tConsP, tNilP, tVarP, tConP, tBlP, tOrP, tAndP, tNotP, tOpP, tChainP, tCallP, tCallFP, tTupP, tLstP, tLstFP, tValP, tIfP, tNegP, tSliceP, tNoPartP, tPartP, tSeqFP, tYesP, frz, List.getElem?_cons_zero, List.getElem?_cons_succ, List.set_cons_zero, List.set_cons_succ, List.append_nil, List.length_cons, List.length_nil, Nat.zero_add]
 refine ⟨x, rfl, hk, ?_⟩
 cases x <;> exact hp
theorem rd_is_later (h : sp_is_later K C args P) : ts_is_later K C { nx := fun _ => P .non, rt := fun x _ => P x } (startP 2 args) := by
 obtain ⟨x, s, rfl, hk, hp⟩ := h
 have e : startP 2 [x, .int s] = [.va x, .va (.int s)] := rfl
 simp only [ts_is_later, e, tLcP, tForP, iStrP, iListP, iTupP, iRng1P, iRng2P, iEnumP, wipeP, tAppP, tJoinP, tSeqP, tRetP, tRetNP, tIfSP, tNextP, tNevP, tSetP, tSetFP, tDropP, tAsgP, gNameP, gNilP, gConsP, gTupP, tAndVP, tNotVP, tOrVP, tCBP, tConsP, tNilP, tVarP, tConP, tBlP, tOrP, tAndP, tNotP, tOpP, tChainP, tCallP, tCallFP, tTupP, tLstP, tLstFP, tValP, tIfP, tNegP, tSliceP, tNoPartP, tPartP, tSeqFP, tYesP, frz, List.getElem?_cons_zero, List.getElem?_cons_succ, List.set_cons_zero, List.set_cons_succ, List.append_nil, List.length_cons, List.length_nil, Nat.zero_add]
 refine ⟨x, rfl, hk, ?_⟩
 cases x <;> exact hp
theorem blsOf_map {α : Type} (f : α → Bool) : ∀ xs : List α, blsOf (xs.map fun c => PV.bl (f c)) = some (xs.map f)
 | [] => rfl
 | x :: xs => by rw [List.map_cons, blsOf, blsOf_map f xs]; rfl
theorem rd_is_trip_name (h : sp_is_trip_name K C args P) : ts_is_trip_name K C { nx := fun _ => P .non, rt := fun x _ => P x } (startP 2 args) := by
 obtain ⟨x, rfl, hk, hz, hp⟩ := h
 have e : startP 2 [x] = [.va x, .no] := rfl
 simp only [ts_is_trip_name, e, tLcP, tForP, iStrP, iListP, iTupP, iRng1P, iRng2P, iEnumP, wipeP, tAppP, tJoinP, tSeqP, tRetP, tRetNP, tIfSP, tNextP, tNevP, tSetP, tSetFP, tDropP, tAsgP, gNameP, gNilP, gConsP, gTupP, tAndVP, tNotVP, tOrVP, tCBP, tConsP, tNilP, tVarP, tConP, tBlP, tOrP, tAndP, tNotP, tOpP, tChainP, tCallP, tCallFP, tTupP, tLstP, tLstFP, tValP, tIfP, tNegP, tSliceP, tNoPartP, tPartP, tSeqFP, tYesP, frz, List.getElem?_cons_zero, List.getElem?_cons_succ, List.set_cons_zero, List.set_cons_succ, List.append_nil, List.length_cons, List.length_nil, Nat.zero_add]
 refine isi_str hk ?_
 cases x <;> try exact hp
 rename_i z
 have hz := hz z rfl
 simp only [isSt, rLe, rLen, rAllP, Bool.not_true, Bool.false_eq_true, if_false, tLcP, tForP, iStrP, iListP, iTupP, iRng1P, iRng2P, iEnumP, wipeP, tAppP, tJoinP, tSeqP, tRetP, tRetNP, tIfSP, tNextP, tNevP, tSetP, tSetFP, tDropP, tAsgP, gNameP, gNilP, gConsP, gTupP, tAndVP, tNotVP, tOrVP, tCBP, tConsP, tNilP, tVarP, tConP, tBlP, tOrP, tAndP, tNotP, tOpP, tChainP, tCallP, tCallFP, tTupP, tLstP, tLstFP, tValP, tIfP, tNegP, tSliceP, tNoPartP, tPartP, tSeqFP, tYesP, frz, List.getElem?_cons_zero, List.getElem?_cons_succ, List.set_cons_zero, List.set_cons_succ, List.append_nil, List.length_cons, List.length_nil, Nat.zero_add]
 refine ⟨hz, _, rfl, ?_⟩
 by_cases h1 : (1 : Int) ≤ z.length
 ·rw [decide_eq_true h1]
  by_cases h2 : (z.length : Int) ≤ 8
  ·simp only [decide_eq_true h2, if_true, Bool.not_true, Bool.false_eq_true, if_false, tLcP, tForP, iStrP, iListP, iTupP, iRng1P, iRng2P, iEnumP, wipeP, tAppP, tJoinP, tSeqP, tRetP, tRetNP, tIfSP, tNextP, tNevP, tSetP, tSetFP, tDropP, tAsgP, gNameP, gNilP, gConsP, gTupP, tAndVP, tNotVP, tOrVP, tCBP, tConsP, tNilP, tVarP, tConP, tBlP, tOrP, tAndP, tNotP, tOpP, tChainP, tCallP, tCallFP, tTupP, tLstP, tLstFP, tValP, tIfP, tNegP, tSliceP, tNoPartP, tPartP, tSeqFP, tYesP, frz, List.getElem?_cons_zero, List.getElem?_cons_succ, List.set_cons_zero, List.set_cons_succ, List.append_nil, List.length_cons, List.length_nil, Nat.zero_add]
   refine ⟨fun i acc η => acc = (z.cps.toList.take i).map (fun c => .bl (decide (c ∈ abc.cps.toList))) ∧ η = [.va (.str z), .no], ⟨rfl, rfl⟩, ?_, ?_⟩
   ·rintro i y acc η hi ⟨rfl, rfl⟩
    rw [List.getElem?_map] at hi
    cases q : z.cps.toList[i]? with
    | none => rw [q] at hi; cases hi
    | some c =>
     rw [q] at hi; cases hi
     have hil : i < z.cps.toList.length := (List.getElem?_eq_some_iff.mp q).1
     simp only [rInS, if_true, tLcP, tForP, iStrP, iListP, iTupP, iRng1P, iRng2P, iEnumP, wipeP, tAppP, tJoinP, tSeqP, tRetP, tRetNP, tIfSP, tNextP, tNevP, tSetP, tSetFP, tDropP, tAsgP, gNameP, gNilP, gConsP, gTupP, tAndVP, tNotVP, tOrVP, tCBP, tConsP, tNilP, tVarP, tConP, tBlP, tOrP, tAndP, tNotP, tOpP, tChainP, tCallP, tCallFP, tTupP, tLstP, tLstFP, tValP, tIfP, tNegP, tSliceP, tNoPartP, tPartP, tSeqFP, tYesP, frz, List.getElem?_cons_zero, List.getElem?_cons_succ, List.set_cons_zero, List.set_cons_succ, List.append_nil, List.length_cons, List.length_nil, Nat.zero_add]
     refine ⟨c, rfl, ?_, ?_, trivial⟩
     ·rw [List.length_map, List.length_take]
      have : sizeLine > 100 := by decide
      have : z.length = z.cps.toList.length := by simp [Str.length]
      omega
     ·simp only [Bool.false_eq_true, if_false]
      rw [List.take_succ, q]
      simp [abc]
   ·rintro acc η ⟨rfl, rfl⟩
    rw [List.length_map, List.take_length]
    refine ⟨_, blsOf_map _ _, ?_⟩
    have : (isNm (.str z)) = ((z.cps.toList.map fun c => decide (c ∈ abc.cps.toList)).all id) := by
     have h1' : 1 ≤ z.length := by omega
     have h2' : z.length ≤ 8 := by omega
     simp [isNm, h1', h2']
    rw [← this]
    exact hp
  ·simp only [decide_eq_false h2, if_true, Bool.not_false]
   have : isNm (.str z) = false := by
    have h2' : ¬ z.length ≤ 8 := by omega
    simp [isNm, h2']
   rw [this] at hp
   exact hp
 ·simp only [decide_eq_false h1, Bool.false_eq_true, if_false, if_true, Bool.not_false]
  have : isNm (.str z) = false := by
   have h2' : ¬ 1 ≤ z.length := by omega
   simp only [isNm, decide_eq_false h2', Bool.false_and]
  rw [this] at hp
  exact hp
theorem Kn.i {i : Int} : Kn K (.int i) := .inl rfl
theorem Kn.s {i : Str} : Kn K (.str i) := .inl rfl
theorem Kn.t {xs : List PV} : Kn K (.tup xs) := .inl rfl
theorem rd_Line_trips (h : sp_Line_trips K C args P) : ts_Line_trips K C { nx := fun _ => P .non, rt := fun x _ => P x } (startP 1 args) := by
 obtain ⟨n, rs, rfl, hp⟩ := h
 exact ⟨rfl, _, rfl, hp⟩
end
section
variable {K : PySem.W.Frag} {P : PV → Prop} {i j : Int} {x y : PV} {xs ys : List PV} {a b : Str} {η : EP'} {Q : PV → EP' → Prop} {R : EP' → Prop} {n : Nat}
theorem q_add (h : P (.int (i + j))) : rAdd (.int i) (.int j) P := h
theorem q_addS (l : a.length + b.length ≤ sizeLine) (h : P (.str (a ++ b))) : rAdd (.str a) (.str b) P := ⟨l, h⟩
theorem q_addL (l : xs.length + ys.length ≤ sizeLine) (h : P (.lst (xs ++ ys))) : rAdd (.lst xs) (.lst ys) P := ⟨l, h⟩
theorem q_sub (h : P (.int (i - j))) : rSub (.int i) (.int j) P := h
theorem q_mul (c : CMul i j) (h : P (.int (i * j))) : rMulA (.int i) (.int j) P := .inl ⟨c, h⟩
theorem q_mulS (h1 : 1 ≤ j) (h2 : j ≤ 1000) (l : a.length ≤ 1000) (h : P (.str (strRep a j.toNat))) : rMulA (.str a) (.int j) P := .inr ⟨h1, h2, l, h⟩
theorem q_div (c : CDiv i j) (h : P (.int (i / j))) : rDiv (.int i) (.int j) P := ⟨c, h⟩
theorem q_mod (c : 0 < j) (h : P (.int (i % j))) : rMod (.int i) (.int j) P := ⟨c, h⟩
theorem q_pow (c : CPow i j) (h : P (.int (i ^ j.toNat))) : rPow (.int i) (.int j) P := ⟨c, h⟩
theorem q_lt (h : P (.bl (decide (i < j)))) : rLt (.int i) (.int j) P := h
theorem q_gt (h : P (.bl (decide (j < i)))) : rGt (.int i) (.int j) P := h
theorem q_ge (h : P (.bl (decide (j ≤ i)))) : rGe (.int i) (.int j) P := h
theorem q_le (h : P (.bl (decide (i ≤ j)))) : rLe (.int i) (.int j) P := h
theorem q_leS (h : P (.bl (!decide (b.cps.toList < a.cps.toList)))) : rLe (.str a) (.str b) P := h
theorem beq_int : (i == j) = decide (i = j) := by by_cases h : i = j <;> simp [h]
theorem q_eq (h : P (.bl (decide (i = j)))) : rEqP false (.int i) (.int j) P := ⟨.int i, .int j, rfl, rfl, rfl, rfl, by
 have e : PyData.eqv (.int i) (.int j) = decide (i = j) := by rw [show PyData.eqv (.int i) (.int j) = (i == j) by simp [PyData.eqv]]; exact beq_int
 simpa [e] using h⟩
theorem q_inS {c : Nat} (h : P (.bl (decide (c ∈ b.cps.toList)))) : rInS false (.str ⟨#[c]⟩) (.str b) P := ⟨c, rfl, by simpa using h⟩
theorem q_lenS (l : a.length ≤ sizeLine) (h : P (.int a.length)) : rLen [.str a] P := ⟨l, h⟩
theorem q_len (h : P (.int xs.length)) : rLen [.lst xs] P := h
theorem q_lenT (h : P (.int xs.length)) : rLen [.tup xs] P := h
theorem q_lenC {ns : List Int} (h : P (.int ns.length)) : rLen [.scr ns] P := h
theorem q_ix (e : atI xs i = some x) (h : P x) : rIxP (.lst xs) (.int i) P := ⟨x, e, h⟩
theorem q_ixT (e : atI xs i = some x) (h : P x) : rIxP (.tup xs) (.int i) P := ⟨x, e, h⟩
theorem q_ixC {ns : List Int} (e : atI ns i = some j) (h : P (.int j)) : rIxP (.scr ns) (.int i) P := ⟨j, e, h⟩
theorem q_ixS {c : Nat} (l : a.length ≤ sizeLine) (e : atI a.cps.toList i = some c) (h : P (.str ⟨#[c]⟩)) : rIxP (.str a) (.int i) P := ⟨l, c, e, h⟩
theorem q_max (h : P (.int (if j > i then j else i))) : rMax2 [.int i, .int j] P := h
theorem q_min (h : P (.int (if j < i then j else i))) : rMin2 [.int i, .int j] P := h
theorem q_abs (h : P (.int (if i < 0 then -i else i))) : rAbs [.int i] P := h
theorem q_all {bs : List Bool} (e : blsOf xs = some bs) (h : P (.bl (bs.all id))) : rAllP [.lst xs] P := ⟨bs, e, h⟩
theorem q_ite {p : Prop} [Decidable p] {A B : Prop} (h1 : p → A) (h2 : ¬ p → B) : if decide p = true then A else B := by
 by_cases h : p
 ·rw [if_pos (decide_eq_true h)]; exact h1 h
 ·rw [if_neg (by simp [h])]; exact h2 h
theorem q_iteT {A B : Prop} (h : A) : if true = true then A else B := h
theorem q_iteF {A B : Prop} (h : B) : if false = true then A else B := h
theorem q_it {A B : Prop} [Decidable True] (h : A) : if True then A else B := by rw [if_pos trivial]; exact h
theorem q_ixO {s : Nat} (e : η[s]? = some (.ow (.l xs))) (e1 : atI xs i = some x) (h : Q x η) : tIxOP s (fun η P => P (.int i) η) η Q := by
 refine ⟨⟨_, e⟩, ?_⟩
 show (match η[s]? with
 | some (.ow (.l xs)) => ∃ kk v, PV.int i = .int kk ∧ atI xs kk = some v ∧ Q v η
 | _ => False)
 rw [e]
 exact ⟨i, x, rfl, e1, h⟩
theorem q_setO {s : Nat} (e : η[s]? = some (.ow (.l xs))) (e1 : ixN xs.length i = some n) (h : R (η.set s (.ow (.l (xs.set n x))))) : gSubP s (fun η P => P (.int i) η) x η R := by
 refine ⟨⟨_, e⟩, ?_⟩
 show (match η[s]? with
 | some (.ow (.l xs)) => ∃ kk j, PV.int i = .int kk ∧ ixN xs.length kk = some j ∧ R (η.set s (.ow (.l (xs.set j x))))
 | _ => False)
 rw [e]
 exact ⟨i, n, rfl, e1, h⟩
theorem q_draw {s : Nat} {o : Ow} {C : Addr} {m : Int} {ta : TAp} (e : η[s]? = some (.ow o)) (ha : ta = fun η P => P [.int m] η) (hp : Pool o) (h0 : 0 < m) (h1 : m < 10 ^ 40) (h : ∀ o' (k : Int), Pool o' → 0 ≤ k → k < m → Q (.int k) (η.set s (.ow o'))) : tCallRP s (sp_law_draw K C) ta η Q := by
 subst ha
 refine ⟨⟨_, e⟩, ?_⟩
 show (match η[s]? with
 | some (.ow o) => sp_law_draw K C o [.int m] fun z o' => Q z (η.set s (.ow o'))
 | _ => False)
 rw [e]
 exact ⟨m, hp, rfl, h0, h1, fun o' k p a b => h o' k p a b⟩
variable {D : EndsP} {t u : TSp} {te ta tb : TEp} {tx : TAp} {tf : TFp} {s : Nat} {o : Ow} {r : R2p} {r1 : R1p} {tc td : TTp} {QA : List PV → EP' → Prop} {QB : Bool → EP' → Prop} {g : TGp} {ti : TIp}
theorem w_seq (h : t { D with nx := fun η' => u D η' } η) : tSeqP t u D η := h
theorem w_set (h : te η fun x η1 => D.nx (η1.set s (.va x))) : tSetP s te D η := h
theorem w_if (h : tc η fun b η1 => if b = true then t D η1 else u D η1) : tIfSP tc t u D η := h
theorem w_ret (h : te η D.rt) : tRetP te D η := h
theorem w_next (h : D.nx η) : tNextP D η := h
theorem w_asg (h : te η fun x η1 => g x η1 D.nx) : tAsgP te g D η := h
theorem w_con (h : Q x η) : tConP x η Q := h
theorem w_var (e : η[s]? = some (.va x)) (h : Q x η) : tVarP s η Q := by unfold tVarP; rw [e]; exact h
theorem w_varO (e : η[s]? = some (.ow o)) (h : Q (frz o) (η.set s (.va (frz o)))) : tVarP s η Q := by unfold tVarP; rw [e]; exact h
theorem w_op (h : ta η fun x η1 => tb η1 fun y η2 => r x y fun z => Q z η2) : tOpP r ta tb η Q := h
theorem w_cb (h : tx η fun xs η1 => r1 xs fun z => Q z η1) : tCBP r1 tx η Q := h
theorem w_nil (h : QA [] η) : tNilP η QA := h
theorem w_cons (h : te η fun x η1 => tx η1 fun xs η2 => QA (x :: xs) η2) : tConsP te tx η QA := h
theorem w_tup (h : tx η fun xs η1 => xs.length ≤ sizeLine ∧ Q (.tup xs) η1) : tTupP tx η Q := h
theorem w_lst (h : tx η fun xs η1 => xs.length ≤ sizeLine ∧ Q (.lst xs) η1) : tLstP tx η Q := h
theorem w_lstF (h : tx η fun xs η1 => xs.length ≤ sizeLine ∧ QA xs η1) : tLstFP tx η QA := h
theorem w_val (h : tf η fun xs η1 => Q (.lst xs) η1) : tValP tf η Q := h
theorem w_bl (h : te η fun x η1 => match x with | .bl b => QB b η1 | _ => False) : tBlP te η QB := h
theorem w_or (h : tc η fun c η1 => if c = true then QB true η1 else td η1 QB) : tOrP tc td η QB := h
theorem w_and (h : tc η fun c η1 => if c = true then td η1 QB else QB false η1) : tAndP tc td η QB := h
theorem w_not (h : tc η fun c η1 => QB (!c) η1) : tNotP tc η QB := h
theorem w_ife (h : tc η fun c η1 => if c = true then ta η1 Q else tb η1 Q) : tIfP tc ta tb η Q := h
theorem w_call {sp : SpP} {dps : List PV} (h : tx η fun args η1 => sp (args ++ dps) fun z => Q z η1) : tCallP sp dps tx η Q := h
theorem w_lc {tt : TTp} {vs : List Nat} (h : ti η fun xs η1 => ∃ Inv : Nat → List PV → EP' → Prop, Inv 0 [] (wipeP η1 vs) ∧
 (∀ i x acc η2, xs[i]? = some x → Inv i acc η2 → g x (wipeP η2 vs) fun η3 => tt η3 fun b η4 => if b = true then te η4 fun y η5 => acc.length < sizeLine ∧ Inv (i + 1) (acc ++ [y]) (wipeP η5 vs) else Inv (i + 1) acc (wipeP η4 vs)) ∧
 (∀ acc η2, Inv xs.length acc η2 → QA acc η2)) : tLcP ti g tt te vs η QA := h
theorem w_for (h : ti η fun xs η1 => ∃ Inv : Nat → EP' → Prop, Inv 0 η1 ∧
 (∀ i x η2, xs[i]? = some x → Inv i η2 → g x η2 fun η3 => t { D with nx := Inv (i + 1), ct := Inv (i + 1), bk := D.nx } η3) ∧ (∀ η2, Inv xs.length η2 → D.nx η2)) : tForP ti g t D η := h
theorem w_rng1 (h : te η fun x η1 => match x with
 | .int j => -(2 ^ 62) ≤ j ∧ j < 2 ^ 62 ∧ QA (rangeP 0 j.toNat) η1
 | _ => False) : iRng1P te η QA := h
theorem rangeP_get {lo : Int} {n i : Nat} {x : PV} (h : (rangeP lo n)[i]? = some x) : i < n ∧ x = .int (lo + i) := by
 unfold rangeP at h
 rw [List.getElem?_map] at h
 by_cases hi : i < n
 ·rw [List.getElem?_range hi] at h
  cases h
  exact ⟨hi, rfl⟩
 ·rw [List.getElem?_eq_none (by simpa using hi)] at h; cases h
theorem rangeP_len {lo : Int} {n : Nat} : (rangeP lo n).length = n := by simp [rangeP]
theorem sz1 {a : PV} : [a].length ≤ sizeLine := by show 1 ≤ sizeLine; decide
theorem sz2 {a b : PV} : [a, b].length ≤ sizeLine := by show 2 ≤ sizeLine; decide
theorem sz3 {a b c : PV} : [a, b, c].length ≤ sizeLine := by show 3 ≤ sizeLine; decide
theorem w_gname {R : EP' → Prop} {x : PV} {η : EP'} {s : Nat} (h : R (η.set s (.va x))) : gNameP s x η R := h
theorem w_yes {QB : Bool → EP' → Prop} {η : EP'} (h : QB true η) : tYesP η QB := h
theorem w_join {ta tb : TEp} {η : EP'} {Q : PV → EP' → Prop} (h : ta η fun x η1 => (∃ z, x = .str z) ∧ tb η1 fun y η2 => match x, y with
 | .str z, .lst xs => ∃ ys, strsOf xs = some ys ∧ (ys.map (·.length)).sum + ys.length * z.length ≤ 16777216 ∧ Q (.str (Txt.join z ys)) η2
 | _, _ => False) : tJoinP ta tb η Q := h
theorem w_slice {te : TEp} {tl th : TOp} {η : EP'} {Q : PV → EP' → Prop} (h : te η fun x η1 => tl η1 fun l η2 => th η2 fun u η3 => rSlP x l u fun z => Q z η3) : tSliceP te tl th η Q := h
theorem w_nop {η : EP'} {P : Option Int → EP' → Prop} (h : P none η) : tNoPartP η P := h
theorem w_part {te : TEp} {η : EP'} {P : Option Int → EP' → Prop} (h : te η fun x η1 => match x with
 | .int i => P (some i) η1
 | _ => False) : tPartP te η P := h
theorem q_slS {z : Str} {lo hi : Option Int} {P : PV → Prop} (l : z.length ≤ sizeLine) (h : P (.str (cutS z lo hi))) : rSlP (.str z) lo hi P := ⟨l, h⟩
theorem q_slL {xs : List PV} {lo hi : Option Int} {P : PV → Prop} (h : P (.lst (cutP xs lo hi))) : rSlP (.lst xs) lo hi P := h
def callM (s : Nat) (sr : SpR) (args : List PV) (η : EP') (Q : PV → EP' → Prop) : Prop := match η[s]? with
 | some (.ow o) => sr o args fun z o' => Q z (η.set s (.ow o'))
 | _ => False
theorem w_callR {s : Nat} {sr : SpR} {tx : TAp} {η : EP'} {Q : PV → EP' → Prop} {o : Ow} (e : η[s]? = some (.ow o)) (h : tx η fun args η1 => callM s sr args η1 Q) : tCallRP s sr tx η Q := ⟨⟨o, e⟩, h⟩
theorem q_callM {s : Nat} {sr : SpR} {args : List PV} {η : EP'} {Q : PV → EP' → Prop} {o : Ow} (e : η[s]? = some (.ow o)) (h : sr o args fun z o' => Q z (η.set s (.ow o'))) : callM s sr args η Q := by unfold callM; rw [e]; exact h
def tStrs : List Str → TAp
 | [] => tNilP
 | w :: ws => tConsP (tConP (.str w)) (tStrs ws)
theorem w_strs {QA : List PV → EP' → Prop} {η : EP'} : ∀ {ws : List Str}, QA (ws.map .str) η → tStrs ws η QA
 | [], h => h
 | w :: ws, h => w_strs (ws := ws) (QA := fun xs η2 => QA (.str w :: xs) η2) h
end
section
variable {K : PySem.W.Frag} {C : Addr} {args : List PV} {P : PV → Prop} {PR : PV → Ow → Prop} {PF : List PV → Prop} {o : Ow}
theorem cmul_l {i j : Int} (h : 0 ≤ i) (h' : i < 1000000007) : CMul i j := .inl ⟨by omega, by omega⟩
theorem mod_lo {i : Int} : 0 ≤ i % 1000000007 := Int.emod_nonneg _ (by decide)
theorem mod_hi {i : Int} : i % 1000000007 < 1000000007 := Int.emod_lt_of_pos _ (by decide)
theorem rd_law_draw (h : sp_law_draw K C o args PR) : ts_law_draw K C { nx := fun η' => ∃ o', η'[0]? = some (Sl.ow o') ∧ PR .non o', rt := fun x η' => ∃ o', η'[0]? = some (Sl.ow o') ∧ PR x o' } (startR 4 o args) := by
 obtain ⟨m, ⟨s, d, c, rfl, h1, h2, h3⟩, rfl, m1, m2, hp⟩ := h
 have e : startR 4 (.l [.int s, .int d, .int c]) [.int m] = [.ow (.l [.int s, .int d, .int c]), .va (.int m), .no, .no] := rfl
 simp only [ts_law_draw, e, tLcP, tForP, iStrP, iListP, iTupP, iRng1P, iRng2P, iEnumP, wipeP, tAppP, tJoinP, tSeqP, tRetP, tRetNP, tIfSP, tNextP, tNevP, tSetP, tSetFP, tDropP, tAsgP, gNameP, gNilP, gConsP, gTupP, tAndVP, tNotVP, tOrVP, tCBP, tConsP, tNilP, tVarP, tConP, tBlP, tOrP, tAndP, tNotP, tOpP, tChainP, tCallP, tCallFP, tTupP, tLstP, tLstFP, tValP, tIfP, tNegP, tSliceP, tNoPartP, tPartP, tSeqFP, tYesP, frz, List.getElem?_cons_zero, List.getElem?_cons_succ, List.set_cons_zero, List.set_cons_succ, List.append_nil, List.length_cons, List.length_nil, Nat.zero_add]
 refine q_ixO rfl rfl (q_add (q_setO rfl rfl (q_ixO rfl rfl (q_mod (by decide) (q_add (q_mul (cmul_l h1 h2) ?_))))))
 refine q_ixO rfl rfl (q_mul (.inl ⟨by decide, by decide⟩) (q_add (q_add (q_mod (by decide) (q_setO rfl rfl ?_)))))
 refine q_ixO rfl rfl (q_gt (q_ite (fun hd => ?_) fun hd => ?_))
 ·refine q_ixO rfl rfl (q_divmodW (cdivW m1 m2) ⟨rfl, q_setO rfl rfl ⟨rfl, _, rfl, ?_⟩⟩)
  exact hp _ _ ⟨_, _, _, rfl, mod_lo, mod_hi, Int.ediv_nonneg h3 (by omega)⟩ (Int.emod_nonneg _ (by omega)) (Int.emod_lt_of_pos _ m1)
 ·refine q_ixO rfl rfl ?_
  refine q_div ⟨by decide, by decide⟩ ?_
  refine q_mod m1 ⟨_, rfl, ?_⟩
  exact hp _ _ ⟨_, _, _, rfl, mod_lo, mod_hi, h3⟩ (Int.emod_nonneg _ (by omega)) (Int.emod_lt_of_pos _ m1)
theorem rd_law_pool (h : sp_law_pool K C args PF) : ts_law_pool K C (startP 2 args) (fun xs _ => PF xs) := by
 obtain ⟨c, rfl, hp⟩ := h
 have e : startP 2 [.int c] = [.va (.int c), .no] := rfl
 simp only [ts_law_pool, e, tLcP, tForP, iStrP, iListP, iTupP, iRng1P, iRng2P, iEnumP, wipeP, tAppP, tJoinP, tSeqP, tRetP, tRetNP, tIfSP, tNextP, tNevP, tSetP, tSetFP, tDropP, tAsgP, gNameP, gNilP, gConsP, gTupP, tAndVP, tNotVP, tOrVP, tCBP, tConsP, tNilP, tVarP, tConP, tBlP, tOrP, tAndP, tNotP, tOpP, tChainP, tCallP, tCallFP, tTupP, tLstP, tLstFP, tValP, tIfP, tNegP, tSliceP, tNoPartP, tPartP, tSeqFP, tYesP, frz, List.getElem?_cons_zero, List.getElem?_cons_succ, List.set_cons_zero, List.set_cons_succ, List.append_nil, List.length_cons, List.length_nil, Nat.zero_add]
 have hz : 10 ≤ sizeLine := by decide
 have key : ∀ d : Int, 0 ≤ d → PF [.int (c % 1000000007), .int d, .int 0] := fun d hd => hp _ _ mod_lo mod_hi hd
 refine q_lt (q_ite (fun hc => ?_) fun hc => ?_)
 ·refine q_it ?_
  refine q_abs ?_
  refine q_mod (by decide) ?_
  exact ⟨by omega, key _ (by split <;> omega)⟩
 ·refine q_pow ⟨by decide, by decide, by decide⟩ ?_
  refine q_ge (q_ite (fun hd => ?_) fun hd => ?_)
  ·refine q_abs ?_
   refine q_mod (by decide) ?_
   exact ⟨by omega, key _ (by split <;> omega)⟩
  ·refine q_mod (by decide) ?_
   exact ⟨by omega, key 0 (by decide)⟩
theorem atI_in {α : Type} {xs : List α} {k : Int} (h0 : 0 ≤ k) (h1 : k < xs.length) : ∃ v, atI xs k = some v ∧ xs[k.toNat]? = some v := by
 have h : k.toNat < xs.length := by omega
 refine ⟨xs[k.toNat], ?_, by simp [h]⟩
 have := atI_nat (xs := xs) (j := k.toNat) (v := xs[k.toNat]) (by simp [h])
 rwa [Int.toNat_of_nonneg h0] at this
theorem rd_law_cell (h : sp_law_cell K C args P) : ts_law_cell K C { nx := fun _ => P .non, rt := fun x _ => P x } (startP 4 args) := by
 obtain ⟨ns, k, rfl, hk, hk', hp⟩ := h
 have e : startP 4 [.scr ns, .int k] = [.va (.scr ns), .va (.int k), .no, .no] := rfl
 simp only [ts_law_cell, e, tLcP, tForP, iStrP, iListP, iTupP, iRng1P, iRng2P, iEnumP, wipeP, tAppP, tJoinP, tSeqP, tRetP, tRetNP, tIfSP, tNextP, tNevP, tSetP, tSetFP, tDropP, tAsgP, gNameP, gNilP, gConsP, gTupP, tAndVP, tNotVP, tOrVP, tCBP, tConsP, tNilP, tVarP, tConP, tBlP, tOrP, tAndP, tNotP, tOpP, tChainP, tCallP, tCallFP, tTupP, tLstP, tLstFP, tValP, tIfP, tNegP, tSliceP, tNoPartP, tPartP, tSeqFP, tYesP, frz, List.getElem?_cons_zero, List.getElem?_cons_succ, List.set_cons_zero, List.set_cons_succ, List.append_nil, List.length_cons, List.length_nil, Nat.zero_add]
 refine q_lenC (q_lt (q_ite (fun h1 => ?_) fun h1 => ?_))
 ·obtain ⟨v, hv, _⟩ := atI_in (xs := ns) hk h1
  exact q_ixC hv (hp v)
 ·refine q_mul (.inr ⟨by omega, by omega⟩) ?_
  refine q_mul (.inr ⟨by omega, by omega⟩) ?_
  refine q_add ?_
  refine q_add ?_
  refine q_mul (.inl ⟨by decide, by decide⟩) ?_
  refine q_mod (by decide) ?_
  refine ⟨fun i η => ∃ (c : Int) (t : Sl), η = [.va (.scr ns), .va (.int k), .va (.int c), t] ∧ 0 ≤ c ∧ c < 1000000007, ⟨_, _, rfl, mod_lo, mod_hi⟩, ?_, ?_⟩
  ·rintro i x η hi ⟨c, t, rfl, c1, c2⟩
   rw [List.getElem?_map] at hi
   cases q : (cutP ns none (some 3))[i]? with
   | none => rw [q] at hi; cases hi
   | some z =>
    rw [q] at hi; cases hi
    refine q_mul (cmul_l c1 c2) ?_
    refine q_add ?_
    refine q_mod (by decide) ?_
    exact ⟨_, _, rfl, mod_lo, mod_hi⟩
  ·rintro η ⟨c, t, rfl, _, _⟩
   exact hp c
def menu1 : List Str := [("book" : Str), ("cancel" : Str), ("exchange" : Str), ("shift" : Str), ("seats" : Str), ("undo" : Str), ("show" : Str), ("line" : Str), ("count" : Str), ("number" : Str), ("load" : Str), ("trip" : Str)]
def menu2 : List Str := [("none" : Str), ("cut" : Str), ("overfull" : Str), ("a" : Str), ("b" : Str), ("x" : Str), ("plan" : Str), ("route" : Str), ("fixed" : Str), ("full" : Str), ("goal" : Str), ("name" : Str)]
def menuL : List Str := menu1 ++ menu2
theorem at_map {α : Type} {f : α → PV} {xs : List α} {j : Int} (d : α) (h0 : 0 ≤ j) (h1 : j < xs.length) : atI (xs.map f) j = some (f (xs.getD j.toNat d)) := by
 have h : j.toNat < xs.length := by omega
 have e : (xs.map f)[j.toNat]? = some (f (xs.getD j.toNat d)) := by
  rw [List.getElem?_map, List.getElem?_eq_getElem h, List.getD_eq_getElem?_getD, List.getElem?_eq_getElem h]; rfl
 have := atI_nat e
 rwa [Int.toNat_of_nonneg h0] at this
theorem at_get {α : Type} {xs : List α} {j : Int} (d : α) (h0 : 0 ≤ j) (h1 : j < xs.length) : atI xs j = some (xs.getD j.toNat d) := by
 have h : j.toNat < xs.length := by omega
 have e : xs[j.toNat]? = some (xs.getD j.toNat d) := by
  rw [List.getElem?_eq_getElem h, List.getD_eq_getElem?_getD, List.getElem?_eq_getElem h]; rfl
 have := atI_nat e
 rwa [Int.toNat_of_nonneg h0] at this
def W0 (b n : Nat) : List Str := (List.range n).map fun k => menuL.getD ((b + 5 * k) % 24) Str.empty
def W1 (b n : Nat) : List Str := (List.range n).map fun k => strRep ⟨#[abc.cps.toList.getD ((b + 7 * k) % 26) 0]⟩ (1 + k % 8)
theorem Nms.take {ws : List Str} (n : Nat) (h : Nms ws) : Nms (ws.take n) := ⟨fun w hw => h.1 w (List.mem_of_mem_take hw), h.2.sublist (List.take_sublist n ws)⟩
theorem W0_nms : ∀ b < 24, Nms (W0 b 24) := by
 have : ∀ b < 24, ((W0 b 24).all fun w => isNm (.str w)) = true ∧ (W0 b 24).Nodup := by decide +kernel
 exact fun b hb => ⟨fun w hw => List.all_eq_true.mp (this b hb).1 w hw, (this b hb).2⟩
theorem W1_nms : ∀ b < 24, Nms (W1 b 24) := by
 have : ∀ b < 24, ((W1 b 24).all fun w => isNm (.str w)) = true ∧ (W1 b 24).Nodup := by decide +kernel
 exact fun b hb => ⟨fun w hw => List.all_eq_true.mp (this b hb).1 w hw, (this b hb).2⟩
theorem map_take {α : Type} {f : Nat → α} {n m : Nat} (h : n ≤ m) : (List.range n).map f = ((List.range m).map f).take n := by
 rw [← List.map_take, List.take_range, Nat.min_eq_left h]
theorem W0_n {b n : Nat} (hb : b < 24) (hn : n ≤ 24) : Nms (W0 b n) := by
 unfold W0; rw [map_take hn]; exact (W0_nms b hb).take n
theorem W1_n {b n : Nat} (hb : b < 24) (hn : n ≤ 24) : Nms (W1 b n) := by
 unfold W1; rw [map_take hn]; exact (W1_nms b hb).take n
theorem joinL_nil : ∀ ps : List (List Nat), TL.joinL [] ps = ps.flatten
 | [] => rfl
 | [p] => by simp [TL.joinL]
 | p :: q :: r => by
  show p ++ ([] ++ TL.joinL [] (q :: r)) = _
  rw [joinL_nil (q :: r)]; simp
theorem flat_ones : ∀ cs : List Nat, (cs.map fun c => [c]).flatten = cs
 | [] => rfl
 | c :: cs => by rw [List.map_cons, List.flatten_cons, flat_ones cs]; rfl
theorem join_ones (cs : List Nat) : Txt.join Str.empty (cs.map fun c => (⟨#[c]⟩ : Str)) = ⟨cs.toArray⟩ := by
 have h : TL.tl (Txt.join Str.empty (cs.map fun c => (⟨#[c]⟩ : Str))) = cs := by
  rw [TL.join_eq, TL.tl_join, show TL.tl Str.empty = [] from rfl, joinL_nil, List.map_map]
  exact flat_ones cs
 have : ∀ a : Str, a = ⟨(TL.tl a).toArray⟩ := fun a => by cases a; simp
 rw [this (Txt.join _ _), h]
theorem strsOf_map {α : Type} (f : α → Str) : ∀ cs : List α, strsOf (cs.map fun c => PV.str (f c)) = some (cs.map f)
 | [] => rfl
 | c :: cs => by rw [List.map_cons, strsOf, strsOf_map f cs]; rfl
def W2 (st : List Nat) (p b n : Nat) : List Str := (List.range n).map fun k => ⟨(st.take p ++ (abc.cps.toList.getD ((b + 5 * k) % 26) 0 :: st.drop p)).toArray⟩
theorem lets_nd : ∀ b < 24, ((List.range 24).map fun k => abc.cps.toList.getD ((b + 5 * k) % 26) 0).Nodup := by decide +kernel
theorem lets_in : ∀ j < 26, abc.cps.toList.getD j 0 ∈ abc.cps.toList := by decide +kernel
theorem W2_n {st : List Nat} {p b n : Nat} (hs : ∀ c ∈ st, c ∈ abc.cps.toList) (hl : st.length ≤ 7) (hb : b < 24) (hn : n ≤ 24) : Nms (W2 st p b n) := by
 refine ⟨fun w hw => ?_, ?_⟩
 ·unfold W2 at hw
  obtain ⟨k, hk, rfl⟩ := List.mem_map.mp hw
  have e : (st.take p).length + (st.drop p).length = st.length := by rw [← List.length_append, List.take_append_drop]
  have e1 : (⟨(st.take p ++ (abc.cps.toList.getD ((b + 5 * k) % 26) 0 :: st.drop p)).toArray⟩ : Str).length = st.length + 1 := by
   show ((st.take p ++ (abc.cps.toList.getD ((b + 5 * k) % 26) 0 :: st.drop p)).toArray).size = _
   rw [List.size_toArray, List.length_append, List.length_cons]; omega
  show (decide (1 ≤ _) && (decide (_ ≤ 8) && List.all _ _)) = true
  rw [e1, decide_eq_true (by omega), decide_eq_true (by omega), Bool.true_and, Bool.true_and]
  refine List.all_eq_true.mpr fun c hc => decide_eq_true ?_
  have hc : c ∈ st.take p ++ (abc.cps.toList.getD ((b + 5 * k) % 26) 0 :: st.drop p) := by simpa using hc
  rcases List.mem_append.mp hc with h | h
  ·exact hs c (List.mem_of_mem_take h)
  ·rcases List.mem_cons.mp h with h | h
   ·rw [h]; exact lets_in _ (Nat.mod_lt _ (by decide))
   ·exact hs c (List.mem_of_mem_drop h)
 ·have : (W2 st p b 24).Nodup := by
   have h := lets_nd b hb
   unfold W2
   rw [show (fun k => (⟨(st.take p ++ (abc.cps.toList.getD ((b + 5 * k) % 26) 0 :: st.drop p)).toArray⟩ : Str)) = (fun c : Nat => (⟨(st.take p ++ (c :: st.drop p)).toArray⟩ : Str)) ∘ (fun k => abc.cps.toList.getD ((b + 5 * k) % 26) 0) from rfl, ← List.map_map]
   refine List.Pairwise.map _ (fun c d hcd e => ?_) h
   have e' : st.take p ++ (c :: st.drop p) = st.take p ++ (d :: st.drop p) := by simpa using congrArg (fun s : Str => s.cps.toList) e
   exact hcd (List.cons.inj (List.append_cancel_left e')).1
  unfold W2 at this ⊢
  rw [map_take hn]
  exact this.sublist (List.take_sublist _ _)
theorem rd_law_words (h : sp_law_words K C o args PR) : ts_law_words K C { nx := fun η' => ∃ o', η'[0]? = some (Sl.ow o') ∧ PR .non o', rt := fun x η' => ∃ o', η'[0]? = some (Sl.ow o') ∧ PR x o' } (startR 9 o args) := by
 obtain ⟨m, po, rfl, m0, m1, hp⟩ := h
 have e : startR 9 o [.int m] = [.ow o, .va (.int m), .no, .no, .no, .no, .no, .no, .no] := rfl
 rw [e]
 have z24 : 24 < sizeLine := by decide
 refine w_seq (w_set (w_con ?_))
 dsimp only
 refine w_seq (w_set (w_lst (w_strs (ws := menu1) ⟨by decide, ?_⟩)))
 dsimp only
 refine w_seq (w_set (w_op (w_var rfl (w_lst (w_strs (ws := menu2) ⟨by decide, q_addL (by decide) ?_⟩)))))
 dsimp only
 rw [← List.map_append]
 refine w_seq (w_asg (w_tup (w_cons (q_draw rfl rfl po (by decide) (by decide) fun o1 wy p1 wy0 wy1 => ?_))))
 refine w_cons (q_draw rfl rfl p1 (by decide) (by decide) fun o2 b p2 b0 b1 => ?_)
 refine w_nil ⟨sz2, rfl, rfl, ?_⟩
 obtain ⟨b, rfl⟩ := Int.eq_ofNat_of_zero_le b0
 have hb : b < 24 := by omega
 simp only [List.set_cons_zero, List.set_cons_succ]
 refine w_seq (w_if (w_bl (w_op (w_var rfl (w_con (q_eq ?_))))))
 simp only [List.set_cons_zero, List.set_cons_succ]
 refine q_ite (fun hw => ?_) fun hw => ?_
 ·refine w_ret (w_val (w_lc (w_rng1 (w_var rfl ⟨by omega, by omega, ?_⟩))))
  refine ⟨fun i acc η => acc = (W0 b i).map .str ∧ η = [.ow o2, .va (.int m), .va (.str abc), .va (.lst (menuL.map .str)), .va (.int wy), .va (.int b), .no, .no, .no], ⟨rfl, rfl⟩, ?_, ?_⟩
  ·rintro i x acc η hi ⟨rfl, rfl⟩
   obtain ⟨hn, rfl⟩ := rangeP_get hi
   have hz : ((W0 b i).map PV.str).length < sizeLine := by simp [W0]; omega
   refine w_gname (w_yes (q_iteT ?_))
   refine w_op (w_var rfl (w_op (w_op (w_var rfl (w_op (w_con (w_var rfl (q_mul (.inl ⟨by decide, by decide⟩) (q_add (w_con (q_mod (by decide) ?_)))))))))))
   have ej : ((b : Int) + 5 * (0 + (i : Int))) % 24 = (((b + 5 * i) % 24 : Nat) : Int) := by omega
   refine q_ix (x := .str (menuL.getD ((b + 5 * i) % 24) Str.empty)) ?_ ⟨hz, ?_, rfl⟩
   ·rw [ej]
    exact at_map Str.empty (by omega) (by show _ < ((24 : Nat) : Int); omega)
   ·unfold W0; rw [List.range_succ, List.map_append, List.map_append]; rfl
  ·rintro acc η ⟨rfl, rfl⟩
   rw [rangeP_len]
   exact ⟨o2, rfl, hp o2 _ p2 (by simp [W0]) (W0_n hb (by omega))⟩
 refine w_next ?_
 simp only [List.set_cons_zero, List.set_cons_succ]
 refine w_seq (w_if (w_bl (w_op (w_var rfl (w_con (q_eq ?_))))))
 simp only [List.set_cons_zero, List.set_cons_succ]
 refine q_ite (fun hw => ?_) fun hw => ?_
 ·refine w_ret (w_val (w_lc (w_rng1 (w_var rfl ⟨by omega, by omega, ?_⟩))))
  refine ⟨fun i acc η => acc = (W1 b i).map .str ∧ η = [.ow o2, .va (.int m), .va (.str abc), .va (.lst (menuL.map .str)), .va (.int wy), .va (.int b), .no, .no, .no], ⟨rfl, rfl⟩, ?_, ?_⟩
  ·rintro i x acc η hi ⟨rfl, rfl⟩
   obtain ⟨hn, rfl⟩ := rangeP_get hi
   have hz : ((W1 b i).map PV.str).length < sizeLine := by simp [W1]; omega
   refine w_gname (w_yes (q_iteT ?_))
   refine w_op (w_op (w_var rfl (w_op (w_op (w_var rfl (w_op (w_con (w_var rfl (q_mul (.inl ⟨by decide, by decide⟩) (q_add (w_con (q_mod (by decide) ?_))))))))))))
   have ej : ((b : Int) + 7 * (0 + (i : Int))) % 26 = (((b + 7 * i) % 26 : Nat) : Int) := by omega
   refine q_ixS (by decide) (by rw [ej]; exact at_get 0 (by omega) (by show _ < ((26 : Nat) : Int); omega)) ?_
   refine w_op (w_con (w_op (w_var rfl (w_con (q_mod (by decide) (q_add ?_))))))
   refine q_mulS (by omega) (by omega) (by show 1 ≤ 1000; decide) ⟨hz, ?_, rfl⟩
   have e8 : ((1 : Int) + (0 + (i : Int)) % 8).toNat = 1 + i % 8 := by omega
   have e7 : (((b + 7 * i) % 26 : Nat) : Int).toNat = (b + 7 * i) % 26 := by omega
   unfold W1; rw [List.range_succ, List.map_append, List.map_append, e8, e7]; rfl
  ·rintro acc η ⟨rfl, rfl⟩
   rw [rangeP_len]
   exact ⟨o2, rfl, hp o2 _ p2 (by simp [W1]) (W1_n hb (by omega))⟩
 refine w_next ?_
 simp only [List.set_cons_zero, List.set_cons_succ]
 refine w_seq (w_set (w_join (w_con ⟨⟨_, rfl⟩, w_val (w_lc (w_rng1 (q_draw rfl rfl p2 (by decide) (by decide) fun o3 l p3 l0 l1 => ?_)))⟩)))
 refine ⟨by omega, by omega, ?_⟩
 refine ⟨fun i acc η => ∃ cs : List Nat, acc = cs.map (fun c => .str ⟨#[c]⟩) ∧ cs.length = i ∧ (∀ c ∈ cs, c ∈ abc.cps.toList) ∧ ∃ o', Pool o' ∧ η = [.ow o', .va (.int m), .va (.str abc), .va (.lst (menuL.map .str)), .va (.int wy), .va (.int b), .no, .no, .no], ⟨[], rfl, rfl, fun _ h => (by cases h), o3, p3, rfl⟩, ?_, ?_⟩
 ·rintro i x acc η hi ⟨cs, rfl, hcl, hcs, o', p', rfl⟩
  obtain ⟨hn, rfl⟩ := rangeP_get hi
  refine w_gname (w_yes (q_iteT ?_))
  refine w_op (w_var rfl (q_draw rfl rfl p' (by decide) (by decide) fun o'' j p'' j0 j1 => ?_))
  refine q_ixS (by decide) (at_get 0 j0 (by show _ < ((26 : Nat) : Int); omega)) ⟨by rw [List.length_map]; omega, ?_⟩
  refine ⟨cs ++ [abc.cps.toList.getD j.toNat 0], by rw [List.map_append]; rfl, by simp [hcl], fun c hc => ?_, o'', p'', rfl⟩
  rcases List.mem_append.mp hc with h | h
  ·exact hcs c h
  ·rw [List.mem_singleton.mp h]; exact lets_in _ (by omega)
 rintro acc η ⟨cs, rfl, hcl, hcs, o4, p4, rfl⟩
 rw [rangeP_len] at hcl
 refine ⟨cs.map fun c => ⟨#[c]⟩, strsOf_map _ cs, ?_, ?_⟩
 ·have : ((cs.map fun c => (⟨#[c]⟩ : Str)).map (·.length)).sum = cs.length := by
   rw [List.map_map]
   have : ∀ cs : List Nat, (cs.map ((·.length) ∘ fun c => (⟨#[c]⟩ : Str))).sum = cs.length := fun cs => by
    induction cs with
    | nil => rfl
    | cons c cs ih => rw [List.map_cons, List.sum_cons, ih, List.length_cons]; show 1 + _ = _; omega
   exact this cs
  rw [this, show (Str.ofString "").length = 0 from rfl]
  omega
 rw [show (Str.ofString "" : Str) = Str.empty from rfl, join_ones]
 simp only [List.set_cons_zero, List.set_cons_succ]
 have hst : (⟨cs.toArray⟩ : Str).length = cs.length := by show cs.toArray.size = _; simp
 refine w_seq (w_set (w_callR rfl (w_cons (w_op (w_cb (w_cons (w_var rfl (w_nil (q_lenS (by rw [hst]; omega) (w_con (q_add (w_nil (q_callM rfl ?_)))))))))))))
 refine ⟨_, p4, rfl, by omega, by rw [hst]; omega, fun o5 pI p5 pi0 pi1 => ?_⟩
 rw [hst] at pi1
 obtain ⟨p, rfl⟩ := Int.eq_ofNat_of_zero_le pi0
 have hpl : p ≤ cs.length := by omega
 simp only [List.set_cons_zero, List.set_cons_succ]
 refine w_ret (w_val (w_lc (w_rng1 (w_var rfl ⟨by omega, by omega, ?_⟩))))
 refine ⟨fun i acc η => acc = (W2 cs p b i).map .str ∧ η = [.ow o5, .va (.int m), .va (.str abc), .va (.lst (menuL.map .str)), .va (.int wy), .va (.int b), .va (.str ⟨cs.toArray⟩), .va (.int p), .no], ⟨rfl, rfl⟩, ?_, ?_⟩
 ·rintro i x acc η hi ⟨rfl, rfl⟩
  obtain ⟨hn, rfl⟩ := rangeP_get hi
  have hz : ((W2 cs p b i).map PV.str).length < sizeLine := by simp [W2]; omega
  have ej : ((b : Int) + 5 * (0 + (i : Int))) % 26 = (((b + 5 * i) % 26 : Nat) : Int) := by omega
  have hs8 : 100 < sizeLine := by decide
  refine w_gname (w_yes (q_iteT ?_))
  refine w_op (w_op (w_slice (w_var rfl (w_nop (w_part (w_var rfl (q_slS (by rw [hst]; omega) ?_)))))))
  refine w_op (w_var rfl (w_op (w_op (w_var rfl (w_op (w_con (w_var rfl (q_mul (.inl ⟨by decide, by decide⟩) (q_add (w_con (q_mod (by decide) ?_)))))))))))
  refine q_ixS (by decide) (by rw [ej]; exact at_get 0 (by omega) (by show _ < ((26 : Nat) : Int); omega)) ?_
  have l1 := cutS_length ⟨cs.toArray⟩ none (some (p : Int))
  have l2 := cutS_length ⟨cs.toArray⟩ (some (p : Int)) none
  refine q_addS (by rw [hst] at l1; show _ + 1 ≤ _; omega) ?_
  refine w_slice (w_var rfl (w_part (w_var rfl (w_nop (q_slS (by rw [hst]; omega) ?_)))))
  refine q_addS (by rw [hst] at l1 l2; rw [Str.length_append]; show _ + 1 + _ ≤ _; omega) ⟨hz, ?_, rfl⟩
  unfold W2
  rw [List.range_succ, List.map_append, List.map_append]
  have e7 : (((b + 5 * i) % 26 : Nat) : Int).toNat = (b + 5 * i) % 26 := by omega
  have ec1 : cutS ⟨cs.toArray⟩ none (some (p : Int)) = ⟨(cs.take p).toArray⟩ := by
   unfold cutS
   rw [HT.sIx_nat, HT.sIx_none, hst, Nat.min_eq_left hpl]; simp
  have ec2 : cutS ⟨cs.toArray⟩ (some (p : Int)) none = ⟨(cs.drop p).toArray⟩ := by
   unfold cutS
   rw [HT.sIx_nat, HT.sIx_none, hst, Nat.min_eq_left hpl, List.take_of_length_le (by simp)]
  rw [ec1, ec2, e7]
  have : (⟨(cs.take p).toArray⟩ : Str) ++ (⟨#[abc.cps.toList.getD ((b + 5 * i) % 26) 0]⟩ : Str) ++ (⟨(cs.drop p).toArray⟩ : Str) = ⟨(cs.take p ++ (abc.cps.toList.getD ((b + 5 * i) % 26) 0 :: cs.drop p)).toArray⟩ := by
   show (⟨_ ++ _ ++ _⟩ : Str) = _
   congr 1
   simp
  rw [this]; rfl
 ·rintro acc η ⟨rfl, rfl⟩
  rw [rangeP_len]
  exact ⟨o5, rfl, hp o5 _ p5 (by simp [W2]) (W2_n hcs (by omega) hb (by omega))⟩
theorem w_par {is : List Nat} {tr : TArp} {D : EndsP} {η : EP'} (h : tr η fun ars η1 => ars.length = is.length ∧ okIx η1.length is ars ∧ D.nx (storesP is ars η1)) : tParP is tr D η := h
theorem w_arF {tf : TFp} {tr : TArp} {η : EP'} {Q : List Ar → EP' → Prop} (h : tf η fun xs η1 => tr η1 fun ars η2 => Q (.f xs :: ars) η2) : tConsF tf tr η Q := h
theorem w_arV {te : TEp} {tr : TArp} {η : EP'} {Q : List Ar → EP' → Prop} (h : te η fun x η1 => tr η1 fun ars η2 => Q (.v x :: ars) η2) : tConsV te tr η Q := h
theorem w_arN {η : EP'} {Q : List Ar → EP' → Prop} (h : Q [] η) : tNilAr η Q := h
def appM (s : Nat) (x : PV) (η : EP') (R : EP' → Prop) : Prop := match η[s]? with
 | some (.ow (.l xs)) => xs.length < sizeLine ∧ R (η.set s (.ow (.l (xs ++ [x]))))
 | _ => False
theorem w_app {s : Nat} {te : TEp} {D : EndsP} {η : EP'} {xs : List PV} (e : η[s]? = some (.ow (.l xs))) (h : te η fun x η1 => appM s x η1 D.nx) : tAppP s te D η := ⟨⟨xs, e⟩, h⟩
theorem q_appM {s : Nat} {x : PV} {η : EP'} {R : EP' → Prop} {xs : List PV} (e : η[s]? = some (.ow (.l xs))) (l : xs.length < sizeLine) (h : R (η.set s (.ow (.l (xs ++ [x]))))) : appM s x η R := by unfold appM; rw [e]; exact ⟨l, h⟩
theorem pw_snoc {α : Type} {r : α → α → Prop} {xs : List α} {x : α} (h : xs.Pairwise r) (h' : ∀ y ∈ xs, r y x) : (xs ++ [x]).Pairwise r := List.pairwise_append.mpr ⟨h, List.pairwise_singleton _ _, fun a ha b hb => by rw [List.mem_singleton.mp hb]; exact h' a ha⟩
theorem rd_law_far (h : sp_law_far K C o args PR) : ts_law_far K C { nx := fun η' => ∃ o', η'[0]? = some (Sl.ow o') ∧ PR .non o', rt := fun x η' => ∃ o', η'[0]? = some (Sl.ow o') ∧ PR x o' } (startR 6 o args) := by
 obtain ⟨hh, po, rfl, h0, h30, hp⟩ := h
 have e : startR 6 o [.int hh] = [.ow o, .va (.int hh), .no, .no, .no, .no] := rfl
 rw [e]
 refine w_seq (w_par (w_arF (w_lstF (w_nil ⟨Nat.zero_le _, ?_⟩))))
 refine w_arV (q_draw rfl rfl po (by decide) (by decide) fun o1 he p1 he0 he1 => ?_)
 refine w_arV (q_draw rfl rfl p1 (by decide) (by decide) fun o2 wy p2 wy0 wy1 => ?_)
 refine w_arN ⟨rfl, ⟨by decide, by show 2 < 6; decide, trivial⟩, ?_⟩
 simp only [storesP, List.set_cons_zero, List.set_cons_succ]
 refine w_seq (w_for (w_rng1 (w_op (w_var rfl (w_con (q_add ⟨by omega, by omega, ?_⟩))))))
 refine ⟨fun i η => ∃ (o' : Ow) (xs : List Int) (here : Int) (t : Sl), Pool o' ∧ xs.length = i ∧ η = [.ow o', .va (.int hh), .ow (.l (xs.map .int)), .va (.int here), .va (.int wy), t] ∧ xs.Pairwise (· < ·) ∧ (∀ x ∈ xs, 0 ≤ x ∧ x < 10 ^ 40 ∧ (0 < wy → x < i) ∧ (¬ 0 < wy → x < here)) ∧ 0 ≤ here ∧ here ≤ 3 + i * (2 * 10 ^ 29), ?_, ?_, ?_⟩
 ·exact ⟨o2, [], he, .no, p2, rfl, rfl, .nil, fun _ h => (by cases h), he0, by omega⟩
 ·rintro i x η hi ⟨o', xs, here, t, p', hl, rfl, pw, hx, g0, g1⟩
  obtain ⟨hn, rfl⟩ := rangeP_get hi
  have hz : (xs.map PV.int).length < sizeLine := by have : 100 < sizeLine := (by decide); rw [List.length_map]; omega
  have hi31 : (i : Int) ≤ 30 := by omega
  have key : ∀ x : Int, (if 0 < wy then x = 0 + i else x = here) → ∃ η', (xs ++ [x]).Pairwise (· < ·) ∧ (∀ y ∈ xs ++ [x], 0 ≤ y ∧ y < 10 ^ 40 ∧ (0 < wy → y < ((i + 1 : Nat) : Int)) ∧ (¬ 0 < wy → y < here + 1)) ∧ η' = (0 : Nat) := by
   intro x hxe
   refine ⟨0, pw_snoc pw fun y hy => ?_, fun y hy => ?_, rfl⟩
   ·obtain ⟨a1, a2, a3, a4⟩ := hx y hy
    by_cases hw : 0 < wy
    ·rw [if_pos hw] at hxe; have := a3 hw; omega
    ·rw [if_neg hw] at hxe; have := a4 hw; omega
   ·rcases List.mem_append.mp hy with h | h
    ·obtain ⟨a1, a2, a3, a4⟩ := hx y h
     refine ⟨a1, a2, fun hw => ?_, fun hw => ?_⟩
     ·have := a3 hw; omega
     ·have := a4 hw; omega
    ·rw [List.mem_singleton.mp h]
     by_cases hw : 0 < wy
     ·rw [if_pos hw] at hxe; refine ⟨by omega, by omega, fun _ => by omega, fun q => absurd hw q⟩
     ·rw [if_neg hw] at hxe; refine ⟨by omega, by omega, fun q => absurd q hw, fun _ => by omega⟩
  have rest : ∀ x : Int, (if 0 < wy then x = 0 + i else x = here) → tSetP 3 (tOpP rAdd (tOpP rAdd (tVarP 3) (tConP (.int 1))) (tOpP rIxP (tLstP (tConsP (tConP (.int 0)) (tConsP (tCallRP 0 (sp_law_draw K C) (tConsP (tConP (.int 9)) (tNilP))) (tConsP (tOpP rPow (tConP (.int 10)) (tConP (.int 29))) (tNilP))))) (tCallRP 0 (sp_law_draw K C) (tConsP (tConP (.int 3)) (tNilP)))))
    { nx := fun η => ∃ (o' : Ow) (xs : List Int) (here : Int) (t : Sl), Pool o' ∧ xs.length = i + 1 ∧ η = [.ow o', .va (.int hh), .ow (.l (xs.map .int)), .va (.int here), .va (.int wy), t] ∧ xs.Pairwise (· < ·) ∧ (∀ x ∈ xs, 0 ≤ x ∧ x < 10 ^ 40 ∧ (0 < wy → x < ((i + 1 : Nat) : Int)) ∧ (¬ 0 < wy → x < here)) ∧ 0 ≤ here ∧ here ≤ 3 + ((i + 1 : Nat) : Int) * (2 * 10 ^ 29), rt := fun x η' => ∃ o', η'[0]? = some (Sl.ow o') ∧ PR x o' }
    [.ow o', .va (.int hh), .ow (.l ((xs ++ [x]).map .int)), .va (.int here), .va (.int wy), .va (.int (0 + i))] := by
   intro x hxe
   obtain ⟨_, k1, k2, _⟩ := key x hxe
   refine w_set (w_op (w_op (w_var rfl (w_con (q_add ?_)))))
   refine w_op (w_lst (w_cons (w_con (w_cons (q_draw rfl rfl p' (by decide) (by decide) fun o3 d p3 d0 d1 => ?_)))))
   refine w_cons (w_op (w_con (w_con (q_pow ⟨by decide, by decide, by decide⟩ (w_nil ⟨sz3, ?_⟩)))))
   refine q_draw rfl rfl p3 (by decide) (by decide) fun o4 j p4 j0 j1 => ?_
   have fin : ∀ v : Int, 0 ≤ v → v ≤ 10 ^ 29 → ∃ (o' : Ow) (xs' : List Int) (here' : Int) (t : Sl), Pool o' ∧ xs'.length = i + 1 ∧ [Sl.ow o4, .va (.int hh), .ow (.l ((xs ++ [x]).map .int)), .va (.int (here + 1 + v)), .va (.int wy), .va (.int (0 + i))] = [.ow o', .va (.int hh), .ow (.l (xs'.map .int)), .va (.int here'), .va (.int wy), t] ∧ xs'.Pairwise (· < ·) ∧ (∀ x ∈ xs', 0 ≤ x ∧ x < 10 ^ 40 ∧ (0 < wy → x < ((i + 1 : Nat) : Int)) ∧ (¬ 0 < wy → x < here')) ∧ 0 ≤ here' ∧ here' ≤ 3 + ((i + 1 : Nat) : Int) * (2 * 10 ^ 29) := by
    intro v v0 v1
    refine ⟨o4, xs ++ [x], here + 1 + v, _, p4, by simp [hl], rfl, k1, fun y hy => ?_, by omega, by omega⟩
    obtain ⟨a1, a2, a3, a4⟩ := k2 y hy
    exact ⟨a1, a2, a3, fun q => by have := a4 q; omega⟩
   obtain rfl | rfl | rfl : j = 0 ∨ j = 1 ∨ j = 2 := by omega
   ·exact q_ix (x := .int 0) rfl (q_add (fin 0 (by decide) (by decide)))
   ·exact q_ix (x := .int d) rfl (q_add (fin d d0 (by omega)))
   ·exact q_ix (x := .int (10 ^ 29)) rfl (q_add (fin (10 ^ 29) (by decide) (by decide)))
  refine w_gname ?_
  refine w_seq (w_app (xs := xs.map .int) rfl (w_ife (w_bl (w_op (w_var rfl (w_con (q_gt ?_)))))))
  refine q_ite (fun hw => ?_) fun hw => ?_
  ·refine w_var rfl (q_appM rfl hz ?_)
   have := rest (0 + i) (by rw [if_pos hw])
   rw [List.map_append] at this
   exact this
  ·refine w_var rfl (q_appM rfl hz ?_)
   have := rest here (by rw [if_neg hw])
   rw [List.map_append] at this
   exact this
 ·rintro η ⟨o', xs, here, t, p', hl, rfl, pw, hx, g0, g1⟩
  rw [rangeP_len] at hl
  dsimp only
  refine w_ret ?_
  refine w_varO (o := .l (xs.map .int)) rfl ?_
  exact ⟨o', rfl, hp o' xs p' (by rw [hl]) pw fun x q => ⟨(hx x q).1, (hx x q).2.1⟩⟩
theorem w_varL {xs : List PV} {η : EP'} {s : Nat} {Q : List PV → EP' → Prop} (e : η[s]? = some (.va (.lst xs))) (h : Q xs η) : iListP (tVarP s) η Q := by
 unfold iListP
 exact w_var e h
theorem dlt_rows {a b : Trip} (h : a.1 ≠ b.1) : PySem.W.dataLe false encD (rowP a) (rowP b) = true → a.1.cps.toList < b.1.cps.toList := by
 intro q
 have q' : (!PySem.W.dataLt (.tuple [.str b.1, .int b.2.1, .int b.2.2]) (.tuple [.str a.1, .int a.2.1, .int a.2.2])) = true := q
 rw [PySem.W.dataLt_tuple, PySem.W.dataLt_cons (by simp [PySem.W.alike])] at q'
 have hne : PyData.eqv (.str b.1) (.str a.1) = false := by
  simp only [PyData.eqv]
  exact beq_eq_false_iff_ne.mpr fun z => h z.symm
 rw [hne, if_neg Bool.false_ne_true, PySem.W.dataLt_str] at q'
 have nb : ¬ b.1.cps.toList < a.1.cps.toList := by simpa using q'
 have hl : a.1.cps.toList ≠ b.1.cps.toList := fun z => h (by
  have : a.1.cps = b.1.cps := Array.toList_inj.mp z
  cases ha : a.1; cases hb : b.1; rw [ha, hb] at this; simp at this; rw [this])
 exact Classical.byContradiction fun na => hl (List.le_antisymm (List.not_lt.mp nb) (List.not_lt.mp na))
theorem sort_rows {rows : List Trip} (hn : (rows.map (·.1)).Nodup) : ∃ rs : List Trip, (rows.map rowP).mergeSort (PySem.W.dataLe false encD) = rs.map rowP ∧ rs.Perm rows ∧ rs.Pairwise fun a b => a.1.cps.toList < b.1.cps.toList := by
 have T := PySem.W.sortLe_total (PyProof.Rows.listOrd PyProof.Rows.itemOrd) false fun b : PV => PySem.W.keyToks (encD b)
 refine ⟨rows.mergeSort fun a b => PySem.W.dataLe false encD (rowP a) (rowP b), ?_, List.mergeSort_perm _ _, ?_⟩
 ·exact (List.map_mergeSort (f := rowP) (r := fun a b => PySem.W.dataLe false encD (rowP a) (rowP b)) (s := PySem.W.dataLe false encD) (fun _ _ _ _ => rfl)).symm
 ·have hp := List.mergeSort_perm rows fun a b => PySem.W.dataLe false encD (rowP a) (rowP b)
  have h1 : (rows.mergeSort fun a b => PySem.W.dataLe false encD (rowP a) (rowP b)).Pairwise fun a b => PySem.W.dataLe false encD (rowP a) (rowP b) = true :=
   List.pairwise_mergeSort (le := fun a b => PySem.W.dataLe false encD (rowP a) (rowP b)) (fun a b c p q => T.trans (rowP a) (rowP b) (rowP c) p q) (fun a b => by
    rcases T.total (rowP a) (rowP b) with p | p
    ·exact Bool.or_eq_true_iff.mpr (.inl p)
    ·exact Bool.or_eq_true_iff.mpr (.inr p)) rows
  have h2 : ((rows.mergeSort fun a b => PySem.W.dataLe false encD (rowP a) (rowP b)).map (·.1)).Nodup := (hp.map _).nodup_iff.mpr hn
  have h3 := List.pairwise_map.mp h2
  exact (h1.and h3).imp fun p => dlt_rows p.2 p.1
def rowD (r : Trip) : PyData := .tuple [.str r.1, .int r.2.1, .int r.2.2]
theorem toDs_rows : ∀ rs : List Trip, toDs (rs.map rowP) = some (rs.map rowD)
 | [] => rfl
 | r :: rs => by
  rw [List.map_cons, toDs, toDs_rows rs]
  rfl
theorem alike_rows (rs : List Trip) : PySem.W.AllAlike (rs.map rowD) := fun d hd d' hd' => by
 obtain ⟨a, _, rfl⟩ := List.mem_map.mp hd
 obtain ⟨b, _, rfl⟩ := List.mem_map.mp hd'
 simp [rowD, PySem.W.alike, PySem.W.alikeAll]
theorem q_sort {rows : List Trip} (hn : (rows.map (·.1)).Nodup) (hl : rows.length ≤ 24) (h : ∀ rs : List Trip, rs.Perm rows → (rs.Pairwise fun a b => a.1.cps.toList < b.1.cps.toList) → P (.lst (rs.map rowP))) : rSortD [.lst (rows.map rowP)] P := by
 refine ⟨_, toDs_rows rows, alike_rows rows, .inl fun d hd => ?_, fun x hx => ?_, ?_, ?_⟩
 ·obtain ⟨a, _, rfl⟩ := List.mem_map.mp hd
  exact ⟨_, _, rfl⟩
 ·obtain ⟨a, _, rfl⟩ := List.mem_map.mp hx
  show (PyData.tuple [.str a.1, .int a.2.1, .int a.2.2]).depth ≤ 50
  simp [PyData.depth, PyData.depthAll]
 ·have : 24 ≤ sizeLine := by decide
  rw [List.length_map]; omega
 ·obtain ⟨rs, e, p, s⟩ := sort_rows hn
  rw [e]; exact h rs p s
theorem rd_law_rides (h : sp_law_rides K C o args PR) : ts_law_rides K C { nx := fun η' => ∃ o', η'[0]? = some (Sl.ow o') ∧ PR .non o', rt := fun x η' => ∃ o', η'[0]? = some (Sl.ow o') ∧ PR x o' } (startR 9 o args) := by
 obtain ⟨ws, hh, po, rfl, hw, hwl, h1, h30, hp⟩ := h
 have e : startR 9 o [.lst (ws.map .str), .int hh] = [.ow o, .va (.lst (ws.map .str)), .va (.int hh), .no, .no, .no, .no, .no, .no] := rfl
 rw [e]
 have sz : 100 < sizeLine := by decide
 refine w_seq (w_par (w_arV (w_callR rfl (w_cons (w_var rfl (w_nil (q_callM rfl ⟨hh, po, rfl, by omega, h30, fun o1 ps p1 pl pw pb => ?_⟩)))))))
 refine w_arF (w_lstF (w_nil ⟨Nat.zero_le _, ?_⟩))
 refine w_arV (w_con (w_arN ⟨rfl, ⟨by decide, by show 4 < 9; decide, trivial⟩, ?_⟩))
 simp only [storesP, List.set_cons_zero, List.set_cons_succ]
 refine w_seq (w_for ?_)
 refine w_varL rfl ?_
 refine ⟨fun i η => ∃ (o' : Ow) (rows : List Trip) (last : Int) (a b c : Sl), Pool o' ∧ rows.map (·.1) = ws.take i ∧ η = [.ow o', .va (.lst (ws.map .str)), .va (.int hh), .va (.lst (ps.map .int)), .ow (.l (rows.map rowP)), .va (.int last), a, b, c] ∧ (∀ r ∈ rows, 0 ≤ r.2.1 ∧ r.2.1 < r.2.2 ∧ r.2.2 < 10 ^ 40) ∧ 0 ≤ last ∧ last ≤ hh, ?_, ?_, ?_⟩
 ·exact ⟨o1, [], 0, .no, .no, .no, p1, rfl, rfl, fun _ h => (by cases h), by decide, by omega⟩
 ·rintro i x η hi ⟨o', rows, last, a, b, c, p', hr, rfl, hb, l0, l1⟩
  rw [List.getElem?_map] at hi
  cases q : ws[i]? with
  | none => rw [q] at hi; cases hi
  | some w =>
   rw [q] at hi; cases hi
   have hil : i < ws.length := (List.getElem?_eq_some_iff.mp q).1
   have hrl : rows.length = i := by have := congrArg List.length hr; rw [List.length_map, List.length_take] at this; omega
   refine w_gname ?_
   simp only [List.set_cons_zero, List.set_cons_succ]
   refine w_seq (w_set (q_draw rfl rfl p' (by decide) (by decide) fun o2 wy p2 wy0 wy1 => ?_))
   simp only [List.set_cons_zero, List.set_cons_succ]
   -- behind begin
   have rest : ∀ (o3 : Ow) (bg : Int), Pool o3 → 0 ≤ bg → bg < hh →
    tSeqP (tSetP 5 (tOpP rAdd (tOpP rAdd (tVarP 8) (tConP (.int 1))) (tCallRP 0 (sp_law_draw K C) (tConsP (tIfP (tBlP (tOpP rGt (tOpP rSub (tVarP 2) (tVarP 8)) (tConP (.int 1)))) (tOpP rIxP (tLstP (tConsP (tConP (.int 1)) (tConsP (tConP (.int 2)) (tConsP (tOpP rSub (tVarP 2) (tVarP 8)) (tConsP (tOpP rSub (tVarP 2) (tVarP 8)) (tNilP)))))) (tVarP 7)) (tConP (.int 1))) (tNilP))))) (tSeqP (tSetP 5 (tCBP rMin2 (tConsP (tVarP 5) (tConsP (tVarP 2) (tNilP))))) (tAppP 4 (tTupP (tConsP (tVarP 6) (tConsP (tOpP rIxP (tVarP 3) (tVarP 8)) (tConsP (tOpP rIxP (tVarP 3) (tVarP 5)) (tNilP)))))))
    { nx := fun η => ∃ (o' : Ow) (rows : List Trip) (last : Int) (a b c : Sl), Pool o' ∧ rows.map (·.1) = ws.take (i + 1) ∧ η = [.ow o', .va (.lst (ws.map .str)), .va (.int hh), .va (.lst (ps.map .int)), .ow (.l (rows.map rowP)), .va (.int last), a, b, c] ∧ (∀ r ∈ rows, 0 ≤ r.2.1 ∧ r.2.1 < r.2.2 ∧ r.2.2 < 10 ^ 40) ∧ 0 ≤ last ∧ last ≤ hh, rt := fun x η' => ∃ o', η'[0]? = some (Sl.ow o') ∧ PR x o' }
    [.ow o3, .va (.lst (ws.map .str)), .va (.int hh), .va (.lst (ps.map .int)), .ow (.l (rows.map rowP)), .va (.int last), .va (.str w), .va (.int wy), .va (.int bg)] := by
    intro o3 bg p3 bg0 bg1
    have fin : ∀ (m : Int), 0 < m → m ≤ 100 → callM 0 (sp_law_draw K C) [.int m] [.ow o3, .va (.lst (ws.map .str)), .va (.int hh), .va (.lst (ps.map .int)), .ow (.l (rows.map rowP)), .va (.int last), .va (.str w), .va (.int wy), .va (.int bg)] fun z η2 => rAdd (.int (bg + 1)) z fun z =>
     tSeqP (tSetP 5 (tCBP rMin2 (tConsP (tVarP 5) (tConsP (tVarP 2) (tNilP))))) (tAppP 4 (tTupP (tConsP (tVarP 6) (tConsP (tOpP rIxP (tVarP 3) (tVarP 8)) (tConsP (tOpP rIxP (tVarP 3) (tVarP 5)) (tNilP))))))
      { nx := fun η => ∃ (o' : Ow) (rows : List Trip) (last : Int) (a b c : Sl), Pool o' ∧ rows.map (·.1) = ws.take (i + 1) ∧ η = [.ow o', .va (.lst (ws.map .str)), .va (.int hh), .va (.lst (ps.map .int)), .ow (.l (rows.map rowP)), .va (.int last), a, b, c] ∧ (∀ r ∈ rows, 0 ≤ r.2.1 ∧ r.2.1 < r.2.2 ∧ r.2.2 < 10 ^ 40) ∧ 0 ≤ last ∧ last ≤ hh, rt := fun x η' => ∃ o', η'[0]? = some (Sl.ow o') ∧ PR x o' } (η2.set 5 (.va z)) := by
     intro m m0 m1
     refine q_callM rfl ⟨m, p3, rfl, m0, by omega, fun o4 d p4 d0 d1 => ?_⟩
     refine q_add ?_
     simp only [List.set_cons_zero, List.set_cons_succ]
     refine w_seq (w_set (w_cb (w_cons (w_var rfl (w_cons (w_var rfl (w_nil (q_min ?_))))))))
     simp only [List.set_cons_zero, List.set_cons_succ]
     obtain ⟨nl, hnl, n0, n1⟩ : ∃ nl : Int, (if hh < bg + 1 + d then hh else bg + 1 + d) = nl ∧ bg < nl ∧ nl ≤ hh := ⟨_, rfl, by split <;> omega, by split <;> omega⟩
     rw [hnl]
     refine w_app (xs := rows.map rowP) rfl (w_tup (w_cons (w_var rfl (w_cons (w_op (w_var rfl (w_var rfl ?_)))))))
     have pll : (ps.length : Int) = hh + 1 := by omega
     refine q_ix (at_map 0 bg0 (by omega)) ?_
     refine w_cons (w_op (w_var rfl (w_var rfl ?_)))
     refine q_ix (at_map 0 (by omega) (by omega)) (w_nil ⟨sz3, ?_⟩)
     refine q_appM rfl (by rw [List.length_map]; omega) ?_
     have ib : bg.toNat < ps.length := by omega
     have ie : nl.toNat < ps.length := by omega
     have eb : ps.getD bg.toNat 0 = ps[bg.toNat] := by rw [List.getD_eq_getElem?_getD, List.getElem?_eq_getElem ib]; rfl
     have ee : ps.getD nl.toNat 0 = ps[nl.toNat] := by rw [List.getD_eq_getElem?_getD, List.getElem?_eq_getElem ie]; rfl
     rw [eb, ee]
     refine ⟨o4, rows ++ [(w, ps[bg.toNat], ps[nl.toNat])], nl, .va (.str w), .va (.int wy), .va (.int bg), p4, ?_, ?_, fun r hr => ?_, by omega, n1⟩
     ·rw [List.map_append, hr, List.take_succ, q]; rfl
     ·rw [List.map_append]; rfl
     ·rcases List.mem_append.mp hr with h | h
      ·exact hb r h
      ·rw [List.mem_singleton.mp h]
       refine ⟨(pb _ (List.getElem_mem ib)).1, List.pairwise_iff_getElem.mp pw _ _ ib ie (by omega), (pb _ (List.getElem_mem ie)).2⟩
    refine w_seq (w_set (w_op (w_op (w_var rfl (w_con (q_add ?_))))))
    refine w_callR rfl (w_cons (w_ife (w_bl (w_op (w_op (w_var rfl (w_var rfl (q_sub ?_))))))))
    refine w_con (q_gt (q_ite (fun hg => ?_) fun hg => ?_))
    ·refine w_op (w_lst (w_cons (w_con (w_cons (w_con ?_)))))
     refine w_cons (w_op (w_var rfl (w_var rfl (q_sub ?_))))
     refine w_cons (w_op (w_var rfl (w_var rfl (q_sub (w_nil ⟨?_, ?_⟩)))))
     ·show 4 ≤ sizeLine; omega
     refine w_var rfl ?_
     obtain rfl | rfl | rfl | rfl : wy = 0 ∨ wy = 1 ∨ wy = 2 ∨ wy = 3 := by omega
     ·exact q_ix (x := .int 1) rfl (w_nil (fin 1 (by decide) (by decide)))
     ·exact q_ix (x := .int 2) rfl (w_nil (fin 2 (by decide) (by decide)))
     ·exact q_ix (x := .int (hh - bg)) rfl (w_nil (fin (hh - bg) (by omega) (by omega)))
     ·exact q_ix (x := .int (hh - bg)) rfl (w_nil (fin (hh - bg) (by omega) (by omega)))
    ·exact w_con (w_nil (fin 1 (by decide) (by decide)))
   refine w_seq (w_set (w_ife (w_and (w_bl (w_op (w_var rfl (w_con (q_eq ?_))))))))
   have els : ∀ Q : PV → EP' → Prop, (∀ (o3 : Ow) (bg : Int), Pool o3 → 0 ≤ bg → bg < hh → Q (.int bg) [.ow o3, .va (.lst (ws.map .str)), .va (.int hh), .va (.lst (ps.map .int)), .ow (.l (rows.map rowP)), .va (.int last), .va (.str w), .va (.int wy), c]) → tCallRP 0 (sp_law_draw K C) (tConsP (tVarP 2) (tNilP)) [.ow o2, .va (.lst (ws.map .str)), .va (.int hh), .va (.lst (ps.map .int)), .ow (.l (rows.map rowP)), .va (.int last), .va (.str w), .va (.int wy), c] Q := by
    intro Q k
    exact w_callR rfl (w_cons (w_var rfl (w_nil (q_callM rfl ⟨hh, p2, rfl, by omega, by omega, fun o3 d p3 d0 d1 => k o3 d p3 d0 d1⟩))))
   refine q_ite (fun hwy => ?_) fun hwy => ?_
   ·refine w_bl (w_op (w_var rfl (w_var rfl (q_lt ?_))))
    refine q_ite (fun hlt => ?_) fun hlt => ?_
    ·exact w_var rfl (rest o2 last p2 l0 hlt)
    ·exact els _ fun o3 bg p3 b0 b1 => rest o3 bg p3 b0 b1
   ·refine q_iteF ?_
    exact els _ fun o3 bg p3 b0 b1 => rest o3 bg p3 b0 b1
 ·rintro η ⟨o', rows, last, a, b, c, p', hr, rfl, hb, l0, l1⟩
  rw [List.length_map, List.take_length] at hr
  have hrl : rows.length = ws.length := by rw [← hr, List.length_map]
  dsimp only
  refine w_ret ?_
  refine w_cb (w_cons (w_cb (w_cons (w_varO (o := .l (rows.map rowP)) rfl ?_))))
  refine w_nil (q_sort (by rw [hr]; exact hw.2) (by omega) fun rs pm asc => ?_)
  refine w_nil ?_
  have hmem : ∀ r ∈ rs, r.1 ∈ ws := fun r h => by rw [← hr]; exact List.mem_map.mpr ⟨r, pm.mem_iff.mp h, rfl⟩
  refine ⟨o', rfl, hp o' rs p' ⟨by rw [pm.length_eq]; omega, fun r h => ?_, asc⟩ (by rw [pm.length_eq, hrl]) fun r h => ⟨hmem r h, (hb r (pm.mem_iff.mp h)).2.2⟩⟩
  exact ⟨hw.1 _ (hmem r h), (hb r (pm.mem_iff.mp h)).1, (hb r (pm.mem_iff.mp h)).2.1⟩
theorem w_fldS {s : Nat} {f : Str} {te : TEp} {D : EndsP} {η : EP'} (h : te η fun x η1 => match η1[s]? with
 | some (.ow (.o C' fs)) => C' = C ∧ fs.length < 1000 ∧ D.nx (η1.set s (.ow (.o C (putFP f x fs))))
 | _ => False) : tFldSP C s f te D η := h
theorem w_sortL {i j : Int} {te : TEp} {η : EP'} {Q : PV → EP' → Prop} (h : te η fun x η1 => match x with
 | .tup xs => (∀ y ∈ xs, ∃ ys a b, y = .tup ys ∧ atI ys i = some a ∧ atI ys j = some b ∧ flatD a = true ∧ flatD b = true) ∧ PySem.W.AllAlike (xs.map (keyP i j)) ∧ xs.length ≤ sizeLine ∧ Q (.lst (xs.mergeSort (PySem.W.dataLe false (keyP i j)))) η1
 | _ => False) : tSortLP i j te η Q := h
theorem pf1 {n : Int} : putFP ("seat_count" : Str) (.int n) [] = [(("seat_count" : Str), .int n)] := rfl
theorem pf2 {n : Int} {x : PV} : putFP ("rows" : Str) x [(("seat_count" : Str), .int n)] = [(("seat_count" : Str), .int n), (("rows" : Str), x)] := by
 unfold putFP
 rw [if_neg (by decide)]
 rfl
theorem pf3 {n : Int} {x y : PV} : putFP ("queue" : Str) y [(("seat_count" : Str), .int n), (("rows" : Str), x)] = [(("seat_count" : Str), .int n), (("rows" : Str), x), (("queue" : Str), y)] := by
 unfold putFP
 rw [if_neg (by decide)]
 unfold putFP
 rw [if_neg (by decide)]
 rfl
end
section
variable {K : PySem.W.Frag} {C : Addr} {args : List PV} {P : PV → Prop} {PR : PV → Ow → Prop} {o : Ow}
theorem rw_good {rs : List Trip} (h : Rw rs) : ∀ r ∈ rs, GoodR r := fun r hr => by
 obtain ⟨h1, h2, h3⟩ := h.each r hr
 refine ⟨fun c hc => ?_, h2, by omega⟩
 have e : (decide (1 ≤ r.1.length) && (decide (r.1.length ≤ 8) && r.1.cps.toList.all fun c => decide (c ∈ abc.cps.toList))) = true := h1
 have m := List.all_eq_true.mp (Bool.and_eq_true_iff.mp (Bool.and_eq_true_iff.mp e).2).2 c hc
 have m2 : c ∈ abc.cps.toList := of_decide_eq_true m
 have all : ∀ d ∈ abc.cps.toList, 97 ≤ d ∧ d ≤ 122 := by decide +kernel
 exact all c m2
theorem toD_row (r : Trip) : toD (rowP r) = some (rowE r) := by
 unfold rowP rowE
 simp only [toD, toDs, Option.map]
theorem toDs_rowsE : ∀ rs : List Trip, toDs (rs.map rowP) = some (rs.map rowE)
 | [] => by simp only [List.map_nil, toDs]
 | r :: rs => by
  rw [List.map_cons, List.map_cons, toDs, toD_row, toDs_rowsE rs]
theorem toD_rows (rs : List Trip) : toD (rowsP rs) = some (.tuple (rs.map rowE)) := by
 unfold rowsP
 rw [toD, toDs_rowsE]
 rfl
theorem canLay_row {r : Trip} (h : GoodR r) : PyData.canLay0 (rowE r) = true := by
 unfold rowE
 simp only [PyData.canLay0, PyData.canLayAll0, Bool.and_true]
 unfold PyData.strOk
 rw [← Array.all_toList]
 exact List.all_eq_true.mpr fun c hc => by
  have := h.low c hc
  exact decide_eq_true (by omega)
theorem canLay_rows : ∀ {rs : List Trip}, (∀ r ∈ rs, GoodR r) → PyData.canLayAll0 (rs.map rowE) = true
 | [], _ => rfl
 | r :: rs, h => by
  rw [List.map_cons, PyData.canLayAll0, canLay_row (h r List.mem_cons_self), canLay_rows fun q hq => h q (List.mem_cons_of_mem _ hq)]
  rfl
theorem depth_rows : ∀ rs : List Trip, PyData.depthAll (rs.map rowE) ≤ 1
 | [] => by simp [PyData.depthAll]
 | r :: rs => by
  have e : PyData.depth (rowE r) = 1 := by
   unfold rowE
   simp [PyData.depth, PyData.depthAll]
  have := depth_rows rs
  rw [List.map_cons, PyData.depthAll, e]
  omega
theorem shaped_rows {rs : List Trip} (h : ∀ r ∈ rs, GoodR r) : SeqAt.shaped (.tuple (rs.map rowE)) = true := by
 unfold SeqAt.shaped
 have := depth_rows rs
 rw [PyData.canLay0, canLay_rows h, Bool.true_and]
 refine decide_eq_true ?_
 rw [PyData.depth]
 omega
theorem eqv_row (r u : Trip) : PyData.eqv (rowE r) (rowE u) = decide (r = u) := by
 obtain ⟨x, s, t⟩ := r
 obtain ⟨x', s', t'⟩ := u
 unfold rowE
 simp only [PyData.eqv, PyData.eqvAll, Bool.and_true]
 rw [Bool.eq_iff_iff]
 simp
theorem eqv_rows : ∀ rs us : List Trip, PyData.eqvAll (rs.map rowE) (us.map rowE) = decide (rs = us)
 | [], [] => rfl
 | [], _ :: _ => rfl
 | _ :: _, [] => rfl
 | r :: rs, u :: us => by
  rw [List.map_cons, List.map_cons, PyData.eqvAll, eqv_row, eqv_rows rs us, Bool.eq_iff_iff]
  simp
theorem q_eqRows {rs us : List Trip} (hr : ∀ r ∈ rs, GoodR r) (hu : ∀ r ∈ us, GoodR r) (h : P (.bl (decide (rs = us)))) : rEqP false (rowsP rs) (rowsP us) P :=
 ⟨_, _, toD_rows rs, toD_rows us, shaped_rows hr, shaped_rows hu, by rw [if_neg (by simp), show PyData.eqv (.tuple (rs.map rowE)) (.tuple (us.map rowE)) = PyData.eqvAll (rs.map rowE) (us.map rowE) by simp only [PyData.eqv], eqv_rows]; exact h⟩
theorem log_of {i : Int} (h0 : 0 ≤ i) (h : i < 10 ^ 70) : i.natAbs.log2 < 1920 := by
 obtain ⟨n, rfl⟩ := Int.eq_ofNat_of_zero_le h0
 have h2 : n < 10 ^ 70 := by omega
 show n.log2 < 1920
 by_cases hn : n = 0
 ·subst hn; decide
 ·exact (Nat.log2_lt hn).mpr (Nat.lt_of_lt_of_le h2 (by decide +kernel))
structure ShowR (r : Trip) : Prop where
 g : GoodR r
 l : r.1.length ≤ 8
 s : r.2.1 < 10 ^ 70
 e : r.2.2 < 10 ^ 70
theorem fit_shown {d : PyData} {n : Nat} (h : PyData.leavesShort 1921 d = true) (hb : PyData.bulk d ≤ n) (hn : n ≤ 1000) : d.shown.length ≤ sizeLine := by
 have h1 := PyData.shown_le_bulk 1921 (by decide) d h
 have h2 : (1921 + 2) * d.bulk ≤ 1923 * 1000 := Nat.mul_le_mul_left _ (Nat.le_trans hb hn)
 have h3 : 1923 * 1000 + 1921 ≤ sizeLine := by decide
 omega
theorem w_fld {f : Str} {te : TEp} {η : EP'} {Q : PV → EP' → Prop} (h : te η fun x η1 => match x with
 | .ins C' fs => C' = C ∧ ∃ y, fs.lookup f = some y ∧ Q y η1
 | _ => False) : tFldP C f te η Q := h
theorem w_andV {ta tb : TEp} {η : EP'} {Q : PV → EP' → Prop} (h : ta η fun x η1 => match x with | .bl true => tb η1 Q | .bl false => Q (.bl false) η1 | _ => False) : tAndVP ta tb η Q := h
theorem w_itup {te : TEp} {η : EP'} {Q : List PV → EP' → Prop} (h : te η fun x η1 => match x with
 | .tup xs => Q xs η1
 | _ => False) : iTupP te η Q := h
theorem w_star {te : TEp} {t : TAp} {η : EP'} {Q : List PV → EP' → Prop} (h : te η fun x η1 => match x with
 | .lst xs => t η1 fun ys η2 => Q (xs ++ ys) η2
 | .tup xs => t η1 fun ys η2 => Q (xs ++ ys) η2
 | _ => False) : tStarP te t η Q := h
theorem w_fmt {te : TEp} {η : EP'} {Q : PV → EP' → Prop} (h : te η fun x η1 => match x with
 | .str y => y.length ≤ sizeLine ∧ Q (.str y) η1
 | .int i => i.natAbs.log2 < 1920 ∧ Q (.str (toString i)) η1
 | _ => False) : tFmtP te η Q := h
theorem w_js {ts : List TEp} {η : EP'} {Q : PV → EP' → Prop} (h : tJsP ts Str.empty η fun out η' => Q (.str out) η') : tJoinedP ts η Q := h
theorem w_js0 {acc : Str} {η : EP'} {Q : Str → EP' → Prop} (h : Q acc η) : tJsP [] acc η Q := h
theorem w_js1 {t : TEp} {ts : List TEp} {acc : Str} {η : EP'} {Q : Str → EP' → Prop} (h : t η fun x η1 => ∃ y : Str, x = .str y ∧ (acc ++ y).length ≤ sizeLine ∧ tJsP ts (acc ++ y) η1 Q) : tJsP (t :: ts) acc η Q := h
theorem w_eqO {sp : SpP} {neg : Bool} {ta tb : TEp} {η : EP'} {Q : PV → EP' → Prop} (h : ta η fun x η1 => tb η1 fun y η2 => (∃ fs, x = .ins C fs) ∧ EqTy K C y ∧ sp [x, y] fun z => ∃ b, z = .bl b ∧ Q (.bl (b != neg)) η2) : tEqOP K C sp neg ta tb η Q := h
theorem w_strO {sp : SpP} {t : TAp} {η : EP'} {Q : PV → EP' → Prop} (h : t η fun xs η1 => ∃ fs, xs = [.ins C fs] ∧ sp [.ins C fs] fun z => (∃ y, z = .str y) ∧ Q z η1) : tStrOP C sp t η Q := h
theorem w_prop' {sp : SpP} {ta : TEp} {η : EP'} {Q : PV → EP' → Prop} (h : ta η fun x η1 => (∃ fs, x = .ins C fs) ∧ sp [x] fun z => Q z η1) : tPropP C sp ta η Q := h
theorem w_neg' {te : TEp} {η : EP'} {Q : PV → EP' → Prop} (h : te η fun x η1 => match x with | .int i => Q (.int (-i)) η1 | _ => False) : tNegP te η Q := h
theorem q_neN {a b : Int} (h : P (.bl (!decide (a = b)))) : rEqI true (.int a) (.int b) P := h
theorem q_isC {y : PV} {Q : PV → Prop} (hC : ClsT K C) (ht : (tyN y).isSome = true) (h : Q (.bl false)) : rIsI K [y, .raw (.ref C)] Q := by
 cases y with
 | ins => cases ht
 | raw => cases ht
 | pln => cases ht
 | exn => cases ht
 | _ => exact ⟨hC, by decide, h⟩
theorem len_app (a b : Str) : (a ++ b).length = a.length + b.length := Str.length_append a b
theorem strsOf_mapS : ∀ ys : List Str, strsOf (ys.map .str) = some ys
 | [] => rfl
 | y :: ys => by rw [List.map_cons, strsOf, strsOf_mapS ys]; rfl
theorem sum_le : ∀ {ys : List Str}, (∀ y ∈ ys, y.length ≤ 4000) → (ys.map (·.length)).sum ≤ 4000 * ys.length
 | [], _ => by simp
 | y :: ys, h => by
  have := h y List.mem_cons_self
  have := sum_le (ys := ys) fun z hz => h z (List.mem_cons_of_mem _ hz)
  rw [List.map_cons, List.sum_cons, List.length_cons]
  omega
theorem w_g3 {a b c : PV} {i j k : Nat} {η : EP'} {R : EP' → Prop} (h : R (((η.set i (.va a)).set j (.va b)).set k (.va c))) : gConsP (gNameP i) (gConsP (gNameP j) (gConsP (gNameP k) (gNilP))) [a, b, c] η R := ⟨rfl, h⟩
theorem eqTy_line {n : Int} {rs : List Trip} : EqTy K C (lineP C n rs) := .inr ⟨_, rfl⟩
theorem q_addLL {xs ys : List PV} {Q : PV → Prop} (l : xs.length + ys.length ≤ sizeLine) (h : Q (.lst (xs ++ ys))) : rAdd (.lst xs) (.lst ys) Q := ⟨l, h⟩
theorem w_callRF' {tf : TFp} {sr : SpR} {t : TAp} {η : EP'} {Q : PV → EP' → Prop} (h : tf η fun xs η1 => t η1 fun args η2 => sr (.l xs) args fun z _ => Q z η2) : tCallRFP tf sr t η Q := h
theorem w_callF' {sp : SpF} {t : TAp} {η : EP'} {Q : List PV → EP' → Prop} (h : t η fun args η1 => sp args fun xs => Q xs η1) : tCallFP sp t η Q := h
theorem q_tupl {xs : List PV} {Q : PV → Prop} (h : Q (.tup xs)) : rTuple [.lst xs] Q := h
end
def rowS (r : Trip) : Str := Str.empty ++ r.1 ++ ((":" : String) : Str) ++ ((toString r.2.1 : String) : Str) ++ (("-" : String) : Str) ++ ((toString r.2.2 : String) : Str)
def textS (n : Int) (rs : List Trip) : Str := Txt.join ((" " : String) : Str) (((toString n : String) : Str) :: rs.map rowS)
def reprS (n : Int) (rs : List Trip) : Str := Str.empty ++ (("Line('" : String) : Str) ++ textS n rs ++ (("')" : String) : Str)
theorem int_short {i : Int} (h0 : 0 ≤ i) (h : i < 10 ^ 60) : ((toString i : String) : Str).length ≤ 61 := by
 have e := int_text_length_le10 (a := i) (k := 60) (by decide) (by
  obtain ⟨n, rfl⟩ := Int.eq_ofNat_of_zero_le h0
  have : n < 10 ^ 60 := by omega
  exact this)
 rw [PySem.ofString_length]
 exact e
structure Short (r : Trip) : Prop where
 g : GoodR r
 l : r.1.length ≤ 8
 s : r.2.1 < 10 ^ 60
 e : r.2.2 < 10 ^ 60
theorem joined_len {m k : Nat} {sep : Str} (hs : sep.length = k) : ∀ {l : List Str}, (∀ x ∈ l, x.length ≤ m) → (Str.join sep l).length ≤ (m + k) * l.length
 | [], _ => by show 0 ≤ _; omega
 | [x], h => by
  have := h x List.mem_cons_self
  show x.length ≤ (m + k) * 1
  omega
 | x :: y :: r, h => by
  have h1 := h x List.mem_cons_self
  have h2 := joined_len hs (l := y :: r) fun a ha => h a (List.mem_cons_of_mem _ ha)
  show (x ++ sep ++ Str.join sep (y :: r)).length ≤ _
  rw [len_app, len_app, List.length_cons, Nat.mul_add]
  omega
def Small (z : Str) : Prop := ∀ c ∈ z.cps.toList, c < 16 ^ 8
theorem small_of (s : String) : Small (s : Str) := by
 intro c hc
 have e : (s : Str) = ⟨(s.toList.map Char.toNat).toArray⟩ := Str.ofString_eq_toList s
 rw [e] at hc
 simp only at hc
 obtain ⟨d, _, rfl⟩ := List.mem_map.mp hc
 have h1 : (1114112 : Nat) < 16 ^ 8 := by decide
 have h2 : d.toNat < 1114112 := by
  rcases d.valid with h | h
  ·have : d.val.toNat < 0xd800 := h
   show d.val.toNat < _
   omega
  ·exact h.2
 omega
theorem small_name {r : Trip} (g : GoodR r) : Small r.1 := fun c hc => by
 have := g.low c hc
 have h1 : (122 : Nat) < 16 ^ 8 := by decide
 omega
theorem leavesS {B : Nat} {z : Str} (h : Small z) : PyData.leavesShort B (.str z) = true := by
 rw [PyData.leavesShort]
 exact List.all_eq_true.mpr fun c hc => decide_eq_true (h c hc)
theorem log_of60 {i : Int} (h0 : 0 ≤ i) (h : i < 10 ^ 60) : i.natAbs.log2 < 1920 := by
 have h2 : (10 : Int) ^ 60 ≤ 10 ^ 70 := by decide
 exact log_of h0 (by omega)
def sp_Line_capacity : PrP := fun K C args P => ∃ n rs, args = [lineP C n rs] ∧ P (.int n)
def sp_Line_eq : PrP := fun K C args P => ∃ n rs y, args = [lineP C n rs, y] ∧ ClsT K C ∧ (∀ r ∈ rs, GoodR r) ∧ (((tyN y).isSome = true ∧ P (.bl false)) ∨ ∃ m us, y = lineP C m us ∧ (∀ r ∈ us, GoodR r) ∧ P (.bl (decide (n = m ∧ rs = us))))
def ts_Line_capacity (K : PySem.W.Frag) (CLine : Addr) : TSp := tRetP (tFldP CLine ("seat_count" : Str) (tVarP 0))
def ts_Line_eq (K : PySem.W.Frag) (CLine : Addr) : TSp := tRetP (tAndVP (tCBP (rIsI K) (tConsP (tVarP 1) (tConsP (tConP (.raw (.ref CLine))) (tNilP)))) (tAndVP (tOpP (rEqP false) (tFldP CLine ("seat_count" : Str) (tVarP 0)) (tFldP CLine ("seat_count" : Str) (tVarP 1))) (tOpP (rEqP false) (tFldP CLine ("rows" : Str) (tVarP 0)) (tFldP CLine ("rows" : Str) (tVarP 1)))))
section
variable {K : PySem.W.Frag} {C : Addr} {args : List PV} {P : PV → Prop} {PR : PV → Ow → Prop} {o : Ow}
theorem len_Line_capacity (h : sp_Line_capacity K C args P) : args.length = 1 := by
 obtain ⟨_, _, rfl, _⟩ := h; rfl
theorem len_Line_eq (h : sp_Line_eq K C args P) : args.length = 2 := by
 obtain ⟨_, _, _, rfl, _⟩ := h; rfl
theorem w_chain {r r' : R2p} {ta tb tc : TEp} {η : EP'} {Q : PV → EP' → Prop} (h : ta η fun x η1 => tb η1 fun y η2 => r x y fun z => ∃ k, z = .bl k ∧ if k = true then tc η2 fun w η3 => r' y w fun z' => Q z' η3 else Q (.bl false) η2) : tChainP r r' ta tb tc η Q := h
theorem take_map {α β : Type} {l : List α} {f : α → β} {i : Nat} {a : α} (h : l[i]? = some a) : (l.take (i + 1)).map f = (l.take i).map f ++ [f a] := by
 rw [List.take_succ, h, List.map_append]
 rfl
theorem rd_Line_capacity (h : sp_Line_capacity K C args P) : ts_Line_capacity K C { nx := fun _ => P .non, rt := fun x _ => P x } (startP 1 args) := by
 obtain ⟨n, rs, rfl, hp⟩ := h
 exact ⟨rfl, _, rfl, hp⟩
theorem rd_Line_eq (h : sp_Line_eq K C args P) : ts_Line_eq K C { nx := fun _ => P .non, rt := fun x _ => P x } (startP 2 args) := by
 obtain ⟨n, rs, y, rfl, hC, hg, hp⟩ := h
 refine w_ret (w_andV (w_cb (w_cons (w_var (x := y) rfl (w_cons (w_con (w_nil ?_)))))))
 rcases hp with ⟨ht, hp⟩ | ⟨m, us, rfl, hu, hp⟩
 ·exact q_isC hC ht hp
 ·refine ⟨rfl, hC, ?_⟩
  refine w_andV (w_op (w_fld (w_var rfl ⟨rfl, _, rfl, w_fld (w_var rfl ⟨rfl, _, rfl, q_eq ?_⟩)⟩)))
  by_cases e : n = m
  ·rw [decide_eq_true e]
   refine w_op (w_fld (w_var rfl ⟨rfl, _, rfl, w_fld (w_var rfl ⟨rfl, _, rfl, ?_⟩)⟩))
   refine q_eqRows hg hu ?_
   rw [show decide (rs = us) = decide (n = m ∧ rs = us) by rw [Bool.eq_iff_iff]; simp [e]]
   exact hp
  ·rw [decide_eq_false e]
   rw [show decide (n = m ∧ rs = us) = false from decide_eq_false fun z => e z.1] at hp
   exact hp
theorem q_eqN {a b : Int} (h : P (.bl (decide (a = b)))) : rEqI false (.int a) (.int b) P := h
theorem w_lstP {te : TEp} {η : EP'} {Q : List PV → EP' → Prop} (h : te η fun x η1 => match x with | .lst xs => Q xs η1 | .scr ns => Q (ns.map .int) η1 | _ => False) : iListP te η Q := h
end
def Asc (us : List Trip) : Prop := us.Pairwise fun a b => a.1.cps.toList < b.1.cps.toList
end Z
set_option maxHeartbeats 2000000
namespace ZX
open PySem PySem.W PySem.Calls PyProof.Rows
section
variable {prog : Program} {w : World} {A : Around} {E : Value → Shared → Prop} {s : Shared} {h₀ : Heap} {L : Addr} {m mg mb : Str → Option Value} {news : List (Addr × Obj)} {K : Frag} {x C D f f2 cc cda so : Addr} {ox : Obj} {odx : Option Obj}
theorem super_node {body : List Stmt} {q : Str} {scope : Scope} {p0 p1 : Pos} {attr : Str} {whole : Sem Value} {fd : FuncData} {ar : Arg} {vs : Array Value} {file : Str} {tf : Tok} {oc ccl cl : Value} {od cdd cld : Option Addr} {osl ccs csl : Array (Option Value)} {cdD : ClassData} {Q : Value → Shared → Prop}
  (F : Fr h₀ L s.heap m) (X₀ : K.In h₀) (N : News h₀ L s.heap news) (Tg : s.heap.Ns mainGlobals mg) (Tb : s.heap.Ns builtinsNs mb) (Tv : mb "super" = some (.type "super"))
  (hf : K.lookup f = some ⟨oc, od, .func fd, osl⟩) (hp : (fd.params.posonlyargs ++ fd.params.args).head? = some ar) (hv : m ar.arg = some (.ref x)) (I : InstAt s.heap x ox C odx)
  (hcode : K.lookup cda = some ⟨ccl, cdd, .fields vs, ccs⟩) (hvs : vs[2]? = some (.str file tf)) (hfile : ((prog.main.file : Str) == file) = true)
  (hcell : K.lookup cc = some ⟨cl, cld, .cell (some (.ref D)), csl⟩) (hD : clsIn K D = some cdD) (hsub : mroIn K C (.ref D) = some true) (hsuper : mg "super" = none)
  (hat : (attr == ("__class__" : Str)) = false) (hks : scope.names.lookup ("super" : Str) = some .globalImplicit) (hkc : scope.names.lookup ("__class__" : Str) = some .free) (hka : scope.names.lookup ar.arg = some .local) (hk : scope.kind = .function)
  (htop : (prog.main.scope.names.lookup ("super" : Str)).isSome = false)
  (h : ∀ so h', Fr h₀ L h' m → News h₀ L h' ((so, ks_superObj D x C) :: news) → (∀ p ∈ news, p.1 < so) → Q (.ref so) { s with heap := h' }) :
  _root_.PySem.wpAt (model prog w) A (.func body (ksEnv q scope L f (.ref cda) cc)) (attributeBase (.Call (.Name "super" p0) [] [] p1) attr (ksEnv q scope L f (.ref cda) cc) whole) Q E s := by
 have X : K.In s.heap := X₀.keeps F.keep
 obtain ⟨hh, g, d, t, os⟩ := s
 obtain ⟨oD, hD1, hD2⟩ : ∃ oD, hh.get? D = some oD ∧ oD.data = .cls cdD := by
  unfold clsIn at hD
  split at hD
  ·rename_i c d cd' sl ho
   cases hD
   exact ⟨_, X _ _ ho, rfl⟩
  ·cases hD
 refine ks_wpAt_super_base (env := ksEnv q scope L f (.ref cda) cc) hks hkc hat rfl (X _ _ hf) rfl hp rfl (X _ _ hcode) rfl hvs hfile htop ?_
 refine ks_loadName_global hk hks (loadGlobal_builtin (env := ksEnv q scope L f (.ref cda) cc) Tg hsuper Tb Tv ⟨rfl, ?_⟩)
 refine wpAny_loadName_free hk hkc rfl ⟨_, X _ _ hcell, rfl⟩ ?_
 refine wpAny_loadName_local hk hka F.ns hv ?_
 refine ks_wpAny_isType_cls hD1 hD2 ⟨rfl, ?_⟩
 refine ks_wpAny_call_super hD1 hD2 I.at_ I.cls (fun c e => ?_) (looks_mroIn X hsub) (fun h' e k => ?_)
 ·have := I.no
  unfold notCls at this
  rw [e] at this
  exact Bool.noConfusion this
 ·obtain ⟨F', N', l'⟩ := ks_newsPush (s := ⟨hh, g, d, t, os⟩) F N rfl e k
  exact h _ _ F' N' l'
end
structure BaseX (B i newId : String) (bmB : List Value) : Prop where
 FB : ExcBaseFacts B newId i bmB
 KF : KxsFacts B i
 SF : StoreFacts B bmB "object.__setattr__" "object"
section
variable {prog : Program} {w : World} {A : Around} {E : Value → Shared → Prop} {K : Frag} {C fI cc cda : Addr} {mg mb : Str → Option Value} {R : Result → Shared → Prop} {B i newId : String} {bmB : List Value}
structure XInit (prog : Program) (K : Frag) (C fI cc cda : Addr) (fld : Str) (B i newId : String) (bmB : List Value) (fd : FuncData) : Prop where
 lk : ∃ (oc : Value) (od : Option Addr) (osl : Array (Option Value)) (qual : Str) (params : Arguments) (m : Str) (j : Nat) (p0 p1 p2 p3 p4 p5 p6 p7 p8 p9 : Pos) (scope : Scope) (dV kV doc pm ct : Value) (an : Option Addr) (ar : Arg),
  fd = ksFn "__init__" qual params [.Expr (.Call (.Attribute (.Call (.Name "super" p0) [] [] p1) "__init__" p2) [.Constant (.str m) j p3] [] p4) p5, .Assign [.Attribute (.Name "self" p6) fld p7] (.Name fld p8) p9] scope dV kV doc pm an (.ref cda) ct cc ∧
  K.lookup fI = some ⟨oc, od, .func fd, osl⟩ ∧ codeIn K (.ref cda) qual = true ∧ (params.posonlyargs ++ params.args).head? = some ar ∧ ar.arg = "self" ∧
  scope.names.lookup ("super" : Str) = some .globalImplicit ∧ scope.names.lookup ("__class__" : Str) = some .free ∧ scope.names.lookup ("self" : Str) = some .local ∧ scope.names.lookup fld = some .local ∧ scope.kind = .function ∧ scope.isCoroutine = false ∧ scope.isGenerator = false ∧
  (∀ x ∈ scope.names, x.2 ≠ .cell) ∧ (∀ L : Addr, interactive (ksEnv qual scope L fI (.ref cda) cc) = false) ∧
  (∀ L : Addr, ∃ pl : Sem Bool, eval (.Call (.Attribute (.Call (.Name "super" p0) [] [] p1) "__init__" p2) [.Constant (.str m) j p3] [] p4) (ksEnv qual scope L fI (.ref cda) cc) = (do
   let ov ← attributeBase (.Call (.Name "super" p0) [] [] p1) "__init__" (ksEnv qual scope L fI (.ref cda) cc) (eval (.Call (.Name "super" p0) [] [] p1) (ksEnv qual scope L fI (.ref cda) cc))
   standAt p2.atName
   let (f, first) ← holding [ov] (getMethod ov "__init__" pl)
   callWith p4 f first (backTo p4 (starEach [.Constant (.str m) j p3] (ksEnv qual scope L fI (.ref cda) cc))) [])) ∧
  (∀ L : Addr, swapsWith (.Call (.Attribute (.Call (.Name "super" p0) [] [] p1) "__init__" p2) [.Constant (.str m) j p3] [] p4) none p5.line (ksEnv qual scope L fI (.ref cda) cc) = pure false) ∧
  (∀ L : Addr, swapsWith (.Name fld p8) (some (.Attribute (.Name "self" p6) fld p7)) p9.line (ksEnv qual scope L fI (.ref cda) cc) = pure false)
 bind : ∀ (s : Shared) (e u : Value), BindsTo s fd ⟨[e, u], []⟩ [("self", e), (fld, u)]
 cell : ∃ (cl : Value) (cld : Option Addr) (csl : Array (Option Value)), K.lookup cc = some ⟨cl, cld, .cell (some (.ref C)), csl⟩
 code : ∃ (ccl : Value) (cdd : Option Addr) (vs : Array Value) (ccs : Array (Option Value)) (file : Str) (tf : Tok), K.lookup cda = some ⟨ccl, cdd, .fields vs, ccs⟩ ∧ vs[2]? = some (.str file tf) ∧ ((prog.main.file : Str) == file) = true
 top : (prog.main.scope.names.lookup ("super" : Str)).isSome = false
 cls : ∃ cd, clsIn K C = some cd
 sub : mroIn K C (.ref C) = some true
 subB : subIn K (.ref C) (.type B) = some true
 opq : nsIn K cStatics "thirdparty.any" = some none
 sup : ks_superIn K C C "__init__" = some (some (.builtin i))
 ini : excInitIn K C bmB newId = true
 sa : findIn K (.ref C) "__setattr__" = some (some (.builtin "object.__setattr__"))
 ov : excOver K C bmB = true
 tk : takerIn K C fld = some none
 hd : hasDictIn K C = true
 nf : (fld == ("__debug__" : Str)) = false
 ns : fld ≠ "self"
theorem updF4 {d : Addr} {o : Obj} {p1 p2 p3 : Addr × Obj} (h1 : p1.1 ≠ d) (h2 : p2.1 ≠ d) (h3 : p3.1 ≠ d) : UpdF d o (p1 :: p2 :: p3 :: [(d, o)]) (fun o' => p1 :: p2 :: p3 :: [(d, o')]) :=
 .tail h1 (.tail h2 (.tail h3 (.head fun p hp => absurd hp (by simp))))
theorem ldK {A : Around} {h₀ : Heap} {L f : Addr} {m : Str → Option Value} {q : Str} {scope : Scope} {cd : Value} {s : Shared} {x : Str} {pos : Pos} {v : Value} {Q : Value → Shared → Prop} {M : Model} (F : Fr h₀ L s.heap m) (hv : m x = some v) (h : Q v s)
  (hk : scope.kind = .function) (hl : scope.names.lookup x = some .local) (hd : (x == ("__debug__" : Str)) = false) :
  wpAny M A (eval (.Name x pos) (ksEnv q scope L f cd cc)) Q E s := wpAny_Name (wpAny_loadName_local hk hl F.ns hv h) hd
theorem init_run {h : Heap} {g : Array GenState} {d : Drawn} {t : Nat} {os : OsState} {fd : FuncData} {fld : Str} {e t0 : Addr} {u : Value} (BX : BaseX B i newId bmB) (Y : XInit prog K C fI cc cda fld B i newId bmB fd) (X : K.In h) (Tg : h.Ns mainGlobals mg) (Tb : h.Ns builtinsNs mb) (Tv : mb "super" = some (.type "super"))
  (hsuper : mg "super" = none) (lim : h.NoLimit) (hroom : A.depth < recursionLimit) (he : h.get? e = some (excObj C t0 none .none)) (hKe : K.lookup e = none)
  (hq : ∀ (h' : Heap) (t' dx : Addr) (es : List DictEntry) (n tk : Nat), (∀ b o, b ≠ e → h.get? b = some o → h'.get? b = some o) → h'.get? e = some (excObj C t' (some dx) .none) → h'.get? dx = some (dictOf es n) → (h.get? dx = none ∧ e < dx) →
   (∃ tk1, (putL fld (PyData.keyHash w.params fld) (.str fld tk1) u [], putN fld [] 0) = (es, n)) → R (.ok (.ret .none)) ⟨h', g, d, tk, os⟩) :
  codeAny (model prog w) A (.call (.ref fI) ⟨[.ref e, u], []⟩) R ⟨h, g, d, t, os⟩ := by
 obtain ⟨oc, od, osl, qual, params, m, j, p0, p1, p2, p3, p4, p5, p6, p7, p8, p9, scope, dV, kV, doc, pm, ct, an, ar, rfl, lk, hcd, hp, har, k1, k2, k3, k4, k5, k6, k7, k8, k9, k10, k11, k12⟩ := Y.lk
 obtain ⟨cl, cld, csl, hcell⟩ := Y.cell
 obtain ⟨ccl, cdd, vs, ccs, file, tf, hcode, hvs, hfile⟩ := Y.code
 obtain ⟨cd, hcls⟩ := Y.cls
 refine ks_codeAny_call_defAt (fd := ksFn "__init__" qual params _ scope dV kV doc pm an (.ref cda) ct cc) (binds := [("self", .ref e), (fld, u)]) hroom (X _ _ lk) rfl lim (codeRec_of X hcd) rfl (Y.bind _ _ _) k8 (fun y hy => ?_) (fun h₁ hns hk₁ => ?_) k6 k7 k5
 ·rcases List.mem_cons.mp hy with rfl | hy
  ·exact k3
  rcases List.mem_cons.mp hy with rfl | hy
  ·exact k4
  ·cases hy
 -- the ground: all but the exception's object
 have Xh : K.In (hideAll h [e]) := fun b o q => hideAll_get _ (X _ _ q) (fun z => by
  have z : b = e := by simpa using z
  rw [z, hKe] at q
  cases q)
 have F : Fr (hideAll h [e]) h.objs.size h₁ (fun x => [(("self" : Str), Value.ref e), (fld, u)].reverse.lookup x) := ⟨hns, fun b o q => hk₁ b o (of_hideAll _ q), Nat.le_of_eq (hideAll_size _ _)⟩
 have N : News (hideAll h [e]) h.objs.size h₁ [(e, excObj C t0 none .none)] := fun p hp => by
  have e2 : p = (e, excObj C t0 none .none) := by simpa using hp
  subst e2
  exact ⟨hk₁ _ _ he, Nat.ne_of_lt (Heap.lt_size he), hideAll_none _ (by simp)⟩
 have Tg' : h₁.Ns mainGlobals mg := Tg.at fun o q => hk₁ _ o q
 have Tb' : h₁.Ns builtinsNs mb := Tb.at fun o q => hk₁ _ o q
 have mS : (fun x => [(("self" : Str), Value.ref e), (fld, u)].reverse.lookup x) "self" = some (.ref e) := by
  show List.lookup ("self" : Str) [(fld, u), (("self" : Str), Value.ref e)] = _
  have n : (("self" : Str) == fld) = false := by simpa using Ne.symm Y.ns
  simp [List.lookup, n]
 have mF : (fun x => [(("self" : Str), Value.ref e), (fld, u)].reverse.lookup x) fld = some u := by
  show List.lookup fld [(fld, u), (("self" : Str), Value.ref e)] = _
  simp [List.lookup]
 have I0 : InstAt h₁ e (excObj C t0 none .none) C none := ⟨(N (e, excObj C t0 none .none) (by simp)).1, rfl, rfl, trivial⟩
 have h3 : scope.names.lookup ar.arg = some .local := by rw [har]; exact k3
 have mS' : (fun x => [(("self" : Str), Value.ref e), (fld, u)].reverse.lookup x) ar.arg = some (.ref e) := by rw [har]; exact mS
 obtain ⟨pl, hev⟩ := k10 h.objs.size
 refine ks_wpAt_execs_cons (ks_wpAt_Expr_any (ks_wpAt_MethodCall ?_ hev) (k9 _) (k11 _))
 refine super_node (news := [(e, excObj C t0 none .none)]) F Xh N Tg' Tb' Tv lk hp mS' I0 hcode hvs hfile hcell hcls Y.sub hsuper (by decide) k1 k2 h3 k5 Y.top (fun so h2 F2 N2 l2 => ?_)
 have I2 : InstAt h2 e (excObj C t0 none .none) C none := ⟨(N2 (e, excObj C t0 none .none) (by simp)).1, rfl, rfl, trivial⟩
 refine kxs_method BX.KF F2 Xh N2 List.mem_cons_self I2 Y.opq Y.sup Y.subB (by decide) (fun q h3' F3 N3 l3 => ?_)
 refine kxs_callWith1 (i := i) (x := e) (u := q) N3 List.mem_cons_self ?_
 refine spliced_more (Calls.Constant_str ?_)
 refine spliced_none ?_
 refine ⟨kxs_at N3 List.mem_cons_self, ?_⟩
 have e1 : so ≠ e := Nat.ne_of_gt (l2 (e, excObj C t0 none .none) (by simp))
 have e2 : q ≠ e := Nat.ne_of_gt (l3 (e, excObj C t0 none .none) (by simp))
 have U : UpdF e (excObj C t0 none .none) ((q, kxs_mw i e) :: (so, ks_superObj C e C) :: [(e, excObj C t0 none .none)]) (fun o => (q, kxs_mw i e) :: (so, ks_superObj C e C) :: [(e, o)]) :=
  .tail e2 (.tail e1 (.head fun p hp => by cases hp))
 refine kxs_call F3 Xh N3 BX.FB Y.ini List.mem_cons_self U (by rw [sizeLine_eq]; simp) (fun t' h4 F4 N4 l4 => ?_)
 -- the second row
 obtain ⟨oT, N5'⟩ : ∃ oT, News (hideAll h [e]) h.objs.size h4 ((t', oT) :: (q, kxs_mw i e) :: (so, ks_superObj C e C) :: [(e, excObj C t' none .none)]) := ⟨_, N4⟩
 refine wpAt_of_wpAny ?_
 show wpAny _ _ (execs [.Assign [.Attribute (.Name "self" p6) fld p7] (.Name fld p8) p9] _) _ _ _
 refine wpAny_execs_cons (plainObj_wpAny_Assign_Attribute ?_ (k12 _))
 refine ldK F4 mF ?_ k5 k4 Y.nf
 refine ldK F4 mS ?_ k5 k3 (by decide)
 have e3 : t' ≠ e := Nat.ne_of_gt (l4 (e, excObj C t0 none .none) (by simp))
 refine set_exc0 (t := t') (c2 := .none) (es' := (putL fld (PyData.keyHash w.params fld) (.str fld _) u [])) (n' := putN fld [] 0) (nw := fun o => (t', oT) :: (q, kxs_mw i e) :: (so, ks_superObj C e C) :: [(e, o)]) BX.SF F4 Xh N5' ?_ Y.sa Y.ov Y.tk Y.hd rfl ?_ ?_ ?_
 ·simp
 ·exact updF4 (p1 := (t', oT)) (p2 := (q, _)) (p3 := (so, _)) e3 e2 e1
 ·simp [putL]
 ·intro dx h5 F5 N5 l5
  refine wpAny_execs_nil ?_
  refine hq h5 t' dx _ _ _ (fun b o hb hbo => F5.keep b o (hideAll_get _ hbo (fun z => hb (by simpa using z)))) (N5 (e, _) (by simp)).1 (N5 (dx, _) List.mem_cons_self).1 ?_ ⟨_, rfl⟩
  have n1 : dx ≠ e := Nat.ne_of_gt (l5 (e, excObj C t' none .none) (by simp))
  refine ⟨?_, l5 (e, excObj C t' none .none) (by simp)⟩
  have n2 := (N5 (dx, _) List.mem_cons_self).2.2
  cases z : h.get? dx with
  | none => rfl
  | some o =>
   rw [hideAll_get _ z (fun y => n1 (by simpa using y))] at n2
   cases n2
end
end ZX
namespace ZX
open PySem PySem.Spec PyProof.Rows L2
theorem ns1_one {h : Heap} {dx : Addr} {f : Str} {hs : Int} {tk : Tok} {u : Value} {n : Nat} (e : h.get? dx = some (PySem.W.dictOf [⟨hs, .str f tk, u⟩] n)) : h.Ns1 dx (fun y => if y = f then some u else none) := by
 refine ⟨_, _, _, e, rfl, ?_, ?_, ?_⟩
 ·intro x hx
  have : x = ⟨hs, .str f tk, u⟩ := by simpa using hx
  subst this
  exact ⟨_, _, rfl⟩
 ·unfold UniqKeys
  simp
 ·intro name
  unfold nsFind findBy
  by_cases q : name = f
  ·subst q
   simp [Value.isStr]
  ·have q' : (f == name) = false := by simpa using Ne.symm q
   simp [Value.isStr, q, q']
section
variable {X : Cx} {C fI cc cda : Addr} {B i newId : String} {bmB : List Value} {fld : Str} {fd : FuncData}
theorem roomH_make {k : Nat} {A : Around} (r : L2H.RoomH (k + 1) A) (C : Addr) (us : List Value) : L2H.RoomH k (A.under (.builtin "type.__call__" ⟨.ref C :: us, []⟩)) :=
 ⟨by have := r.dp; rw [make_depth]; omega, by have := r.un; rw [make_units]; omega⟩
def tMkX (C : Addr) (fld : Str) (ta : TA) : L2.St → Hp → XK → Prop := fun σ H Q => ta σ H fun vs H1 => ∃ v, vs = [v] ∧ ∀ d, H1 d = none → Q (.ref C) (some d) (upd H1 d (.xd [(fld, v)]))
structure XCl (K : PySem.W.Frag) (C fI : Addr) : Prop where
 iC : PySem.W.findIn K (.ref C) "__init__" = some (some (.ref fI))
 tI : PySem.W.typeIn K (.ref fI) = some (.type "function")
 exC : PySem.W.subIn K (.ref C) (.type "BaseException") = some true
 tyC : PySem.W.typeIn K (.ref C) = some (.type "type")
 kC : PySem.W.keepIn K (.ref C) = true
theorem pmk_X {x : Str} {p pos : Pos} {e : Expr} {es : List Expr} {ta : TA} (BX : BaseX B i newId bmB) (Y : XInit X.prog X.K C fI cc cda fld B i newId bmB fd) (T : XCl X.K C fI) (hsup : X.mg "super" = none) (hr : L2H.RoomH 1 X.A) (hg : Gl X x) (hm : X.mg x = some (.ref C)) (ha : PA X (e :: es) ta)
  (hdb : (x == ("__debug__" : Str)) = false := by decide) (he : starEach (e :: es) X.env = (false, eval e X.env) :: starEach es X.env := by rfl) (hpl : (backTo pos (starEach es X.env)).any (·.1) = false := by rfl) :
  L2N.PMk X (.Call (.Name x p) (e :: es) [] pos) (tMkX C fld ta) := by
 intro pins s σ H Q I h
 refine wpAny_Call_Name_kw (ld_glob I hg hm ?_ hdb)
 refine PySem.W.callWith_K (h₀ := X.base) I.ok.mod.kin T.kC (thn (ha.run pos pins s σ H _ I h) fun us s1 ⟨vs, H1, I1, r1, v, ev, q1⟩ => ⟨I1.kIn, ?_⟩) he hpl
 show wpAny _ _ (call (.ref C) us) _ _ _
 subst ev
 cases r1 with
 | @cons _ u _ ur ra rr =>
 cases rr
 obtain ⟨hp, g, dr, tk, os⟩ := s1
 obtain ⟨nm, N', qn, bs, bm, hdct, sn, sub, ab, col, dd, k0, k1, k2, k3, k5, hC, hT⟩ := PySem.W.excInit_of I1.kIn Y.ini
 have kk : ∀ b o, hp.get? b = some o → ((hp.push (PySem.W.kdv_tup [u])).push (PySem.HandSPX.excO C hp.objs.size)).get? b = some o := fun b o e => Heap.get?_push_of_some _ (Heap.get?_push_of_some _ e)
 have hget : ((hp.push (PySem.W.kdv_tup [u])).push (PySem.HandSPX.excO C hp.objs.size)).get? (hp.objs.size + 1) = some (PySem.HandSPX.excO C hp.objs.size) := by heap_get
 obtain ⟨mb, hb1, hb2⟩ := I1.ok.mod.blt
 have nK : X.K.lookup (hp.objs.size + 1) = none := by
  cases z : X.K.lookup (hp.objs.size + 1) with
  | none => rfl
  | some o => exact absurd (Heap.lt_size (I1.kIn _ _ z)) (by show ¬ (hp.objs.size + 1 < hp.objs.size); omega)
 refine wpAny_call (PySem.HandSPX.call_own BX.FB hT hC (PySem.W.looks_findIn I1.kIn T.iC) (fun self => PySem.W.bind_fn I1.kIn self T.tI) (by rw [sizeLine_eq]; simp) ?_)
 have bk : ∀ b o, X.base.get? b = some o → hp.get? b = some o := I1.bk
 refine init_run (mg := X.mg) (mb := mb) BX Y (fun b o e => kk b o (I1.kIn b o e)) (I1.ok.mod.glob.keeps fun b o e => kk b o (bk b o e)) (hb1.keeps fun b o e => kk b o (bk b o e)) ((hb2 _ (by decide)).trans (by decide +kernel)) hsup (I1.ok.mod.nolimit.keeps fun b o e => kk b o (bk b o e)) ?_ hget nK ?_
 ·exact (roomH_make hr C [u]).depth
 ·intro h' t' dx es0 n0 tk0 k1 e1 e2 e3 e4
  obtain ⟨nd, ld0⟩ := e3
  have ld : hp.objs.size + 1 < dx := ld0
  obtain ⟨tk1, e4⟩ := e4
  obtain ⟨e5, e6⟩ := Prod.mk.inj e4
  refine ⟨rfl, ?_⟩
  have hsz : hp.objs.size ≤ dx := by omega
  have hn : H1 dx = none := I1.hok.fresh hsz
  have na : H1 (hp.objs.size + 1) = none := I1.hok.fresh (by show hp.objs.size ≤ hp.objs.size + 1; omega)
  obtain ⟨G, g1, g2⟩ := restrict h' fun b => decide (b ≠ hp.objs.size + 1)
  have gk : ∀ b, b ≠ hp.objs.size + 1 → G.get? b = h'.get? b := fun b hb => g1 b (decide_eq_true hb)
  have ge : G.get? (hp.objs.size + 1) = none := g2 _ (by simp)
  have kG : ∀ b o, hp.get? b = some o → G.get? b = some o := fun b o e => by
   have nb : b ≠ hp.objs.size + 1 := Nat.ne_of_lt (Nat.lt_succ_of_lt (Heap.lt_size e))
   rw [gk b nb]
   exact k1 b o nb (kk b o e)
  have hdx : G.get? dx = some (PySem.W.dictOf es0 n0) := (gk dx (by omega)).trans e2
  have hns : G.Ns1 dx (fun y => if y = fld then some u else none) := by
   have z : es0 = [⟨PyData.keyHash X.w.params fld, .str fld tk1, u⟩] := by rw [← e5]; rfl
   rw [z] at hdx
   exact ns1_one hdx
  have J : Inv X pins σ (upd H1 dx (.xd [(fld, v)])) ⟨G, g, dr, tk0, os⟩ := I1.laid (t' := tk0) (a := dx) (o := .xd [(fld, v)]) (h' := G) kG hsz ⟨_, hns, fun f => by
   by_cases q : f = fld
   ·subst q
    simp [List.lookup]
    exact ra
   ·have q' : (f == fld) = false := by simpa using q
    simp [List.lookup, q, q']
    exact True.intro⟩
  refine ⟨hp.objs.size + 1, _, _, ⟨G, g, dr, tk0, os⟩, _, .ref C, some dx, rfl, J, fun b o z => ?_, ge, e1, ⟨rfl, rfl, fun vs q => by cases q; rfl⟩, rfl, rfl, ?_, rfl, J.bare, raises_own T.exC T.tyC, q1 dx hn⟩
  ·by_cases hb : b = hp.objs.size + 1
   ·rw [hb, ge] at z
    cases z
   ·exact (gk b hb).symm.trans z
  ·rw [upd_ne (by show hp.objs.size + 1 ≠ dx; omega)]
   exact na
end
end ZX
namespace Z
open PySem PySem.Spec L2 GenW
open PyProof.Rows hiding St
section
variable {X : Cx} {T : List (Addr × Str)} {e o c : Expr} {es : List Expr} {st : Stmt} {body rest : List Stmt} {te ta : TEp} {t : TAp} {tt : TTp} {ts tb : TSp} {pos p p' pos' : Pos} {k : Nat} {f : Addr} {fd : FuncData} {ps : List Str} {x nm : Str} {i : Nat}
structure GEndsP where
 nx : List PV → EP' → Prop
abbrev TGSp := GEndsP → List PV → EP' → Prop
theorem GS.weak {t t' : TGn} (h : GS X st t) (w : ∀ D ys σ H, t' D ys σ H → t D ys σ H) : GS X st t' := ⟨fun A S ip R n ys s₀ c fs K J gd lv s σ H D g hn kk hI ht => h.run A S ip R n ys s₀ c fs K J gd lv s σ H D g hn kk hI (w _ _ _ _ ht)⟩
theorem GSs.weak {t t' : TGn} (h : GSs X body t) (w : ∀ D ys σ H, t' D ys σ H → t D ys σ H) : GSs X body t' := ⟨fun A S ip R n ys s₀ c fs K J gd lv s σ H D g hn kk hI ht => h.run A S ip R n ys s₀ c fs K J gd lv s σ H D g hn kk hI (w _ _ _ _ ht)⟩
end
end Z
namespace Z
open PySem PySem.Spec L2
open PyProof.Rows hiding St
theorem Room.u1 {k : Nat} {A : Around} (h : Room k A) : A.units + 1 < cLine := by have := h.units; omega
def valP : List (Key × PV) → Key → Option PV
 | [], _ => none
 | p :: r, k => if p.1 = k then some p.2 else valP r k
def putP (kvs : List (Key × PV)) (k : Key) (x : PV) : List (Key × PV) :=
 if (kvs.any fun kv => decide (kv.1 = k)) = true then kvs.map (fun kv => if kv.1 = k then (kv.1, x) else kv) else kvs ++ [(k, x)]
section
variable {K : PySem.W.Frag} {O O' : Addr → Prop} {H H' : Hp}
theorem RepD.inv {n : Key} {x : PV} {xs : List (Key × PV)} {vs : List (Key × V)} (h : RepD K O H ((n, x) :: xs) vs) : ∃ v us, vs = (n, v) :: us ∧ Rep K O H x v ∧ RepD K O H xs us := by unfold RepD at h; exact h
theorem RepD.inv0 {vs : List (Key × V)} (h : RepD K O H [] vs) : vs = [] := by unfold RepD at h; exact h
theorem RepD.cons {n : Key} {x : PV} {v : V} {xs : List (Key × PV)} {vs : List (Key × V)} (h : Rep K O H x v) (t : RepD K O H xs vs) : RepD K O H ((n, x) :: xs) ((n, v) :: vs) := by unfold RepD; exact ⟨v, vs, rfl, h, t⟩
theorem RepD.app : ∀ {xs ys : List (Key × PV)} {vs us : List (Key × V)}, RepD K O H xs vs → RepD K O H ys us → RepD K O H (xs ++ ys) (vs ++ us)
 | [], _, _, _, h, t => by rw [h.inv0]; exact t
 | (n, x) :: xs, _, _, _, h, t => by
  obtain ⟨v, us, rfl, r, q⟩ := h.inv
  exact .cons r (q.app t)
theorem RepD.val : ∀ {xs : List (Key × PV)} {vs : List (Key × V)} (k : Key), RepD K O H xs vs → (∀ x, valP xs k = some x → ∃ v, valV vs k = some v ∧ Rep K O H x v) ∧ (valP xs k = none → valV vs k = none)
 | [], _, k, h => by
  rw [h.inv0]
  exact ⟨fun x e => (nomatch e), fun _ => rfl⟩
 | (n, x) :: xs, _, k, h => by
  obtain ⟨v, us, rfl, r, t⟩ := h.inv
  obtain ⟨h1, h2⟩ := t.val k
  by_cases e : n = k
  ·refine ⟨fun y q => ?_, fun q => ?_⟩
   ·unfold valP at q; rw [if_pos e] at q; cases q
    exact ⟨v, valV_pos (p := (n, v)) e, r⟩
   ·unfold valP at q; rw [if_pos e] at q; cases q
  ·rw [valV_neg (p := (n, v)) e]
   unfold valP; rw [if_neg e]
   exact ⟨h1, h2⟩
theorem RepD.any : ∀ {xs : List (Key × PV)} {vs : List (Key × V)} (k : Key), RepD K O H xs vs → (vs.any fun kv => decide (kv.1 = k)) = (xs.any fun kv => decide (kv.1 = k))
 | [], _, k, h => by rw [h.inv0]; rfl
 | (n, x) :: xs, _, k, h => by
  obtain ⟨v, us, rfl, r, t⟩ := h.inv
  rw [List.any_cons, List.any_cons, t.any k]
theorem RepD.repl : ∀ {xs : List (Key × PV)} {vs : List (Key × V)} (k : Key) {y : PV} {u : V}, RepD K O H xs vs → Rep K O H y u → RepD K O H (xs.map fun kv => if kv.1 = k then (kv.1, y) else kv) (vs.map fun kv => if kv.1 = k then (kv.1, u) else kv)
 | [], _, k, _, _, h, _ => by rw [h.inv0]; exact .nil
 | (n, x) :: xs, _, k, _, _, h, ry => by
  obtain ⟨v, us, rfl, r, t⟩ := h.inv
  rw [List.map_cons, List.map_cons]
  by_cases e : n = k
  ·rw [if_pos e, if_pos e]; exact .cons ry (t.repl k ry)
  ·rw [if_neg e, if_neg e]; exact .cons r (t.repl k ry)
theorem RepD.put {xs : List (Key × PV)} {vs : List (Key × V)} (k : Key) {y : PV} {u : V} (h : RepD K O H xs vs) (ry : Rep K O H y u) : RepD K O H (putP xs k y) (putK vs k u) := by
 unfold putP putK
 rw [h.any k]
 split
 ·exact h.repl k ry
 ·exact h.app (.cons ry .nil)
end
abbrev TFDp := EP' → (List (Key × PV) → EP' → Prop) → Prop
section
variable {X : Cx} {T : List (Addr × Str)} {e o a b : Expr} {es : List Expr} {te ta tb ti : TEp} {t : TAp} {tr : TArp} {tf : TFDp} {pos : Pos} {i : Nat}
end
end Z
namespace Z
open PySem PySem.Spec L2
open PyProof.Rows hiding St
inductive Ab where
 | v (x : PV) | b (i : Nat)
abbrev TAbp := EP' → (List Ab → EP' → Prop) → Prop
def RepB (K : PySem.W.Frag) (O : Addr → Prop) (H : Hp) (σ : St) : List Ab → List V → Prop
 | [], vs => vs = []
 | .v x :: r, vs => ∃ v us, vs = v :: us ∧ Rep K O H x v ∧ RepB K O H σ r us
 | .b i :: r, vs => ∃ a us, vs = .ref a :: us ∧ σ[i]? = some (some (V.ref a)) ∧ RepB K O H σ r us
def upAB (K : PySem.W.Frag) (T : List (Addr × Str)) (t : TAbp) : TA := fun σ H Q => ∃ F η P, Rs K T F σ η H ∧ t η P ∧ ∀ abs η' vs H', P abs η' → Ext σ η σ η' H H' → Rs K T F σ η' H' → RepB K (Oof F σ η') H' σ abs vs → Q vs H'
def tNilB : TAbp := fun η P => P [] η
def tConsBb (i : Nat) (t : TAbp) : TAbp := fun η P => (∃ o, η[i]? = some (Sl.ow o)) ∧ t η fun abs η1 => P (.b i :: abs) η1
def fillB (η : EP') : List Ab → Option (List PV)
 | [] => some []
 | .v x :: r => match fillB η r with
  | some xs => some (x :: xs)
  | none => none
 | .b i :: r => match η[i]?, fillB η r with
  | some (.ow o), some xs => some (frz o :: xs)
  | _, _ => none
def Bor (σ : St) (S : List Ab) (a : Addr) : Prop := ∃ i, Ab.b i ∈ S ∧ σ[i]? = some (some (V.ref a))
mutual
def tpV : PV → Bool
 | .tup xs => tpVs xs
 | .pln xs => tpVs xs
 | .non => true
 | .bl _ => true
 | .int _ => true
 | .str _ => true
 | _ => false
def tpVs : List PV → Bool
 | [] => true
 | x :: xs => tpV x && tpVs xs
end
section
variable {K : PySem.W.Frag} {O O' : Addr → Prop} {H H' : Hp}
mutual
theorem tpV_back (hB : ∀ a, O' a → ¬ O a → ∀ vs, ¬ Rd H a (.tup vs)) : ∀ (x : PV) (v : V), tpV x = true → Rep K O H x v → Rep K O' H x v
 | .tup xs, v, e, h => by
  obtain ⟨a, vs, rfl, t, r⟩ := h.tup_
  unfold tpV at e
  unfold Rep
  refine ⟨a, vs, rfl, ?_, tpVs_back hB xs vs e r⟩
  rcases t with ⟨n, q⟩ | t
  ·exact .inl ⟨fun z => hB a z n vs q, q⟩
  ·exact .inr t
 | .pln xs, v, e, h => by
  unfold tpV at e
  unfold Rep at h ⊢
  obtain ⟨a, vs, o, rfl, n, q, d, r⟩ := h
  exact ⟨a, vs, o, rfl, fun z => hB a z n vs (.inr ⟨o, q⟩), q, d, tpVs_back hB xs vs e r⟩
 | .non, _, _, h => by unfold Rep at h ⊢; exact h
 | .bl _, _, _, h => by unfold Rep at h ⊢; exact h
 | .int _, _, _, h => by unfold Rep at h ⊢; exact h
 | .str _, _, _, h => by unfold Rep at h ⊢; exact h
 | .lst _, _, e, _ => by unfold tpV at e; cases e
 | .scr _, _, e, _ => by unfold tpV at e; cases e
 | .ins _ _, _, e, _ => by unfold tpV at e; cases e
 | .dic _, _, e, _ => by unfold tpV at e; cases e
 | .raw _, _, e, _ => by unfold tpV at e; cases e
theorem tpVs_back (hB : ∀ a, O' a → ¬ O a → ∀ vs, ¬ Rd H a (.tup vs)) : ∀ (xs : List PV) (vs : List V), tpVs xs = true → Reps K O H xs vs → Reps K O' H xs vs
 | [], _, _, h => by rw [h.inv0]; exact .nil
 | x :: xs, _, e, h => by
  obtain ⟨v, us, rfl, r, t⟩ := h.inv
  unfold tpVs at e
  rw [Bool.and_eq_true] at e
  exact .cons (tpV_back hB x v e.1 r) (tpVs_back hB xs us e.2 t)
end
theorem fill_rep {T : List (Addr × Str)} {F : Addr → Prop} {σ : St} {η : EP'} {S : List Ab} (R : Rs K T F σ η H) : ∀ {abs : List Ab} {args : List PV} {vs : List V}, (∀ x ∈ abs, x ∈ S) → fillB η abs = some args → RepB K (Oof F σ η) H σ abs vs → Reps K (fun c => Oof F σ η c ∧ ¬ Bor σ S c) H args vs
 | [], _, _, _, e, h => by
  unfold fillB at e; cases e
  have h' : _ = [] := h
  rw [h']; exact .nil
 | .v x :: r, _, _, hS, e, h => by
  unfold fillB at e
  split at e
  ·rename_i xs q
   cases e
   obtain ⟨v, us, rfl, r1, t⟩ := h
   exact .cons (r1.mono fun b z => z.1) (fill_rep R (fun y hy => hS y (List.mem_cons_of_mem _ hy)) q t)
  ·cases e
 | .b i :: r, _, _, hS, e, h => by
  unfold fillB at e
  split at e
  ·rename_i o xs q1 q2
   cases e
   obtain ⟨a, us, rfl, hs, t⟩ := h
   obtain ⟨a', s, w, nf⟩ := R.ow i o q1
   rw [hs] at s; cases s
   refine .cons ((w.mono fun b z => z.1).frz fun z => z.2 ⟨i, hS _ List.mem_cons_self, hs⟩) (fill_rep R (fun y hy => hS y (List.mem_cons_of_mem _ hy)) q2 t)
  ·cases e
theorem fill_own {η : EP'} : ∀ {abs : List Ab} {args : List PV} {i : Nat}, fillB η abs = some args → Ab.b i ∈ abs → ∃ o, η[i]? = some (Sl.ow o)
 | [], _, _, _, h => by simp at h
 | .v x :: r, _, i, e, h => by
  unfold fillB at e
  split at e
  ·rename_i xs q
   rcases List.mem_cons.mp h with h | h
   ·cases h
   ·exact fill_own q h
  ·cases e
 | .b j :: r, _, i, e, h => by
  unfold fillB at e
  split at e
  ·rename_i o xs q1 q2
   rcases List.mem_cons.mp h with h | h
   ·cases h; exact ⟨o, q1⟩
   ·exact fill_own q2 h
  ·cases e
theorem bor_tup {T : List (Addr × Str)} {F : Addr → Prop} {σ : St} {η : EP'} {abs : List Ab} {args : List PV} (R : Rs K T F σ η H) (e : fillB η abs = some args) (g : Gr H H') {a : Addr} (h : Bor σ abs a) (vs : List V) : ¬ Rd H' a (.tup vs) := by
 obtain ⟨i, h1, h2⟩ := h
 obtain ⟨o, h3⟩ := fill_own e h1
 obtain ⟨b, q1, q2, q3⟩ := R.ow i o h3
 rw [h2] at q1; cases q1
 intro z
 cases o with
 | l xs =>
  obtain ⟨vs, q, _⟩ := q2
  have := g.keep _ _ q nofun
  rcases z with z | ⟨u, z⟩ <;> rw [this] at z <;> cases z
 | o C fs =>
  obtain ⟨dx, ws, q, _⟩ := q2
  have := g.keep _ _ q nofun
  rcases z with z | ⟨u, z⟩ <;> rw [this] at z <;> cases z
 | d kvs =>
  obtain ⟨ws, q, _⟩ := q2
  have := g.keep _ _ q nofun
  rcases z with z | ⟨u, z⟩ <;> rw [this] at z <;> cases z
end
section
variable {X : Cx} {T : List (Addr × Str)} {e : Expr} {es : List Expr} {te ta : TEp} {t : TAbp} {pos p : Pos} {k : Nat} {f : Addr} {fd : FuncData} {ps : List Str} {x : Str} {i : Nat}
theorem zb_nil : PA X [] (upAB X.K T tNilB) := by
 refine PA.weak pa_nil fun σ H Q q => ?_
 obtain ⟨F, η, P, R, h, k⟩ := q
 exact k [] η [] H h .refl R rfl
theorem zb_b (h : PE X e (tVar i)) (hr : PA X es (upAB X.K T t)) (hs : starEach (e :: es) X.env = (false, eval e X.env) :: starEach es X.env := by rfl) : PA X (e :: es) (upAB X.K T (tConsBb i t)) := by
 refine PA.weak (pa_cons h hr hs) fun σ H Q q => ?_
 obtain ⟨F, η, P, R, ⟨⟨o, ho⟩, h⟩, k⟩ := q
 obtain ⟨a, hs, _, _⟩ := R.ow i o ho
 refine ⟨.ref a, hs, F, η, _, R, h, fun y η2 w H2 h2 e2 R2' rw' => ?_⟩
 exact k (.b i :: y) η2 (.ref a :: w) H2 h2 e2 R2' ⟨a, w, rfl, hs, rw'⟩
end
end Z
namespace Z
open PySem PySem.Spec L2
open PyProof.Rows hiding St
end Z
namespace Z
open PySem PySem.Spec L2
open PyProof.Rows hiding St
structure ZSt (z TI TO i1 i2 l1 l2 S : Addr) (xs ys : Array Value) (i : Nat) (h : Heap) : Prop where
 ti : IsPair h TI (.ref i1) (.ref i2)
 h1 : h.IsListIter i1 l1 i
 h2 : h.IsListIter i2 l2 i
 l1 : h.IsList l1 xs
 l2 : h.IsList l2 ys
 to : ∃ o, h.get? TO = some o
 z : (IsZip h z TI TO .none ∧ ∃ a b, IsPair h TO a b) ∨ ∃ T f oT, IsZipHeld h z TI TO T f ∧ h.get? T = some oT ∧ T ≠ z ∧ T ≠ i1 ∧ T ≠ i2 ∧ T ≠ S
section
variable {prog : Program} {w : World} {A : Around} {E : Value → Shared → Prop} {s : Shared} {z TI TO i1 i2 l1 l2 S : Addr} {xs ys : Array Value} {i : Nat}
theorem ZSt.type (st : ZSt z TI TO i1 i2 l1 l2 S xs ys i s.heap) : s.TypeIs (.ref z) "zip" := by
 rcases st.z with ⟨hz, _⟩ | ⟨T, f, oT, hz, _⟩
 ·exact ⟨_, hz, rfl⟩
 ·exact ⟨_, hz, rfl⟩
theorem ZSt.frame {h h' : Heap} (st : ZSt z TI TO i1 i2 l1 l2 S xs ys i h) (dS : S ≠ z ∧ S ≠ TI ∧ S ≠ TO ∧ S ≠ i1 ∧ S ≠ i2 ∧ S ≠ l1 ∧ S ≠ l2) (hk : ∀ b o, b ≠ S → h.get? b = some o → h'.get? b = some o) : ZSt z TI TO i1 i2 l1 l2 S xs ys i h' := by
 obtain ⟨hTI, h1, h2, hl1, hl2, ⟨oTO, hto⟩, hz⟩ := st
 obtain ⟨dz, dTI, dTO, di1, di2, dl1, dl2⟩ := dS
 refine ⟨hk _ _ (Ne.symm dTI) hTI, h1.at fun o e => hk _ o (Ne.symm di1) e, h2.at fun o e => hk _ o (Ne.symm di2) e, hl1.at fun o e => hk _ o (Ne.symm dl1) e, hl2.at fun o e => hk _ o (Ne.symm dl2) e, ⟨oTO, hk _ _ (Ne.symm dTO) hto⟩, ?_⟩
 rcases hz with ⟨hz, a, b, hTO⟩ | ⟨T, f, oT, hz, hT, r1, r2, r3, r4⟩
 ·exact .inl ⟨hk _ _ (Ne.symm dz) hz, a, b, hk _ _ (Ne.symm dTO) hTO⟩
 ·exact .inr ⟨T, f, oT, hk _ _ (Ne.symm dz) hz, hk _ _ r4 hT, r1, r2, r3, r4⟩
theorem ZSt.item {x y : Value} {Q : Option Value → Shared → Prop} (st : ZSt z TI TO i1 i2 l1 l2 S xs ys i s.heap) (D : ZipApart z TI TO i1 i2 l1 l2) (hS : S < s.heap.objs.size) (ex : xs[i]? = some x) (ey : ys[i]? = some y)
  (hQ : ∀ h', IsPair h' s.heap.objs.size x y → ZSt z TI TO i1 i2 l1 l2 S xs ys (i + 1) h' → (∀ b o, b ∉ [z, TI, TO, i1, i2] → s.heap.get? b = some o → h'.get? b = some o) → Q (some (.ref s.heap.objs.size)) { s with heap := h' }) :
  wpAny (model prog w) A (pyNext (.ref z)) Q E s := by
 obtain ⟨hTI, h1, h2, hl1, hl2, ⟨oTO, hto⟩, hz⟩ := st
 have lt : ∀ {c o}, s.heap.get? c = some o → s.heap.objs.size ≠ c := fun e => Nat.ne_of_gt (Heap.lt_size e)
 have n1 : s.heap.objs.size ≠ i1 := let ⟨_, e, _⟩ := h1; lt e
 have n2 : s.heap.objs.size ≠ i2 := let ⟨_, e, _⟩ := h2; lt e
 rcases hz with ⟨hz, a, b, hTO⟩ | ⟨T, f, oT, hz, hT, r1, r2, r3, r4⟩
 ·refine wpAny_pyNext_zip_item D hz hTI hTO h1 h2 hl1 hl2 ex ey fun h' a1 a2 a3 a4 a5 a6 hk => ?_
  exact hQ h' a5 ⟨hk _ _ D.TIz D.TITO D.TIi1 D.TIi2 hTI, a3, a4, hl1.at fun o e => hk _ o D.l1z D.l1TO D.l1i1 D.l1i2 e, hl2.at fun o e => hk _ o D.l2z D.l2TO D.l2i1 D.l2i2 e, ⟨_, a2⟩,
    .inr ⟨s.heap.objs.size, false, _, a1, a5, lt hz, n1, n2, Nat.ne_of_gt hS⟩⟩
   fun c o hc e => hk c o (fun x => hc (by simp [x])) (fun x => hc (by simp [x])) (fun x => hc (by simp [x])) (fun x => hc (by simp [x])) e
 ·refine wpAny_pyNext_zip_item_held D hz hT hTI h1 h2 hl1 hl2 ex ey fun h' a1 a3 a4 a5 a6 hk => ?_
  exact hQ h' a5 ⟨hk _ _ D.TIz D.TIi1 D.TIi2 hTI, a3, a4, hl1.at fun o e => hk _ o D.l1z D.l1i1 D.l1i2 e, hl2.at fun o e => hk _ o D.l2z D.l2i1 D.l2i2 e, ⟨oTO, hk _ _ D.TOz D.TOi1 D.TOi2 hto⟩,
    .inr ⟨T, true, oT, a1, hk _ _ r1 r2 r3 hT, r1, r2, r3, r4⟩⟩
   fun c o hc e => hk c o (fun x => hc (by simp [x])) (fun x => hc (by simp [x])) (fun x => hc (by simp [x])) e
theorem ZSt.done {Q : Option Value → Shared → Prop} (st : ZSt z TI TO i1 i2 l1 l2 S xs ys i s.heap) (D : ZipApart z TI TO i1 i2 l1 l2) (hh : A.handled = none) (hend : xs[i]? = none ∨ ys[i]? = none)
  (hQ : ∀ h', (∀ b o, b ∉ [z, TI, TO, i1, i2] → s.heap.get? b = some o → h'.get? b = some o) → Q none { s with heap := h' }) :
  wpAny (model prog w) A (pyNext (.ref z)) Q E s := by
 obtain ⟨hTI, h1, h2, hl1, hl2, ⟨oTO, hto⟩, hz⟩ := st
 rcases hz with ⟨hz, a, b, hTO⟩ | ⟨T, f, oT, hz, hT, r1, r2, r3, r4⟩
 ·exact wpAny_pyNext_zip_end hh D hz hTI hTO h1 h2 hl1 hl2 hend fun h' hk => hQ h' fun c o hc e => hk c o (fun x => hc (by simp [x])) (fun x => hc (by simp [x])) (fun x => hc (by simp [x])) (fun x => hc (by simp [x])) e
 ·exact wpAny_pyNext_zip_end_held hh D hz hT hTI h1 h2 hl1 hl2 hend fun h' hk => hQ h' fun c o hc e => hk c o (fun x => hc (by simp [x])) (fun x => hc (by simp [x])) (fun x => hc (by simp [x])) e
end
end Z
namespace Z
open PySem PySem.Spec L2
open PyProof.Rows hiding St
end Z
namespace Z
open PySem PySem.Spec L2
open PyProof.Rows hiding St
end Z
namespace Z
open PySem PySem.Spec L2
open PyProof.Rows hiding St
section
variable {X : Cx} {T : List (Addr × Str)} {e a b o : Expr} {es : List Expr} {te ta tb ti : TEp} {t : TAbp} {pos p : Pos} {i : Nat} {x : Str}
theorem gr_same {H H' : Hp} (s : Same H H') : Gr H H' := ⟨fun b o h _ => s b o h, fun b n z => n fun o e => z o (s b o e)⟩
def tCBBP (r : R1p) (t : TAbp) : TEp := fun η P => t η fun abs η1 => ∃ args, fillB η1 abs = some args ∧ r args fun z => tpV z = true ∧ P z η1
theorem z_callBB {id : String} {r : R1p} (hc : CallR X (.builtin id) (r1 X.K r)) (hg : Gl X x) (hm : X.mg x = none) (hv : bootBuiltins x = some (.builtin id)) (ha : PA X (e :: es) (upAB X.K T t)) (hn : x ≠ "__name__" := by decide) (hdb : (x == ("__debug__" : Str)) = false := by decide)
  (he : starEach (e :: es) X.env = (false, eval e X.env) :: starEach es X.env := by rfl) (hpl : (backTo pos (starEach es X.env)).any (·.1) = false := by rfl) : PE X (.Call (.Name x p) (e :: es) [] pos) (up X.K T (tCBBP r t)) := by
 refine PE.weak (pe_callB hc hg hm hv ha hn hdb he hpl) fun σ H Q q => ?_
 obtain ⟨F, η, P, R, h, k⟩ := q
 refine ⟨F, η, _, R, h, fun abs η1 vs H1 h1 e1 R1 r1 => ?_⟩
 obtain ⟨args, hf, h1⟩ := h1
 refine ⟨fun b => Oof F σ η1 b ∧ ¬ Bor σ abs b, args, _, fun b z => R1.trO b z.1, fill_rep R1 (fun _ h => h) hf r1, h1, fun z u H3 pz s rz => ?_⟩
 exact k z η1 u H3 pz.2 (e1.trans (.same s)) (R1.same s) (tpV_back (fun a z n vs => bor_tup R1 hf (gr_same s) (Classical.byContradiction fun q => n ⟨z, q⟩) vs) z u pz.1 rz)
end
abbrev TOp' := EP' → (Ow → EP' → Prop) → Prop
section
variable {X : Cx} {T : List (Addr × Str)} {e : Expr} {st : Stmt} {rest : List Stmt} {t1 : TSp} {tf : TOp'} {pos : Pos} {i : Nat}
end
section
variable {η : EP'} {Q : PV → EP' → Prop} {QA : List PV → EP' → Prop} {QB : Bool → EP' → Prop} {PO : Ow → EP' → Prop} {te ti : TEp} {t : TAp} {tB : TAbp} {i : Nat} {r : R2p} {r1 : R1p}
theorem w_cbb (h : tB η fun abs η1 => ∃ args, fillB η1 abs = some args ∧ r1 args fun z => tpV z = true ∧ Q z η1) : tCBBP r1 tB η Q := h
end
end Z
namespace Z
open PySem PySem.Spec L2
open PyProof.Rows hiding St
section
variable {K : PySem.W.Frag} {O : Addr → Prop} {H : Hp}
theorem RepD.get : ∀ {xs : List (Key × PV)} {vs : List (Key × V)} {j : Nat} {p : Key × PV}, RepD K O H xs vs → xs[j]? = some p → ∃ v, vs[j]? = some (p.1, v)
 | [], _, j, p, h, e => by simp at e
 | (n, x) :: xs, _, 0, p, h, e => by
  obtain ⟨v, us, rfl, r, t⟩ := h.inv
  simp at e
  exact ⟨v, by rw [← e]; rfl⟩
 | (n, x) :: xs, _, j + 1, p, h, e => by
  obtain ⟨v, us, rfl, r, t⟩ := h.inv
  simpa using t.get (by simpa using e)
end
end Z
namespace Z
open PySem PySem.Spec L2
end Z
namespace Z
open PySem PySem.Spec L2
open PyProof.Rows hiding St
end Z
namespace Z
open PySem PySem.Spec L2
open PyProof.Rows hiding St
end Z
namespace Z
open PySem PySem.Spec L2
open PyProof.Rows hiding St
end Z
namespace Z
open PySem PySem.Spec L2
open PyProof.Rows hiding St
end Z
namespace Z
open PySem PySem.Spec L2
open PyProof.Rows hiding St
variable {X : Cx}
end Z
namespace Z
open PySem PySem.Spec L2
open PyProof.Rows hiding St
end Z
namespace Z
open PySem PySem.Spec L2
open PyProof.Rows hiding St
end Z
namespace Z
open PySem PySem.Spec L2 GenW
open PyProof.Rows hiding St
end Z
namespace Z
open PySem PySem.Spec L2 GenW
open PyProof.Rows hiding St
end Z
namespace Z
open PySem PySem.Spec L2
open PyProof.Rows hiding St
end Z
namespace Z
open PySem PySem.Spec L2
open PyProof.Rows hiding St
end Z
namespace Z
open PySem PySem.Spec L2
open PyProof.Rows hiding St
end Z
namespace Z
open PySem PySem.Spec L2
open PyProof.Rows hiding St
end Z
namespace Z
open PySem PySem.Spec L2
open PyProof.Rows hiding St
section
variable {X : Cx} {T : List (Addr × Str)} {e o a b : Expr} {es : List Expr} {te ti : TEp} {i : Nat} {pos : Pos}
def tOpLP (r : R2p) (i : Nat) (te : TEp) : TEp := fun η P => (∃ o, η[i]? = some (Sl.ow o)) ∧ te η fun y η1 => ∃ o, η1[i]? = some (Sl.ow o) ∧ r (frz o) y fun z => ∃ b, z = .bl b ∧ P (.bl b) η1
theorem opL_up {r : R2p} {K : PySem.W.Frag} {σ : St} {H : Hp} {Q : VK} (q : up K T (tOpLP r i te) σ H Q) : tOp (r2 K r) (tVar i) (up K T te) σ H Q := by
 obtain ⟨F, η, P, R, ⟨⟨o0, ho⟩, h⟩, k⟩ := q
 obtain ⟨a, hs, w0, nf0⟩ := R.ow i o0 ho
 refine ⟨.ref a, hs, F, η, _, R, h, fun y η1 u H1 h1 e1 R1 r1 => ?_⟩
 obtain ⟨o, eo, h1⟩ := h1
 obtain ⟨a', hs', w, nf⟩ := R1.ow i o eo
 rw [hs] at hs'; cases hs'
 refine ⟨fun c => Oof F σ η1 c ∧ c ≠ a, frz o, y, _, fun b z => R1.trO b z.1, (w.mono fun b z => z.1).frz fun z => z.2 rfl, r1.mono fun b z => z.1, h1, fun z u H3 pz s rz => ?_⟩
 obtain ⟨b, rfl, pz⟩ := pz
 exact k _ η1 _ _ pz (e1.trans (.same s)) (R1.same s) (by unfold Rep at rz ⊢; exact rz)
theorem zt_opL {op : CmpOp} {r : R2p} (ho : OpR X (compareOp op) (r2 X.K r)) (ha : PE X a (tVar i)) (hb : PE X b (up X.K T te)) (hm : behindInMarks op b = false := by first | exact nomark _ | rfl) : PT X (.Compare a [op] [b] pos) (upB X.K T (tBlP (tOpLP r i te))) := by
 refine PT.weak (pt_cmpR ho ha hb hm) fun σ H Q q => ?_
 obtain ⟨F, η, P, R, h, k⟩ := q
 refine opL_up (Q := fun x H' => ∃ k, x = .bl k ∧ Q k H') ⟨F, η, _, R, h, fun z η1 v H1 h1 e1 R1 rz => ?_⟩
 split at h1
 ·unfold Rep at rz
  exact ⟨_, rz, k _ η1 H1 h1 e1 R1⟩
 ·cases h1
end
end Z
namespace Z
open PySem PySem.Spec L2
open PyProof.Rows hiding St
abbrev WZ := Addr → List (Str × PV) → EP' → Prop
abbrev WC := Addr → List (Str × PV) → Prop
def XAt (K : PySem.W.Frag) (O : Addr → Prop) (H : Hp) (d : Option Addr) (fs : List (Str × PV)) : Prop :=
 (fs = [] ∧ d = none) ∨ ∃ x ws, d = some x ∧ ¬ O x ∧ H x = some (.xd ws) ∧ RepF K O H fs ws
abbrev WXs := Value → Option Addr → St → Hp → Prop
def XCn (K : PySem.W.Frag) (T : List (Addr × Str)) (W : WXs) (F : Addr → Prop) (σ : St) (η : EP') (H : Hp) (Zw : WZ) : Prop :=
 ∀ C fs η' d σ' H', Zw C fs η' → Ext σ η σ' η' H H' → Rs K T F σ' η' H' → XAt K (Oof F σ' η') H' d fs → W (.ref C) d σ' H'
abbrev TXp := EP' → (PV → EP' → Prop) → WZ → Prop
abbrev TSX := EndsP → WZ → EP' → Prop
def upX (K : PySem.W.Frag) (T : List (Addr × Str)) (W : WXs) (tp : TXp) : TE := fun σ H Q => ∃ F η P Zw, Rs K T F σ η H ∧ tp η P Zw ∧
 (∀ x η' v H', P x η' → Ext σ η σ η' H H' → Rs K T F σ η' H' → Rep K (Oof F σ η') H' x v → Q v H') ∧ XCn K T W F σ η H Zw
def upSX (K : PySem.W.Frag) (T : List (Addr × Str)) (W : WXs) (ts : TSX) : TS := fun D σ H => ∃ F η D' Zw, Rs K T F σ η H ∧ ts D' Zw η ∧
 (∀ η' σ' H', D'.nx η' → Ext σ η σ' η' H H' → Rs K T F σ' η' H' → D.nx σ' H') ∧
 (∀ η' σ' H', D'.bk η' → Ext σ η σ' η' H H' → Rs K T F σ' η' H' → D.bk σ' H') ∧
 (∀ η' σ' H', D'.ct η' → Ext σ η σ' η' H H' → Rs K T F σ' η' H' → D.ct σ' H') ∧
 (∀ x η' σ' v H', D'.rt x η' → Ext σ η σ' η' H H' → Rs K T F σ' η' H' → Rep K (Oof F σ' η') H' x v → D.rt v H') ∧ XCn K T W F σ η H Zw
section
variable {X : Cx} {K : PySem.W.Frag} {T : List (Addr × Str)} {W : WXs} {F : Addr → Prop} {σ σ1 : St} {η η1 : EP'} {H H1 : Hp} {Zw : WZ} {e o : Expr} {es : List Expr} {te : TXp} {t : TAp} {pos : Pos} {st : Stmt} {rest : List Stmt} {t1 t2 : TSX} {u1 u2 : TSp}
theorem XCn.ext (c : XCn K T W F σ η H Zw) (e : Ext σ η σ1 η1 H H1) : XCn K T W F σ1 η1 H1 Zw := fun C fs η' d σ' H' z e2 R x => c C fs η' d σ' H' z (e.trans e2) R x
def tPlX (t : TSp) : TSX := fun D _ η => t D η
theorem zx_pl (h : PS X st (upS X.K T u1)) : PS X st (upSX X.K T W (tPlX u1)) := PS.weak h fun D σ H q => by
 obtain ⟨F, η, D', Zw, R, h, k1, k2, k3, k4, kx⟩ := q
 exact ⟨F, η, D', R, h, k1, k2, k3, k4⟩
theorem zxs_pl {sts : List Stmt} (h : PSs X sts (upS X.K T u1)) : PSs X sts (upSX X.K T W (tPlX u1)) := PSs.weak h fun D σ H q => by
 obtain ⟨F, η, D', Zw, R, h, k1, k2, k3, k4, kx⟩ := q
 exact ⟨F, η, D', R, h, k1, k2, k3, k4⟩
def tSeqX (t u : TSX) : TSX := fun D Zw η => t { D with nx := fun η' => u D Zw η' } Zw η
theorem zxs_cons (h1 : PS X st (upSX X.K T W t1)) (h2 : PSs X rest (upSX X.K T W t2)) : PSs X (st :: rest) (upSX X.K T W (tSeqX t1 t2)) := by
 refine PSs.weak (pss_cons h1 h2) fun D σ H q => ?_
 obtain ⟨F, η, D', Zw, R, h, k1, k2, k3, k4, kx⟩ := q
 refine ⟨F, η, _, Zw, R, h, fun η' σ' H' q e1 R1 => ?_, k2, k3, k4, kx⟩
 exact ⟨F, η', D', Zw, R1, q, fun η'' σ'' H'' q' e2 R2 => k1 _ _ _ q' (e1.trans e2) R2, fun η'' σ'' H'' q' e2 R2 => k2 _ _ _ q' (e1.trans e2) R2, fun η'' σ'' H'' q' e2 R2 => k3 _ _ _ q' (e1.trans e2) R2, fun x η'' σ'' v H'' q' e2 R2 r => k4 _ _ _ _ _ q' (e1.trans e2) R2 r, kx.ext e1⟩
theorem zxs_one (h1 : PS X st (upSX X.K T W t1)) : PSs X [st] (upSX X.K T W t1) := pss_one h1
def tIfX (c : TTp) (t u : TSX) : TSX := fun D Zw η => c η fun b η1 => if b = true then t D Zw η1 else u D Zw η1
theorem zx_if {c : Expr} {a b : List Stmt} {tc : TTp} (hc : PT X c (upB X.K T tc)) (ha : PSs X a (upSX X.K T W t1)) (hb : PSs X b (upSX X.K T W t2)) : PS X (.If c a b pos) (upSX X.K T W (tIfX tc t1 t2)) := by
 refine PS.weak (ps_if hc ha hb) fun D σ H q => ?_
 obtain ⟨F, η, D', Zw, R, h, k1, k2, k3, k4, kx⟩ := q
 refine ⟨F, η, _, R, h, fun x η1 H1 h1 e1 R1 => ?_⟩
 cases x with
 | true =>
  simp only [if_true] at h1 ⊢
  exact ⟨F, η1, D', Zw, R1, h1, fun η'' σ'' H'' q' e2 R2 => k1 _ _ _ q' (e1.trans e2) R2, fun η'' σ'' H'' q' e2 R2 => k2 _ _ _ q' (e1.trans e2) R2, fun η'' σ'' H'' q' e2 R2 => k3 _ _ _ q' (e1.trans e2) R2, fun x η'' σ'' v H'' q' e2 R2 r => k4 _ _ _ _ _ q' (e1.trans e2) R2 r, kx.ext e1⟩
 | false =>
  simp only [Bool.false_eq_true, if_false] at h1 ⊢
  exact ⟨F, η1, D', Zw, R1, h1, fun η'' σ'' H'' q' e2 R2 => k1 _ _ _ q' (e1.trans e2) R2, fun η'' σ'' H'' q' e2 R2 => k2 _ _ _ q' (e1.trans e2) R2, fun η'' σ'' H'' q' e2 R2 => k3 _ _ _ q' (e1.trans e2) R2, fun x η'' σ'' v H'' q' e2 R2 r => k4 _ _ _ _ _ q' (e1.trans e2) R2 r, kx.ext e1⟩
def tExX (te : TXp) : TSX := fun D Zw η => te η (fun _ η1 => D.nx η1) Zw
theorem zx_expr (he : PE X e (upX X.K T W te)) (hs : swapsWith e none pos.line X.env = pure false := by rfl) : PS X (.Expr e pos) (upSX X.K T W (tExX te)) := by
 refine PS.weak (ps_expr he hs) fun D σ H q => ?_
 obtain ⟨F, η, D', Zw, R, h, k1, k2, k3, k4, kx⟩ := q
 exact ⟨F, η, _, Zw, R, h, fun x η1 v H1 h1 e1 R1 _ => k1 _ _ _ h1 e1 R1, kx⟩
def tRetX (te : TXp) : TSX := fun D Zw η => te η D.rt Zw
theorem zx_ret (he : PE X e (upX X.K T W te)) : PS X (.Return (some e) pos) (upSX X.K T W (tRetX te)) := by
 refine PS.weak (ps_ret he) fun D σ H q => ?_
 obtain ⟨F, η, D', Zw, R, h, k1, k2, k3, k4, kx⟩ := q
 exact ⟨F, η, _, Zw, R, h, fun x η1 v H1 h1 e1 R1 r => k4 _ _ _ _ _ h1 e1 R1 r, kx⟩
end
abbrev SpX := List PV → (PV → Prop) → WC → Prop
def upSpX (K : PySem.W.Frag) (T : List (Addr × Str)) (sp : SpX) : Sp := fun vs H Q E => ∃ F args P Zw, Trk F H ∧ LamX.Tabs T H ∧ Reps K F H args vs ∧ sp args P Zw ∧
 (∀ x v H', P x → Gr H H' → LamX.Tabs T H' → Rep K F H' x v → Q v H') ∧ (∀ C fs d H', Zw C fs → Gr H H' → LamX.Tabs T H' → XAt K F H' d fs → E (.ref C) d H')
abbrev SpRX := Ow → List PV → (PV → Ow → Prop) → WC → Prop
def upSpRX (K : PySem.W.Frag) (T : List (Addr × Str)) (sp : SpRX) : Sp := fun vs H Q E => ∃ F a ws o args P Zw, vs = .ref a :: ws ∧ ¬ F a ∧ Trk F H ∧ LamX.Tabs T H ∧ OwAt K (With F a) H a o ∧ Reps K (With F a) H args ws ∧ sp o args P Zw ∧
 (∀ x o' v H', P x o' → GrB a H H' → LamX.Tabs T H' → OwAt K (With F a) H' a o' → Rep K (With F a) H' x v → Q v H') ∧ (∀ C fs d H', Zw C fs → GrB a H H' → LamX.Tabs T H' → XAt K F H' d fs → E (.ref C) d H')
section
variable {K : PySem.W.Frag} {T : List (Addr × Str)} {F : Addr → Prop} {H H' : Hp}
theorem XAt.mono {O O' : Addr → Prop} {d : Option Addr} {fs : List (Str × PV)} (h : ∀ a, O' a → O a) (x : XAt K O H d fs) : XAt K O' H d fs := by
 rcases x with x | ⟨a, ws, e, n, q, r⟩
 ·exact .inl x
 ·exact .inr ⟨a, ws, e, fun z => n (h a z), q, r.mono h⟩
theorem body_spX {N : List Str} {sp : SpX} {ts : TSX} {vs : List V} {Q : VK} {E : XK} (h : upSpX K T sp vs H Q E) (hl : ∀ args P Zw, sp args P Zw → args.length ≤ N.length)
  (rd : ∀ args P Zw, sp args P Zw → ts { nx := fun _ => P .non, rt := fun x _ => P x } (fun C fs _ => Zw C fs) (startP N.length args)) :
  upSX K T (fun cls d _ H' => E cls d H') ts { nx := fun _ H' => Q .non H', rt := Q } (start N vs) H := by
 obtain ⟨F, args, P, Zw, tr, tb, r, hs, k, kx⟩ := h
 have R := rs_start (N := N) tr tb r (hl _ _ _ hs)
 have gr : ∀ {σ' η' H'}, Ext (start N vs) (startP N.length args) σ' η' H H' → Gr H H' := fun e => ⟨fun b o h t => e.keep b o h startP_noown t, e.live⟩
 refine ⟨F, _, _, _, R, rd args P Zw hs, fun η' σ' H' q e R' => ?_, fun _ _ _ q => q.elim, fun _ _ _ q => q.elim, fun x η' σ' v H' q e R' r' => ?_, fun C fs η' d σ' H' z e R' x => ?_⟩
 ·exact k _ _ _ q (gr e) R'.tb rep_non
 ·exact k _ _ _ q (gr e) R'.tb (r'.mono fun b z => .inl z)
 ·exact kx _ _ _ _ z (gr e) R'.tb (x.mono fun b z => .inl z)
theorem body_spRX {nm : Str} {N : List Str} {sp : SpRX} {ts : TSX} {vs : List V} {Q : VK} {E : XK} (h : upSpRX K T sp vs H Q E) (hl : ∀ o args P Zw, sp o args P Zw → args.length ≤ N.length)
  (rd : ∀ o args P Zw, sp o args P Zw → ts { nx := fun η' => ∃ o', η'[0]? = some (Sl.ow o') ∧ P .non o', rt := fun x η' => ∃ o', η'[0]? = some (Sl.ow o') ∧ P x o' } (fun C fs _ => Zw C fs) (startR (N.length + 1) o args)) :
  upSX K T (fun cls d _ H' => E cls d H') ts { nx := fun _ H' => Q .non H', rt := Q } (start (nm :: N) vs) H := by
 obtain ⟨F, a, ws, o, args, P, Zw, rfl, nf, tr, tb, ho, r, hs, k, kx⟩ := h
 obtain ⟨R, own⟩ := rs_startR (x := nm) (N := N) nf tr tb ho r (hl _ _ _ _ hs)
 have fin : ∀ {η' σ' H' x v}, (∃ o', η'[0]? = some (Sl.ow o') ∧ P x o') → Ext (start (nm :: N) (.ref a :: ws)) (startR (N.length + 1) o args) σ' η' H H' → Rs K T F σ' η' H' → Rep K (Oof F σ' η') H' x v → Q v H' := by
  intro η' σ' H' x v q e R' r'
  obtain ⟨o', e0, p⟩ := q
  obtain ⟨p1, q1, q2⟩ := e.fst o' e0
  obtain ⟨b, s1, s2, s3⟩ := R'.ow 0 o' e0
  have hb : b = a := by
   rw [q2] at s1
   have : (start (nm :: N) (V.ref a :: ws))[0]? = some (some (V.ref a)) := by unfold L2.start; simp
   rw [this] at s1; cases s1; rfl
  subst hb
  have m : ∀ c, With F b c → Oof F σ' η' c := fun c z => z.elim .inl fun z => .inr (by rw [z]; exact ⟨0, o', s1, e0⟩)
  exact k x o' v H' p ⟨fun c u n h t => e.keep c u h (fun z => n (own c z)) t, e.live⟩ R'.tb (s2.mono m) (r'.mono m)
 exact ⟨F, _, _, _, R, rd o args P Zw hs, fun η' σ' H' q e R' => fin q e R' rep_non, fun _ _ _ q => q.elim, fun _ _ _ q => q.elim, fun x η' σ' v H' q e R' r' => fin q e R' r',
  fun C fs η' d σ' H' z e R' x => kx _ _ _ _ z ⟨fun c u n h t => e.keep c u h (fun z => n (own c z)) t, e.live⟩ R'.tb (x.mono fun b z => .inl z)⟩
theorem len_spX {ps : List Str} {sp : SpX} (hl : ∀ args P Zw, sp args P Zw → args.length = ps.length) : ∀ vs H Q E, upSpX K T sp vs H Q E → vs.length = ps.length := fun vs H Q E h => by
 obtain ⟨F, args, P, Zw, _, _, r, hs, _⟩ := h
 rw [r.len, hl _ _ _ hs]
theorem len_spRX {p : Str} {ps : List Str} {sp : SpRX} (hl : ∀ o args P Zw, sp o args P Zw → args.length = ps.length) : ∀ vs H Q E, upSpRX K T sp vs H Q E → vs.length = (p :: ps).length := fun vs H Q E h => by
 obtain ⟨F, a, ws, o, args, P, Zw, rfl, _, _, _, _, r, hs, _⟩ := h
 rw [List.length_cons, r.len, hl _ _ _ _ hs]; rfl
end
end Z
namespace L2N
open PySem PySem.Spec PyProof.Rows L2
theorem takes0 {X : Cx} : L2N.Takes X (fun _ _ _ _ => False) := fun _ _ x => by
 obtain ⟨_, _, _, _, _, _, _, _, _, _, _, _, _, _, _, _, z⟩ := x
 exact z.elim
end L2N
namespace Z
open PySem PySem.Spec L2
open PyProof.Rows hiding St
section
variable {P : Program} {w : World} {K : PySem.W.Frag} {mg : Str → Option Value} {base : Heap} {T : List (Addr × Str)}
theorem okXP {x qual : Str} {st : Stmt} {f : Addr} {fd : FuncData} {N ps : List Str} {k : Nat} {sp : SpX} (Fn : Fun K x qual st f fd) (S : FnScope N ps (defScope st)) (hl : ∀ args P Zw, sp args P Zw → args.length = ps.length) (hn : ps.length ≤ N.length)
  (hbody : ∀ (cdv : Value) (A : Around) (outer : List Env) (s : Shared) (H : Hp) (E : XK), Room k (A.deeper (envOfC qual (defScope st) s.heap.objs.size f cdv)) → L2N.Takes (cxOf (L2N.CX P w) P w K mg base N qual (defScope st) f cdv A outer s H E) (fun cls d _ H' => E cls d H') →
   PassesOwn (model P w) (cxOf (L2N.CX P w) P w K mg base N qual (defScope st) f cdv A outer s H E).A (cxOf (L2N.CX P w) P w K mg base N qual (defScope st) f cdv A outer s H E).env (cxOf (L2N.CX P w) P w K mg base N qual (defScope st) f cdv A outer s H E).xe →
   ∃ ts, PSs (cxOf (L2N.CX P w) P w K mg base N qual (defScope st) f cdv A outer s H E) (defBody st) (upSX K T (fun cls d _ H' => E cls d H') ts) ∧
    ∀ args P Zw, sp args P Zw → ts { nx := fun _ => P .non, rt := fun x _ => P x } (fun C fs _ => Zw C fs) (startP N.length args)) :
  FnOk P w K mg base (L2N.CX P w) (k + 1) f fd ps (upSpX K T sp) := by
 obtain ⟨oc, od, kV, doc, pm, an, cdv, ct, osl, rfl, lk, hcd⟩ := Fn.ex
 refine fn_of lk hcd S (len_spX hl) fun A outer s H vs Q E hr h => ?_
 obtain ⟨ts, d, rd⟩ := hbody cdv A outer s H E hr (L2N.takes_of rfl rfl rfl rfl) PassesOwn.leaving
 exact ⟨_, d, body_spX h (fun args P Zw hs => by rw [hl _ _ _ hs]; exact hn) rd⟩
theorem okXRX {x qual : Str} {st : Stmt} {f c : Addr} {fd : FuncData} {dvs : List V} {nm : Str} {N ps : List Str} {k : Nat} {sp : SpRX} (Fn : FunX K x qual st dvs c f fd) (S : FnScope (nm :: N) (nm :: ps) (defScope st)) (hl : ∀ o args P Zw, sp o args P Zw → args.length = ps.length) (hn : ps.length ≤ N.length)
  (hbody : ∀ (A : Around) (outer : List Env) (s : Shared) (H : Hp) (E : XK), Room k (A.deeper (envOfC qual (defScope st) s.heap.objs.size f (.ref c))) → L2N.Takes (cxOf (L2N.CX P w) P w K mg base (nm :: N) qual (defScope st) f (.ref c) A outer s H E) (fun cls d _ H' => E cls d H') →
   PassesOwn (model P w) (cxOf (L2N.CX P w) P w K mg base (nm :: N) qual (defScope st) f (.ref c) A outer s H E).A (cxOf (L2N.CX P w) P w K mg base (nm :: N) qual (defScope st) f (.ref c) A outer s H E).env (cxOf (L2N.CX P w) P w K mg base (nm :: N) qual (defScope st) f (.ref c) A outer s H E).xe →
   ∃ ts, PSs (cxOf (L2N.CX P w) P w K mg base (nm :: N) qual (defScope st) f (.ref c) A outer s H E) (defBody st) (upSX K T (fun cls d _ H' => E cls d H') ts) ∧
    ∀ o args P Zw, sp o args P Zw → ts { nx := fun η' => ∃ o', η'[0]? = some (Sl.ow o') ∧ P .non o', rt := fun x η' => ∃ o', η'[0]? = some (Sl.ow o') ∧ P x o' } (fun C fs _ => Zw C fs) (startR (N.length + 1) o args)) :
  FnOk P w K mg base (L2N.CX P w) (k + 1) f fd (nm :: ps) (upSpRX K T sp) := by
 obtain ⟨oc, od, dV, kV, doc, pm, an, ct, osl, rfl, lk, hcd, _⟩ := Fn.ex
 refine fn_of lk hcd S (len_spRX hl) fun A outer s H vs Q E hr h => ?_
 obtain ⟨ts, d, rd⟩ := hbody A outer s H E hr (L2N.takes_of rfl rfl rfl rfl) PassesOwn.leaving
 exact ⟨_, d, body_spRX h (fun o args P Zw hs => by rw [hl _ _ _ _ hs]; exact hn) rd⟩
end
section
variable {X : Cx} {T : List (Addr × Str)} {W : WXs} {a b e o : Expr} {es : List Expr} {te ta tb : TEp} {t : TAp} {tf : TFp} {pos p apos : Pos} {k : Nat} {f C : Addr} {fd : FuncData} {ps : List Str} {sp : SpX} {sr : SpRX} {x m : Str}
def tCallX (sp : SpX) (dps : List PV) (t : TAp) : TXp := fun η P Zw => t η fun args η1 => sp (args ++ dps) (fun z => P z η1) fun C fs => Zw C fs η1
theorem call_upX {K : PySem.W.Frag} {σ : St} {H : Hp} {Q : VK} {dps : List PV} {dvs : List V} (hd : ∀ O H, Reps K O H dps dvs) (q : upX K T W (tCallX sp dps t) σ H Q) : tCallSD (upSpX K T sp) dvs (WE W) (upA K T t) σ H Q := by
 obtain ⟨F, η, P, Zw, R, h, k, kx⟩ := q
 refine ⟨F, η, _, R, h, fun args η1 vs H1 h1 e1 R1 r1 => ?_⟩
 exact ⟨Oof F σ η1, _, _, _, R1.trO, R1.tb, r1.app (hd _ _), h1, fun z v H2 pz g tb rz => k z η1 v H2 pz (e1.trans g.ext) (R1.gr g tb) rz, fun C fs d H2 z g tb x => kx C fs η1 d σ H2 z (e1.trans g.ext) (R1.gr g tb) x⟩
theorem zx_call (Fn : FnOk X.prog X.w X.K X.mg X.base (L2N.CX X.prog X.w) k f fd ps (upSpX X.K T sp)) (tk : L2N.Takes X W) (hr : Room k X.A) (hg : Gl X x) (hm : X.mg x = some (.ref f)) (hk : PySem.W.keepIn X.K (.ref f) = true) {dvs : List V} {ds : List Value} {dps : List PV} (hb : Binds X.K fd ps ds) (hd : Vals dvs ds) (hp : ∀ O H, Reps X.K O H dps dvs)
  (ha : PA X (e :: es) (upA X.K T t)) (hdb : (x == ("__debug__" : Str)) = false := by decide) (he : starEach (e :: es) X.env = (false, eval e X.env) :: starEach es X.env := by rfl) (hpl : (backTo pos (starEach es X.env)).any (·.1) = false := by rfl) :
  PE X (.Call (.Name x p) (e :: es) [] pos) (upX X.K T W (tCallX sp dps t)) :=
 PE.weak (pe_callSD Fn hr hg hm hk hb hd (L2N.passAt tk) ha hdb he hpl) fun σ H Q q => call_upX hp q
def tNoX (te : TXp) : TEp := fun η P => te η P fun _ _ _ => False
theorem z_nox {te : TXp} (h : PE X e (upX X.K T (fun _ _ _ _ => False) te)) : PE X e (up X.K T (tNoX te)) := PE.weak h fun σ H Q q => by
 obtain ⟨F, η, P, R, h, k⟩ := q
 exact ⟨F, η, P, _, R, h, k, fun C fs η' d σ' H' z _ _ _ => z⟩
theorem run_makeSD {pins : List (Addr × Obj)} {σ : St} {H : Hp} {s : Shared} {Q : VK} {us : List Value} {vs dvs : List V} {ds : List Value} {S : Sp} {E : XK} (M : Mk X.K C f) (Fn : FnOk X.prog X.w X.K X.mg X.base (L2N.CX X.prog X.w) k f fd ps S) (hr : Room (k + 1) X.A) (hb : Binds X.K fd ps ds) (hd : Vals dvs ds)
  (hx : ∀ (H : Hp) (s : Shared) (e : Value) (s' : Shared), Inv X pins σ H s → L2N.CX X.prog X.w X.stack H s E e s' → X.xe e s') (I : Inv X pins σ H s) (r : Vals vs us)
  (h : ∀ x dx, H x = none → H dx = none → dx ≠ x → S (.ref x :: (vs ++ dvs)) (upd (upd H dx (.own x)) x (.ins C dx [])) (fun v H2 => v = .non ∧ Q (.ref x) H2) E) :
  wpAny (model X.prog X.w) X.A (call (.ref C) us) (EP X pins σ Q) X.xe s := by
 have hq := h (s.heap.objs.size + 1) s.heap.objs.size (I.hok.fresh (Nat.le_succ _)) (I.hok.fresh (Nat.le_refl _)) (Nat.ne_of_lt (Nat.lt_succ_self _))
 have I2 := Inv.made (C := C) I
 have r2 : Vals (V.ref (s.heap.objs.size + 1) :: (vs ++ dvs)) (Value.ref (s.heap.objs.size + 1) :: (us ++ ds)) := .cons rfl (r.append hd)
 have hl : (Value.ref (s.heap.objs.size + 1) :: us ++ ds).length = ps.length := by
  have e := r2.length
  rw [Fn.len _ _ _ _ hq] at e
  exact e.symm
 refine wpAny_call (make_map (f := f) I.kIn M.makes M.init (beq_iff_eq.mp M.fn) (codeAny_mono (Fn.run _ X.stack _ _ ⟨Value.ref (s.heap.objs.size + 1) :: us, []⟩ (Value.ref (s.heap.objs.size + 1) :: (us ++ ds)) _ _ E (hr.make C us [])
  (I2.env0.make C us []) (hb _ (Value.ref (s.heap.objs.size + 1) :: us) I2.kIn hl) r2 hq) fun r s' hq' => ?_))
 cases r with
 | error e => exact hx _ _ e s' I2 hq'
 | ok fl =>
  cases fl with
  | ret u =>
   obtain ⟨v, H', I3, rv, ev, q3⟩ := I2.after hq'
   subst ev
   exact ⟨rv, ⟨V.ref (s.heap.objs.size + 1), H', I3, rfl, q3⟩⟩
  | next => exact False.elim hq'
  | brk => exact False.elim hq'
  | cont => exact False.elim hq'
def tMakeSD (C : Addr) (S : Sp) (dvs : List V) (E : St → XK) (t : TA) : TE := fun σ H Q => t σ H fun vs H1 => ∀ x dx, H1 x = none → H1 dx = none → dx ≠ x → S (.ref x :: (vs ++ dvs)) (upd (upd H1 dx (.own x)) x (.ins C dx [])) (fun v H2 => v = .non ∧ Q (.ref x) H2) (E σ)
theorem pe_makeSD {t : TA} {dvs : List V} {ds : List Value} {S : Sp} {E : St → XK} (M : Mk X.K C f) (Fn : FnOk X.prog X.w X.K X.mg X.base (L2N.CX X.prog X.w) k f fd ps S) (hr : Room (k + 1) X.A) (hg : Gl X x) (hm : X.mg x = some (.ref C)) (hb : Binds X.K fd ps ds) (hd : Vals dvs ds) (hx : ∀ σ, PassesAt (L2N.CX X.prog X.w) X σ (E σ))
  (ha : PA X (e :: es) t) (hdb : (x == ("__debug__" : Str)) = false := by decide) (he : starEach (e :: es) X.env = (false, eval e X.env) :: starEach es X.env := by rfl) (hpl : (backTo pos (starEach es X.env)).any (·.1) = false := by rfl) :
  PE X (.Call (.Name x p) (e :: es) [] pos) (tMakeSD C S dvs E t) := by
 refine ⟨fun pins s σ H Q I h => ?_⟩
 refine wpAny_Call_Name_kw (ld_glob I hg hm ?_ hdb)
 refine PySem.W.callWith_K (h₀ := X.base) I.ok.mod.kin M.kp (thn (ha.run pos pins s σ H _ I h) fun us s1 ⟨vs, H1, I1, r, q⟩ => ⟨I1.kIn, ?_⟩) he hpl
 exact run_makeSD M Fn hr hb hd (fun H s e s' J c => hx σ pins H s e s' J c) I1 r q
def tNewX (C : Addr) (sr : SpRX) (dps : List PV) (t : TAp) : TXp := fun η P Zw => t η fun args η1 => sr (.o C []) (args ++ dps) (fun r o' => r = .non ∧ ∃ fs, o' = .o C fs ∧ P (.ins C fs) η1) fun C' fs => Zw C' fs η1
theorem zx_new {dvs : List V} {ds : List Value} {dps : List PV} (M : Mk X.K C f) (Fn : FnOk X.prog X.w X.K X.mg X.base (L2N.CX X.prog X.w) k f fd ps (upSpRX X.K T sr)) (tk : L2N.Takes X W) (hr : Room (k + 1) X.A) (hg : Gl X x) (hm : X.mg x = some (.ref C)) (hb : Binds X.K fd ps ds) (hd : Vals dvs ds) (hp : ∀ O H, Reps X.K O H dps dvs)
  (ha : PA X (e :: es) (upA X.K T t)) (hdb : (x == ("__debug__" : Str)) = false := by decide) (he : starEach (e :: es) X.env = (false, eval e X.env) :: starEach es X.env := by rfl) (hpl : (backTo pos (starEach es X.env)).any (·.1) = false := by rfl) :
  PE X (.Call (.Name x p) (e :: es) [] pos) (upX X.K T W (tNewX C sr dps t)) := by
 refine PE.weak (pe_makeSD M Fn hr hg hm hb hd (L2N.passAt tk) ha hdb he hpl) fun σ H Q q => ?_
 obtain ⟨F, η, P, Zw, R, h, k, kx⟩ := q
 refine ⟨F, η, _, R, h, fun args η1 vs H1 h1 e1 R1 r1 x dx nx ndx nex => ?_⟩
 have s1 : Same H1 (upd (upd H1 dx (.own x)) x (.ins C dx [])) := fun b u hb => by
  rw [upd_ne (ne_of_none hb nx), upd_ne (ne_of_none hb ndx)]; exact hb
 have nO : ¬ Oof F σ η1 x := fun z => R1.trO x z (Nw.of nx)
 have c1 : Car (Oof F σ η1) (With (Oof F σ η1) x) H1 (upd (upd H1 dx (.own x)) x (.ins C dx [])) := fun b u n hb _ => ⟨s1 b u hb, fun z => z.elim n (ne_of_none hb nx)⟩
 have gr : ∀ {H2 : Hp}, GrB x (upd (upd H1 dx (.own x)) x (.ins C dx [])) H2 → Gr H1 H2 := fun g => ⟨fun b u hb t => g.keep b u (ne_of_none hb nx) (s1 b u hb) t, fun b hb => g.live b fun q => hb fun o z => q o (s1 b o z)⟩
 refine ⟨Oof F σ η1, x, _, .o C [], _, _, _, rfl, nO, R1.trO.same s1, R1.tb.ext s1, ⟨dx, [], upd_same, by unfold RepF; rfl⟩, (r1.car c1).app (hp _ _), h1, fun z o' v H2 pz g tb ho' rz => ?_, fun C' fs d H2 z g tb xa => ?_⟩
 ·obtain ⟨rfl, fs, rfl, pz⟩ := pz
  obtain ⟨dx', ws, hx, rf⟩ := ho'
  refine ⟨rz.non_, k _ η1 _ H2 pz (e1.trans (gr g).ext) (R1.gr (gr g) tb) ?_⟩
  unfold Rep
  exact ⟨x, dx', ws, rfl, nO, hx, rf.mono fun b z => .inl z⟩
 ·exact kx C' fs η1 d σ H2 z (e1.trans (gr g).ext) (R1.gr (gr g) tb) xa
end
section
variable {X : Cx} {T : List (Addr × Str)} {W : WXs} {e : Expr} {te : TEp} {pos p pos' : Pos} {C fI cc cda : Addr} {B i newId : String} {bmB : List Value} {fld x : Str} {fd : FuncData}
def tRaiseX (C : Addr) (fld : Str) (te : TEp) : TSX := fun _ Zw η => te η fun y η1 => Zw C [(fld, y)] η1
structure XOk (P : Program) (K : PySem.W.Frag) (mg : Str → Option Value) (x : Str) (C : Addr) (fld : Str) : Prop where
 ex : ∃ (fI cc cda : Addr) (B i newId : String) (bmB : List Value) (fd : FuncData), ZX.BaseX B i newId bmB ∧ ZX.XInit P K C fI cc cda fld B i newId bmB fd ∧ ZX.XCl K C fI
 g : mg x = some (.ref C)
theorem zx_raise (Y : XOk X.prog X.K X.mg x C fld) (hsup : X.mg "super" = none) (tk : L2N.Takes X W) (hc : X.calm = true) (hr : L2H.RoomH 1 X.A) (hg : Gl X x) (ha : PE X e (up X.K T te))
  (hdb : (x == ("__debug__" : Str)) = false := by decide) (he : starEach [e] X.env = (false, eval e X.env) :: starEach [] X.env := by rfl) (hpl : (backTo pos' (starEach [] X.env)).any (·.1) = false := by rfl) :
  PS X (.Raise (some (.Call (.Name x p) [e] [] pos')) none pos) (upSX X.K T W (tRaiseX C fld te)) := by
 obtain ⟨fI, cc, cda, B, i, newId, bmB, fd, BX, YI, YC⟩ := Y.ex
 refine PS.weak (L2N.ps_raise hc tk (ZX.pmk_X BX YI YC hsup hr hg Y.g (za_cons ha za_nil he) hdb he hpl)) fun D σ H q => ?_
 obtain ⟨F, η, D', Zw, R, h, k1, k2, k3, k4, kx⟩ := q
 refine ⟨F, η, fun ys η1 => ∃ y, ys = [y] ∧ Zw C [(fld, y)] η1, R, ?_, fun ys η1 vs H1 h1 e1 R1 r1 => ?_⟩
 ·refine Eq.mp ?_ (show te η fun y η1 => Zw C [(fld, y)] η1 from h)
  unfold tConsP tNilP
  congr 1
  funext y η1
  simp
 ·obtain ⟨y, rfl, hz⟩ := h1
  obtain ⟨v, rfl, r⟩ := r1.one
  refine ⟨v, rfl, fun d nd => ?_⟩
  have sm : Same H1 (upd H1 d (.xd [(fld, v)])) := Same.new nd
  refine kx C [(fld, y)] η1 (some d) σ _ hz (e1.trans (.same sm)) (R1.same sm) (.inr ⟨d, _, rfl, R1.trO.fresh nd, upd_same, ?_⟩)
  unfold RepF
  exact ⟨v, [], rfl, r.car (Car.same sm), by unfold RepF; rfl⟩
end
end Z
namespace L2N
open PySem PySem.Spec PyProof.Rows L2
inductive NamesL (X : Cx) : List Expr → List Value → Prop
 | nil : NamesL X [] []
 | cons {x : Str} {p : Pos} {c : Value} {es : List Expr} {cs : List Value} : Names X x c → NamesL X es cs → NamesL X (.Name x p :: es) (c :: cs)
def TupM (P : Program) (w : World) (K : PySem.W.Frag) (cs : List Value) : Prop := ∀ {cls : Value} {tp e : Addr} {b : Bool} {h : Heap}, K.In h → PySem.W.Looks (model P w) h (typeOf (.ref e)) cls →
 h.get? tp = some { cls := .type "tuple", data := .seq cs.toArray } → PySem.W.exmAny K cls cs = some b → PySem.W.Looks (model P w) h (excMatches (.ref e) (.ref tp)) b
theorem tupM2 {P : Program} {w : World} {K : PySem.W.Frag} {c1 c2 : Value} : TupM P w K [c1, c2] := fun X LT hp hx => PySem.W.exm_tup2 X LT hp hx
theorem tupM3 {P : Program} {w : World} {K : PySem.W.Frag} {c1 c2 c3 : Value} : TupM P w K [c1, c2, c3] := fun X LT hp hx => PySem.W.exm_tup3 X LT hp hx
theorem flying_keep {B h h' : Heap} {l : List Env} {a : Addr} {Z : Obj → Prop} (k : ∀ b o, h.get? b = some o → h'.get? b = some o) (x : HandSPX.FlyingZ B l a Z h) : HandSPX.FlyingZ B l a Z h' := by
 obtain ⟨x1, x2, x3, oe, vs, T, oT, ts, e1, e2, e3, e4, e5, e6, e7, e8⟩ := x
 exact ⟨fun b o e => k b o (x1 b o e), x2, x3.of_keeps fun b o e _ => ⟨o, k b o e, rfl⟩, oe, vs, T, oT, ts, k _ _ e1, e2, e3, e4, e5, e6, k _ _ e7, e8⟩
theorem evalNames {X : Cx} {a : Addr} {q : Addr × Obj} {pn pins : List (Addr × Obj)} {σ : St} {H : Hp} {s : Shared} {np : Pos} {E : Value → Shared → Prop} (I : Inv (X.suite a (q :: pn)) pins σ H s) : ∀ {es : List Expr} {cs : List Value}, NamesL X es cs → ∀ {Q : List Value → Shared → Prop}, Q cs s →
  wpAny (model X.prog X.w) (X.A.mark (some (.ref a))) (spliced (backTo np (starEach es X.env))) Q E s
 | _, _, .nil, Q, q => spliced_none q
 | _, _, .cons (x := x) (p := p) (c := c) hc r, Q, qq => by
  refine spliced_more ?_
  obtain ⟨hg, hdbg, hm | ⟨hm, hv, hnn⟩⟩ := hc
  ·exact ld_glob (X := X.suite a (q :: pn)) I hg hm (evalNames I r qq) hdbg
  ·exact ld_blt (X := X.suite a (q :: pn)) I hg hm hv (evalNames I r qq) hnn hdbg
def wTup (K : PySem.W.Frag) (cs : List Value) (i : Nat) (ts : Addr → Value → Option Addr → TS) (Wout : WX) (D : Ends) : WX := fun cls d σ H =>
 ∃ b, PySem.W.exmAny K cls cs = some b ∧ (b = true → ∀ a, H a = none → ts a cls d { nx := fun σ' H' => D.nx (σ'.set i none) H', rt := D.rt, bk := fun σ' H' => D.bk (σ'.set i none) H', ct := fun σ' H' => D.ct (σ'.set i none) H' } (σ.set i (some (.ref a))) H) ∧
  (b = false → Wout cls d σ H)
def wTupO (K : PySem.W.Frag) (cs : List Value) (ts : Addr → Value → Option Addr → TS) (Wout : WX) (D : Ends) : WX := fun cls d σ H =>
 ∃ b, PySem.W.exmAny K cls cs = some b ∧ (b = true → ∀ a, H a = none → ts a cls d D σ H) ∧ (b = false → Wout cls d σ H)
section
variable {X : Cx} {n : Str} {cs : List Value} {elts : List Expr} {ek : Nat} {i : Nat} {body suite : List Stmt} {b₀ : Stmt} {np pos pos' : Pos} {tb : WX → TS} {ts : Addr → Value → Option Addr → TS} {Wout : WX}
theorem ps_try_tup_as (hs : X.stack = X.env :: X.outer) (hf : X.env.frame = some X.env.locals) (hN : X.N.Nodup) (hi : X.N[i]? = some n) (hln : X.env.kindOf n = some .local) (hc : NamesL X elts cs) (hm : TupM X.prog X.w X.K cs) (hl : cs.length ≤ 1000) (tk : Takes X Wout)
  (hb : ∀ (W : WX) (pn : List (Addr × Obj)) (xe : Value → Shared → Prop), Takes (X.tr pn xe) W → PassesOwn (model X.prog X.w) X.A X.env xe → PSs (X.tr pn xe) body (tb W))
  (hsu : ∀ (a : Addr) (oe : Obj) (cls : Value) (d : Option Addr) (pn : List (Addr × Obj)), Zn cls d oe → (∃ vs, oe.data = .fields vs) → PSs (X.suite a ((a, oe) :: pn)) (b₀ :: suite) (ts a cls d)) :
  PS X (.Try body [.ExceptHandler (some (.Tuple elts ek np)) (some n) (b₀ :: suite) pos'] [] [] pos) (fun D σ H => tb (wTup X.K cs i ts Wout D) D σ H) := by
 refine ⟨fun pins s σ H D I h => ?_⟩
 have ok := I.ok
 have hfr : X.A.frames = some (X.env :: X.outer) := by rw [ok.frames, hs]
 have hloc : Loc X.env.scope n := .inl hln
 refine wpAny_Try_except ?_
 refine wpAny_mono ((hb (wTup X.K cs i ts Wout D) (X.pn ++ pins) (fun e s₁ => wpAny (model X.prog X.w) X.A (noteFrame e X.env) (fun _ s₂ => wpAny (model X.prog X.w) X.A (setFlight e none) (fun _ s₃ =>
  wpAny (model X.prog X.w) X.A (handleBy e X.env [.ExceptHandler (some (.Tuple elts ek np)) (some n) (b₀ :: suite) pos']) (SP X pins D) X.xe s₃) X.xe s₂) X.xe s₁) (fun u s' xx => ?_) PassesOwn.looking).run [] s σ H D (I.toTry _) h) (fun f s1 hsp => ?_) (fun e s1 he => he)
 ·-- the catch
  obtain ⟨a, B, sI, pins', σ', H', cls, d, rfl, J', nb, up, sky, na, os, ag, b, hb1, hyes, hno⟩ := xx
  have J : Inv X pins σ' H' sI := J'.ofTry ok
  have sky' : Sky B (X.env :: X.outer) a (Zn cls d) X.env.locals s'.heap := by rw [← hs]; exact sky
  show wpAny (model X.prog X.w) X.A (noteFrame (.ref a) X.env) _ _ _
  refine Sky.land Zn.steady hfr hf sky' fun h3' fl3' up3' => ?_
  have J3' : Inv X pins σ' H' { s' with heap := h3' } := J.landed nb fl3'.1 (up.trans up3') os ag
  obtain ⟨oe3, vs3, he3', hz3, hd3⟩ := fl3'.there
  have notFr : ∀ {h : Heap} {o : Obj} {vs : Array Value}, h.FunFrames B (X.env :: X.outer) → h.get? a = some o → o.data = .fields vs → a ∉ frs (X.env :: X.outer) := fun {h o vs} ff e dd hm => by
   obtain ⟨_, o', e', hnf⟩ := ff.mem hm
   rw [e] at e'; cases e'
   exact hnf _ dd
  have nfr := notFr fl3'.2.2.1 he3' hd3
  have nL : a ≠ X.env.locals := fun z => nfr (List.mem_filterMap.mpr ⟨X.env, List.mem_cons_self, by rw [hf, z]⟩)
  have nF : a ∉ X.fs := fun hm => by
   obtain ⟨e, he, q⟩ := List.mem_filterMap.mp hm
   exact nfr (List.mem_filterMap.mpr ⟨e, List.mem_cons_of_mem _ he, q⟩)
  have S3' := J3'.suite he3' hd3 na nL nF
  refine wpAny_handleBy_cons (codeAny_handlers_test ?_) (by intro q; cases q)
  refine Tuple_ (evalNames S3' hc ?_)
  refine wpAny_newObj_type ?_ (by show cs.toArray.size ≤ sizeLine; rw [List.size_toArray, sizeLine_eq]; omega)
  let h3 : Heap := h3'.push { cls := .type "tuple", dict := none, data := .seq cs.toArray }
  have kp : ∀ b o, h3'.get? b = some o → h3.get? b = some o := fun b o e => Heap.get?_push_of_some _ e
  have fl3 : HandSPX.FlyingZ B (X.env :: X.outer) a (Zn cls d) h3 := flying_keep kp fl3'
  have up3 : s'.heap.UpToSlots h3 := up3'.trans (Heap.UpToSlots.of_keeps kp)
  have J3 : Inv X pins σ' H' { s' with heap := h3 } := J.landed nb fl3.1 (up.trans up3) os ag
  have he3 := kp _ _ he3'
  have LT : PySem.W.Looks (model X.prog X.w) h3 (typeOf (.ref a)) cls := fun A Q E s k q => wpAny_typeOf_ref (k _ _ he3) (by rw [hz3.1]; exact q)
  have LM := hm J3.kIn LT (Heap.get?_push_size _ rfl) hb1
  show wpAny _ _ _ _ _ { s' with heap := h3 }
  refine LM.here ?_
  cases b with
  | true =>
   refine codeAny_handlers_suite_as ?_
   refine HandSPX.lands_againZ fl3 fun h4 fl4 up4 => ?_
   have J4 : Inv X pins σ' H' { s' with heap := h4 } := J.landed nb fl4.1 ((up.trans up3).trans up4) os ag
   obtain ⟨oe4, vs4, he4, hz4, hd4⟩ := fl4.there
   have S4 := J4.suite he4 hd4 na nL nF
   refine store_ok (X := X.suite a ((a, oe4) :: (X.pn ++ pins))) (v := .ref a) S4 hN hi hloc rfl (fun s5 S5 => ?_) (.inr hln)
   refine wpAny_mono ((hsu a oe4 cls d (X.pn ++ pins) hz4 ⟨_, hd4⟩).run [] s5 _ H' _ S5 (hyes rfl a na)) (fun f s6 hsp => ?_) (fun _ _ z => False.elim z)
   have end_ : ∀ {σ6 : St} {H6 : Hp} {Q : Shared → Prop}, Inv (X.suite a ((a, oe4) :: (X.pn ++ pins))) [] σ6 H6 s6 → (∀ s7, Inv X pins (σ6.set i none) H6 s7 → Q s7) →
     wpAny (model X.prog X.w) X.A (do bindName X.env n .none; unbindBehindTheSuite X.env n pos') (fun _ s7 => Q s7) X.xe s6 := fun {σ6 H6 Q} S6 hq => gone_ok (S6.unsuite ok) hN hi hln hq
   cases f with
   | next =>
    obtain ⟨σ6, H6, S6, q6⟩ := hsp
    exact end_ S6 fun s7 J7 => ⟨_, _, J7, q6⟩
   | brk =>
    obtain ⟨σ6, H6, S6, q6⟩ := hsp
    exact end_ S6 fun s7 J7 => ⟨_, _, J7, q6⟩
   | cont =>
    obtain ⟨σ6, H6, S6, q6⟩ := hsp
    exact end_ S6 fun s7 J7 => ⟨_, _, J7, q6⟩
   | ret u =>
    obtain ⟨v6, σ6, H6, S6, r6, q6⟩ := hsp
    exact end_ S6 fun s7 J7 => ⟨_, _, _, J7, r6, q6⟩
  | false =>
   show wpAny _ X.A (handleBy (.ref a) X.env []) _ _ _
   refine wpAny_handleBy_nil ?_
   obtain ⟨k1, k2, k3, oe, vs, T, oT, ts', he, hz, hd, h1, hr⟩ := id fl3
   unfold PySem.passOn
   refine wpAny_bind (wpAny_field he hd h1 ?_)
   rw [if_neg (show ¬ ((Value.ref T == Value.none) = true) from by simp)]
   have fin : wpAny (model X.prog X.w) X.A (setFlight (.ref a) X.env.frame) (fun _ s4 => wpAny (model X.prog X.w) X.A (throw (.ref a) : Sem Flow) (SP X pins D) X.xe s4) X.xe { s' with heap := h3 } := by
    rw [hf]
    refine HandSPX.setFlight_upZ fl3 fun h4 hh4 up4 => wpAny_throw (tk _ _ ?_)
    exact ⟨a, B, sI, pins, σ', H', cls, d, rfl, J, nb, (up.trans up3).trans up4, .inr (.inr (by rw [hs]; exact hh4)), na, os, ag, hno rfl⟩
   first
    | exact wpAny_bind (wpAny_pure (wpAny_bind fin))
    | exact wpAny_bind fin
 ·cases f with
  | next =>
   obtain ⟨σ', H', J', q⟩ := hsp
   exact wpAny_execs_nil ⟨σ', H', J'.ofTry ok, q⟩
  | brk =>
   obtain ⟨σ', H', J', q⟩ := hsp
   exact ⟨σ', H', J'.ofTry ok, q⟩
  | cont =>
   obtain ⟨σ', H', J', q⟩ := hsp
   exact ⟨σ', H', J'.ofTry ok, q⟩
  | ret u =>
   obtain ⟨v, σ', H', J', r, q⟩ := hsp
   exact ⟨v, σ', H', J'.ofTry ok, r, q⟩
end
end L2N
namespace Z
open PySem PySem.Spec L2
open PyProof.Rows hiding St
section
variable {X : Cx} {T : List (Addr × Str)} {W : WXs} {e : Expr} {te ta : TEp} {t : TAp} {pos pos' np : Pos} {b₀ : Stmt} {body suite : List Stmt} {tb : TSX} {i ek : Nat} {n : Str} {cs : List Value} {elts : List Expr}
theorem XAt.rep {K : PySem.W.Frag} {O : Addr → Prop} {H : Hp} {d : Option Addr} {fs : List (Str × PV)} (x : XAt K O H d fs) (a : Addr) : Rep K O H (.exn a d fs) (.ref a) := by
 unfold Rep
 rcases x with ⟨rfl, rfl⟩ | ⟨y, ws, rfl, n, q, r⟩
 ·exact ⟨rfl, [], (fun _ z => nomatch z), by unfold RepF; rfl⟩
 ·exact ⟨rfl, ws, (fun _ z => by cases z; exact ⟨n, q⟩), r⟩
theorem XAt.some {K : PySem.W.Frag} {O : Addr → Prop} {H : Hp} {d : Option Addr} {fs : List (Str × PV)} (x : XAt K O H d fs) : fs = [] ∨ d.isSome := by
 rcases x with ⟨rfl, rfl⟩ | ⟨y, ws, rfl, n, q, r⟩
 ·exact .inl rfl
 ·exact .inr rfl
end
def PinX (X : Cx) (a : Addr) (cls : Value) (d : Option Addr) : Prop := ∃ oe : Obj, (a, oe) ∈ X.pn ∧ L2.Zc cls d oe ∧ ∃ vs, oe.data = .fields vs
theorem pinX_suiteC {X : Cx} {a : Addr} {oe : Obj} {cls : Value} {d : Option Addr} {pn : List (Addr × Obj)} (hz : L2.Zc cls d oe) (hf : ∃ vs, oe.data = .fields vs) : PinX (X.suite a ((a, oe) :: pn)) a cls d := ⟨oe, List.mem_cons_self, hz, hf⟩
theorem PinX.inst {X : Cx} {a C : Addr} {d : Option Addr} {pins : List (Addr × Obj)} {σ : St} {H : Hp} {s : Shared} (p : PinX X a (.ref C) d) (I : Inv X pins σ H s) (hd : ∀ x, d = some x → ∃ ws, H x = some (.xd ws)) : ∃ oe od, PySem.W.InstAt s.heap a oe C od ∧
  ∀ x ws, d = some x → H x = some (.xd ws) → ∃ (o : Obj) (mA : Str → Option Value), od = some o ∧ (∀ f, PySem.W.lookIn f o = some (mA f)) ∧ ∀ f, RelO (ws.lookup f) (mA f) := by
 obtain ⟨oe, hm, hz, vs, hv⟩ := p
 obtain ⟨hget, _⟩ := I.pin (a, oe) (List.mem_append.mpr (.inl hm))
 have nc : PySem.W.notCls oe = true := by unfold PySem.W.notCls; rw [hv] <;> rfl
 cases d with
 | none =>
  exact ⟨oe, none, ⟨hget, hz.1, nc, by rw [hz.2]; trivial⟩, fun x ws e => by cases e⟩
 | some x =>
  obtain ⟨ws, hx⟩ := hd x rfl
  have ok : ObjOk X.prog X.w H s.heap x (.xd ws) := I.hok x _ hx
  obtain ⟨mA, hns, hr⟩ := ok
  obtain ⟨od, ho, hl⟩ := lookIn_ns hns
  refine ⟨oe, some od, ⟨hget, hz.1, nc, by rw [hz.2]; exact ho⟩, fun y ws' e hy => ?_⟩
  cases e
  rw [hx] at hy
  cases hy
  exact ⟨od, mA, rfl, hl, hr⟩
section
variable {X : Cx} {T : List (Addr × Str)} {e : Expr} {te ta : TEp} {pos : Pos} {a : Addr} {cls : Value} {d : Option Addr}
def clsVal : PV → Option Value
 | .raw (.ref c) => some (.ref c)
 | .raw (.ty n) => some (.type n)
 | _ => none
theorem clsVal_rep {K : PySem.W.Frag} {O : Addr → Prop} {H : Hp} {x : PV} {cv : Value} {v : V} {u : Value} (h : Rep K O H x v) (e : clsVal x = some cv) (r : RelV v u) : u = cv := by
 unfold clsVal at e
 split at e
 ·cases e
  unfold Rep at h
  subst h
  exact r
 ·cases e
  unfold Rep at h
  subst h
  exact r
 ·cases e
def rIsX (K : PySem.W.Frag) (a : Addr) (cls : Value) (d : Option Addr) : R1p := fun ps P => ∃ fs c C cv b, ps = [.exn a d fs, c] ∧ cls = .ref C ∧ L2.ExcC K C ∧ clsVal c = some cv ∧ PySem.W.kitOne K (.ref C) cv = some b ∧ P (.bl b)
theorem zc_isX (p : PinX X a cls d) : CallR X (.builtin "isinstance") (r1 X.K (rIsX X.K a cls d)) := by
 intro pins s σ H xs us Q I r h
 obtain ⟨O, ps, P, tr, hx, h, k⟩ := h
 obtain ⟨fs, c, C, cv, b, rfl, rfl, Y, hc, hk, hp⟩ := h
 obtain ⟨v, w, rfl, r1, r2⟩ := hx.two
 cases r with
 | @cons _ u1 _ us1 q1 qr =>
 cases qr with
 | @cons _ u2 _ us2 q2 qr =>
 cases qr
 obtain rfl := clsVal_rep r2 hc q2
 unfold Rep at r1
 obtain ⟨rfl, ws, hd, _⟩ := r1
 cases (show u1 = Value.ref a from q1)
 obtain ⟨oe, od, J, _⟩ := p.inst I fun x hx => ⟨ws, (hd x hx).2⟩
 obtain ⟨cdD, hcD, _⟩ := PySem.W.any_some Y.hd
 exact PySem.W.kia_one (PySem.W.kitx_exc (by rw [hcD]; rfl) Y.hg Y.hk Y.hs Y.ha Y.hn Y.ht Y.hm) I.kIn J hk (fun z => nomatch z) fun tk => ⟨.bl b, H, I.kept (t' := tk) fun _ _ z => z, rfl, k.bl hp⟩
def rIsXT (K : PySem.W.Frag) (a : Addr) (cls : Value) (d : Option Addr) : R1p := fun ps P => ∃ fs cs C cvs b, ps = [.exn a d fs, .tup cs] ∧ cls = .ref C ∧ L2.ExcC K C ∧ cs.map clsVal = cvs.map some ∧ PySem.W.kitAny K (.ref C) cvs = some b ∧ P (.bl b)
theorem clsVals_rep {K : PySem.W.Frag} {O : Addr → Prop} {H : Hp} : ∀ {xs : List PV} {cvs : List Value} {vs : List V} {us : List Value}, Reps K O H xs vs → xs.map clsVal = cvs.map some → Vals vs us → us = cvs
 | [], cvs, vs, us, h, e, r => by
  rw [h.inv0] at r
  cases r
  cases cvs with
  | nil => rfl
  | cons => cases e
 | x :: xs, cvs, vs, us, h, e, r => by
  obtain ⟨v, ws, rfl, h1, h2⟩ := h.inv
  cases cvs with
  | nil => cases e
  | cons cv cvs =>
   rw [List.map_cons, List.map_cons] at e
   obtain ⟨e1, e2⟩ := List.cons.inj e
   cases r with
   | cons q1 qr => rw [clsVal_rep h1 e1 q1, clsVals_rep h2 e2 qr]
theorem zc_isXT (p : PinX X a cls d) : CallR X (.builtin "isinstance") (r1 X.K (rIsXT X.K a cls d)) := by
 intro pins s σ H xs us Q I r h
 obtain ⟨O, ps, P, tr, hx, h, k⟩ := h
 obtain ⟨fs, cs, C, cvs, b, rfl, rfl, Y, hc, hk, hp⟩ := h
 obtain ⟨v, w, rfl, r1, r2⟩ := hx.two
 cases r with
 | @cons _ u1 _ us1 q1 qr =>
 cases qr with
 | @cons _ u2 _ us2 q2 qr =>
 cases qr
 obtain ⟨tp, vs, rfl, ht, rr⟩ := r2.tup_
 cases (show u2 = Value.ref tp from q2)
 unfold Rep at r1
 obtain ⟨rfl, ws, hd, _⟩ := r1
 cases (show u1 = Value.ref a from q1)
 obtain ⟨oe, od, J, _⟩ := p.inst I fun x hx => ⟨ws, (hd x hx).2⟩
 obtain ⟨cdD, hcD, _⟩ := PySem.W.any_some Y.hd
 have KK := PySem.W.kitx_exc (K := X.K) (x := a) (C := C) (od := od) (ox := oe) (by rw [hcD]; rfl) Y.hg Y.hk Y.hs Y.ha Y.hn Y.ht Y.hm
 obtain ⟨its, o, n, g1, g2, g3, g4⟩ : ∃ (its : Array Value) (o : Obj) (n : Nat), s.heap.get? tp = some o ∧ o.cls = .type "tuple" ∧ o.data = .seq its n ∧ Vals vs its.toList := by
  rcases ht.sq with h | ⟨o, its, n, e1, e2, e3, e4, e5⟩
  ·rcases h with h | ⟨of, h⟩
   ·obtain ⟨_, its, rv, o, h1, h2, n, h3⟩ := (show ObjOk X.prog X.w H s.heap tp (.tup vs) from I.hok tp _ h)
    exact ⟨its.toArray, o, n, h1, h2, h3, rv⟩
   ·obtain ⟨_, its, rv, o, h1, h2, n, h3⟩ := (show ObjOk X.prog X.w H s.heap tp (.frz of (.tup vs)) from I.hok tp _ h).2
    exact ⟨its.toArray, o, n, h1, h2, h3, rv⟩
  ·exact ⟨its, o, n, I.kIn _ _ e1, e2, e3, e5⟩
 have e3 := clsVals_rep rr hc g4
 subst e3
 obtain ⟨oc, od', dt, sl⟩ := o
 simp only at g2 g3
 subst g2 g3
 exact PySem.W.kia_tup KK I.kIn J g1 hk (fun z => nomatch z) fun tk => ⟨.bl b, H, I.kept (t' := tk) fun _ _ z => z, rfl, k.bl hp⟩
structure XfN (K : PySem.W.Frag) (C : Addr) (f : Str) : Prop where
 t : XfC K C
 n : PySem.W.findIn K (.ref C) f = some none
def tXfP (K : PySem.W.Frag) (a : Addr) (cls : Value) (d : Option Addr) (f : Str) (te : TEp) : TEp := fun η P => te η fun x η1 => ∃ fs C y, x = .exn a d fs ∧ cls = .ref C ∧ XfN K C f ∧ d.isSome ∧ fs.lookup f = some y ∧ P y η1
theorem z_xf {f : Str} (p : PinX X a cls d) (he : PE X e (up X.K T te)) (hb : attributeBase e f X.env (eval e X.env) = eval e X.env := by rfl) : PE X (.Attribute e f pos) (up X.K T (tXfP X.K a cls d f te)) := by
 refine ⟨fun pins s σ H Q I h => ?_⟩
 obtain ⟨F, η, P, R, h, k⟩ := h
 refine attr_of hb (thn (he.run pins s σ H (fun v H1 => ∃ η1 fs C y, Rs X.K T F σ η1 H1 ∧ Ext σ η σ η1 H H1 ∧ Rep X.K (Oof F σ η1) H1 (.exn a d fs) v ∧ cls = .ref C ∧ XfN X.K C f ∧ d.isSome ∧ fs.lookup f = some y ∧ P y η1) I
  ⟨F, η, _, R, h, fun x η1 v H1 h1 e1 R1 r1 => by
   obtain ⟨fs, C, y, rfl, h2, h3, h4, h5, h6⟩ := h1
   exact ⟨η1, fs, C, y, R1, e1, r1, h2, h3, h4, h5, h6⟩⟩) fun u s1 hh => ?_)
 obtain ⟨v, H1, I1, rv, η1, fs, C, y, R1, e1, r1, rfl, N, hd, hl, hp⟩ := hh
 have r1' := r1
 unfold Rep at r1'
 obtain ⟨rfl, ws, hw, rf⟩ := r1'
 obtain rfl : u = Value.ref a := rv
 obtain ⟨x, rfl⟩ := Option.isSome_iff_exists.mp hd
 obtain ⟨oe, od, J, look⟩ := p.inst I1 fun z hz => ⟨ws, (hw z hz).2⟩
 obtain ⟨o, mA, rfl, l1, l2⟩ := look x ws rfl (hw x rfl).2
 obtain ⟨vy, h1, h2⟩ := (rf.look f).1 y hl
 obtain ⟨uy, hu, ru⟩ := RelO.some_of (v := vy) (o := mA f) (by rw [← h1]; exact l2 f)
 exact HandSPX.exc_get I1.kIn J N.t.ga N.t.gg N.t.exC (PySem.W.findObj_own N.t.hdC N.n rfl (by rw [l1 f, hu])) (handed_of ru) ⟨vy, H1, I1.tok _, ru, k _ _ _ _ hp e1 R1 h2⟩
end
structure XTxt (st : Stmt) (qual fld : Str) : Prop where
 ex : ∃ (m : Str) (j : Nat) (p0 p1 p2 p3 p4 p5 p6 p7 p8 p9 : Pos) (ar : Arg),
  defBody st = [.Expr (.Call (.Attribute (.Call (.Name "super" p0) [] [] p1) "__init__" p2) [.Constant (.str m) j p3] [] p4) p5, .Assign [.Attribute (.Name "self" p6) fld p7] (.Name fld p8) p9] ∧
  ((defArgs st).posonlyargs ++ (defArgs st).args).head? = some ar ∧ ar.arg = "self" ∧
  (∀ (L fI cda cc : Addr), interactive (PySem.W.ksEnv qual (defScope st) L fI (.ref cda) cc) = false) ∧
  (∀ (L fI cda cc : Addr), ∃ pl : Sem Bool, eval (.Call (.Attribute (.Call (.Name "super" p0) [] [] p1) "__init__" p2) [.Constant (.str m) j p3] [] p4) (PySem.W.ksEnv qual (defScope st) L fI (.ref cda) cc) = (do
   let ov ← attributeBase (.Call (.Name "super" p0) [] [] p1) "__init__" (PySem.W.ksEnv qual (defScope st) L fI (.ref cda) cc) (eval (.Call (.Name "super" p0) [] [] p1) (PySem.W.ksEnv qual (defScope st) L fI (.ref cda) cc))
   standAt p2.atName
   let (f, first) ← holding [ov] (getMethod ov "__init__" pl)
   callWith p4 f first (backTo p4 (starEach [.Constant (.str m) j p3] (PySem.W.ksEnv qual (defScope st) L fI (.ref cda) cc))) [])) ∧
  (∀ (L fI cda cc : Addr), swapsWith (.Call (.Attribute (.Call (.Name "super" p0) [] [] p1) "__init__" p2) [.Constant (.str m) j p3] [] p4) none p5.line (PySem.W.ksEnv qual (defScope st) L fI (.ref cda) cc) = pure false) ∧
  (∀ (L fI cda cc : Addr), swapsWith (.Name fld p8) (some (.Attribute (.Name "self" p6) fld p7)) p9.line (PySem.W.ksEnv qual (defScope st) L fI (.ref cda) cc) = pure false)
 n1 : (defScope st).names.lookup ("super" : Str) = some .globalImplicit
 n2 : (defScope st).names.lookup ("__class__" : Str) = some .free
 n3 : (defScope st).names.lookup ("self" : Str) = some .local
 n4 : (defScope st).names.lookup fld = some .local
 n5 : (defScope st).kind = .function
 n6 : (defScope st).isCoroutine = false
 n7 : (defScope st).isGenerator = false
 n8 : ∀ x ∈ (defScope st).names, x.2 ≠ .cell
 b : ∀ (kV doc pm : Value) (an : Option Addr) (cdv ct : Value) (cc : Addr) (e u : Value), bindArgs (PySem.W.ksFn "__init__" qual (defArgs st) (defBody st) (defScope st) .none kV doc pm an cdv ct cc) ⟨[e, u], []⟩ = pure [(("self" : Str), e), (fld, u)]
def xclB (K : PySem.W.Frag) (C fI : Addr) (qual fld : Str) (B i newId : String) (bmB : List Value) (cda : Addr) : Bool :=
 decide (PySem.W.typeIn K (.ref fI) = some (.type "function")) && (decide (PySem.W.subIn K (.ref C) (.type "BaseException") = some true) && (decide (PySem.W.typeIn K (.ref C) = some (.type "type")) && (PySem.W.keepIn K (.ref C) &&
 (PySem.W.codeIn K (.ref cda) qual && ((PySem.W.clsIn K C).isSome && (decide (PySem.W.mroIn K C (.ref C) = some true) && (decide (PySem.W.subIn K (.ref C) (.type B) = some true) && (decide (PySem.W.nsIn K cStatics "thirdparty.any" = some none) &&
 (decide (PySem.W.ks_superIn K C C "__init__" = some (some (.builtin i))) && (PySem.W.excInitIn K C bmB newId && (PySem.W.excOver K C bmB && (decide (PySem.W.takerIn K C fld = some none) && (PySem.W.hasDictIn K C &&
 (decide (PySem.W.findIn K (.ref C) "__setattr__" = some (some (.builtin "object.__setattr__"))) && (decide (PySem.W.findIn K (.ref C) "__getattribute__" = some (some (.builtin "BaseException.__getattribute__"))) && (decide (PySem.W.findIn K (.ref C) "__getattr__" = some none) &&
 (decide (PySem.W.findIn K (.ref C) fld = some none) && (decide (PySem.W.findIn K (.ref C) "__class__" = some (some (.builtin "object.__class__"))) && (decide (PySem.W.specialIn K (.builtin "object.__class__") "__get__" = some (some (.builtin "getset_descriptor.__get__"))) &&
 (decide (PySem.W.takesIn K (.builtin "object.__class__") = some true) && decide (PySem.W.mroIn K C (.type "object") = some true)))))))))))))))))))))
theorem baseV : ZX.BaseX "ValueError" "ValueError.__init__" "ValueError.__new__" [.type "ValueError", .type "Exception", .type "BaseException", .type "object"] := ⟨F.excBase_ValueError, PySem.W.kxs_ValueError, F.store_ValueError⟩
structure XAll (P : Program) (K : PySem.W.Frag) (mg : Str → Option Value) (x : Str) (C : Addr) (fld : Str) : Prop where
 ok : XOk P K mg x C fld
 is : L2.ExcC K C
 xf : XfN K C fld
theorem xAll_of {P : Program} {K : PySem.W.Frag} {mg : Str → Option Value} {x fld qual : Str} {st : Stmt} {C fI cc cda : Addr} {B i newId : String} {bmB : List Value} {oc kV doc pm ct cl ccl : Value} {od an cld cdd : Option Addr} {osl csl ccs : Array (Option Value)} {vs : Array Value} {file : Str} {tf : Tok}
  (BX : ZX.BaseX B i newId bmB) (T : XTxt st qual fld) (hg : mg x = some (.ref C)) (iC : PySem.W.findIn K (.ref C) "__init__" = some (some (.ref fI)))
  (lk : K.lookup fI = some ⟨oc, od, .func (PySem.W.ksFn "__init__" qual (defArgs st) (defBody st) (defScope st) .none kV doc pm an (.ref cda) ct cc), osl⟩)
  (cell : K.lookup cc = some ⟨cl, cld, .cell (some (.ref C)), csl⟩) (code : K.lookup cda = some ⟨ccl, cdd, .fields vs, ccs⟩) (hvs : vs[2]? = some (.str file tf)) (hfile : ((P.main.file : Str) == file) = true) (htop : (P.main.scope.names.lookup ("super" : Str)).isSome = false)
  (hB : xclB K C fI qual fld B i newId bmB cda = true) (hn1 : (fld == ("__debug__" : Str)) = false := by decide) (hn2 : fld ≠ "self" := by decide) : XAll P K mg x C fld := by
 unfold xclB at hB
 simp only [Bool.and_eq_true, decide_eq_true_eq] at hB
 obtain ⟨h1, h2, h3, h4, h5, h6, h7, h8, h9, h10, h11, h12, h13, h14, h15, h16, h17, h18, h19, h20, h21, h22⟩ := hB
 obtain ⟨m, j, p0, p1, p2, p3, p4, p5, p6, p7, p8, p9, ar, hb, ha, har, e1, e2, e3, e4⟩ := T.ex
 refine ⟨⟨⟨fI, cc, cda, B, i, newId, bmB, _, BX, ⟨⟨oc, od, osl, qual, defArgs st, m, j, p0, p1, p2, p3, p4, p5, p6, p7, p8, p9, defScope st, .none, kV, doc, pm, ct, an, ar, ?_, lk, h5, ha, har, T.n1, T.n2, T.n3, T.n4, T.n5, T.n6, T.n7, T.n8, fun L => e1 L fI cda cc, fun L => e2 L fI cda cc, fun L => e3 L fI cda cc, fun L => e4 L fI cda cc⟩,
  fun s e u => .of_eq (T.b _ _ _ _ _ _ _ e u), ⟨cl, cld, csl, cell⟩, ⟨ccl, cdd, vs, ccs, file, tf, code, hvs, hfile⟩, htop, Option.isSome_iff_exists.mp h6, h7, h8, h9, h10, h11, h15, h12, h13, h14, hn1, hn2⟩, ⟨iC, h1, h2, h3, h4⟩⟩, hg⟩,
  ⟨h16, h17, h2, h14, h19, h20, h21, h22⟩, ⟨⟨h16, h17, h2, h14⟩, h18⟩⟩
 rw [hb]
end Z
namespace L2T
open PySem PySem.Spec PyProof.Rows L2
open L2N (NamesL TupM flying_keep evalNames wTup wTupO)
abbrev St := L2.St
section
variable {X : Cx} {n : Str} {cs : List Value} {elts : List Expr} {ek : Nat} {i : Nat} {body suite : List Stmt} {b₀ : Stmt} {np pos pos' : Pos} {tb : WX → TS} {ts : Addr → Value → Option Addr → TS} {Wout : WX}
theorem ps_try_tup_as (hs : X.stack = X.env :: X.outer) (hf : X.env.frame = some X.env.locals) (hN : X.N.Nodup) (hi : X.N[i]? = some n) (hln : X.env.kindOf n = some .local) (hc : NamesL X elts cs) (hm : TupM X.prog X.w X.K cs) (hl : cs.length ≤ 1000) (tk : L2.Takes X Wout)
  (hb : ∀ (W : WX) (pn : List (Addr × Obj)) (xe : Value → Shared → Prop), L2.Takes (X.tr pn xe) W → PassesOwn (model X.prog X.w) X.A X.env xe → PSs (X.tr pn xe) body (tb W))
  (hsu : ∀ (a : Addr) (oe : Obj) (cls : Value) (d : Option Addr) (pn : List (Addr × Obj)), L2.Zc cls d oe → (∃ vs, oe.data = .fields vs) → PSs (X.suite a ((a, oe) :: pn)) (b₀ :: suite) (ts a cls d)) :
  PS X (.Try body [.ExceptHandler (some (.Tuple elts ek np)) (some n) (b₀ :: suite) pos'] [] [] pos) (fun D σ H => tb (wTup X.K cs i ts Wout D) D σ H) := by
 refine ⟨fun pins s σ H D I h => ?_⟩
 have ok := I.ok
 have hfr : X.A.frames = some (X.env :: X.outer) := by rw [ok.frames, hs]
 have hloc : Loc X.env.scope n := .inl hln
 refine wpAny_Try_except ?_
 refine wpAny_mono ((hb (wTup X.K cs i ts Wout D) (X.pn ++ pins) (fun e s₁ => wpAny (model X.prog X.w) X.A (noteFrame e X.env) (fun _ s₂ => wpAny (model X.prog X.w) X.A (setFlight e none) (fun _ s₃ =>
  wpAny (model X.prog X.w) X.A (handleBy e X.env [.ExceptHandler (some (.Tuple elts ek np)) (some n) (b₀ :: suite) pos']) (SP X pins D) X.xe s₃) X.xe s₂) X.xe s₁) (fun u s' xx => ?_) PassesOwn.looking).run [] s σ H D (I.toTry _) h) (fun f s1 hsp => ?_) (fun e s1 he => he)
 ·-- the catch
  obtain ⟨a, B, sI, pins', σ', H', cls, d, rfl, J', nb, up, sky, na, os, ag, b, hb1, hyes, hno⟩ := xx
  have J : Inv X pins σ' H' sI := J'.ofTry ok
  have sky' : Sky B (X.env :: X.outer) a (L2.Zc cls d) X.env.locals s'.heap := by rw [← hs]; exact sky
  show wpAny (model X.prog X.w) X.A (noteFrame (.ref a) X.env) _ _ _
  refine L2.Sky.land L2.Zc.steady hfr hf sky' fun h3' fl3' up3' => ?_
  have J3' : Inv X pins σ' H' { s' with heap := h3' } := J.landed nb fl3'.1 (up.trans up3') os ag
  obtain ⟨oe3, vs3, he3', hz3, hd3⟩ := fl3'.there
  have notFr : ∀ {h : Heap} {o : Obj} {vs : Array Value}, h.FunFrames B (X.env :: X.outer) → h.get? a = some o → o.data = .fields vs → a ∉ frs (X.env :: X.outer) := fun {h o vs} ff e dd hm => by
   obtain ⟨_, o', e', hnf⟩ := ff.mem hm
   rw [e] at e'; cases e'
   exact hnf _ dd
  have nfr := notFr fl3'.2.2.1 he3' hd3
  have nL : a ≠ X.env.locals := fun z => nfr (List.mem_filterMap.mpr ⟨X.env, List.mem_cons_self, by rw [hf, z]⟩)
  have nF : a ∉ X.fs := fun hm => by
   obtain ⟨e, he, q⟩ := List.mem_filterMap.mp hm
   exact nfr (List.mem_filterMap.mpr ⟨e, List.mem_cons_of_mem _ he, q⟩)
  have S3' := J3'.suite he3' hd3 na nL nF
  refine wpAny_handleBy_cons (codeAny_handlers_test ?_) (by intro q; cases q)
  refine Tuple_ (evalNames S3' hc ?_)
  refine wpAny_newObj_type ?_ (by show cs.toArray.size ≤ sizeLine; rw [List.size_toArray, sizeLine_eq]; omega)
  let h3 : Heap := h3'.push { cls := .type "tuple", dict := none, data := .seq cs.toArray }
  have kp : ∀ b o, h3'.get? b = some o → h3.get? b = some o := fun b o e => Heap.get?_push_of_some _ e
  have fl3 : HandSPX.FlyingZ B (X.env :: X.outer) a (L2.Zc cls d) h3 := flying_keep kp fl3'
  have up3 : s'.heap.UpToSlots h3 := up3'.trans (Heap.UpToSlots.of_keeps kp)
  have J3 : Inv X pins σ' H' { s' with heap := h3 } := J.landed nb fl3.1 (up.trans up3) os ag
  have he3 := kp _ _ he3'
  have LT : PySem.W.Looks (model X.prog X.w) h3 (typeOf (.ref a)) cls := fun A Q E s k q => wpAny_typeOf_ref (k _ _ he3) (by rw [hz3.1]; exact q)
  have LM := hm J3.kIn LT (Heap.get?_push_size _ rfl) hb1
  show wpAny _ _ _ _ _ { s' with heap := h3 }
  refine LM.here ?_
  cases b with
  | true =>
   refine codeAny_handlers_suite_as ?_
   refine HandSPX.lands_againZ fl3 fun h4 fl4 up4 => ?_
   have J4 : Inv X pins σ' H' { s' with heap := h4 } := J.landed nb fl4.1 ((up.trans up3).trans up4) os ag
   obtain ⟨oe4, vs4, he4, hz4, hd4⟩ := fl4.there
   have S4 := J4.suite he4 hd4 na nL nF
   refine store_ok (X := X.suite a ((a, oe4) :: (X.pn ++ pins))) (v := .ref a) S4 hN hi hloc rfl (fun s5 S5 => ?_) (.inr hln)
   refine wpAny_mono ((hsu a oe4 cls d (X.pn ++ pins) hz4 ⟨_, hd4⟩).run [] s5 _ H' _ S5 (hyes rfl a na)) (fun f s6 hsp => ?_) (fun _ _ z => False.elim z)
   have end_ : ∀ {σ6 : St} {H6 : Hp} {Q : Shared → Prop}, Inv (X.suite a ((a, oe4) :: (X.pn ++ pins))) [] σ6 H6 s6 → (∀ s7, Inv X pins (σ6.set i none) H6 s7 → Q s7) →
     wpAny (model X.prog X.w) X.A (do bindName X.env n .none; unbindBehindTheSuite X.env n pos') (fun _ s7 => Q s7) X.xe s6 := fun {σ6 H6 Q} S6 hq => gone_ok (S6.unsuite ok) hN hi hln hq
   cases f with
   | next =>
    obtain ⟨σ6, H6, S6, q6⟩ := hsp
    exact end_ S6 fun s7 J7 => ⟨_, _, J7, q6⟩
   | brk =>
    obtain ⟨σ6, H6, S6, q6⟩ := hsp
    exact end_ S6 fun s7 J7 => ⟨_, _, J7, q6⟩
   | cont =>
    obtain ⟨σ6, H6, S6, q6⟩ := hsp
    exact end_ S6 fun s7 J7 => ⟨_, _, J7, q6⟩
   | ret u =>
    obtain ⟨v6, σ6, H6, S6, r6, q6⟩ := hsp
    exact end_ S6 fun s7 J7 => ⟨_, _, _, J7, r6, q6⟩
  | false =>
   show wpAny _ X.A (handleBy (.ref a) X.env []) _ _ _
   refine wpAny_handleBy_nil ?_
   obtain ⟨k1, k2, k3, oe, vs, T, oT, ts', he, hz, hd, h1, hr⟩ := id fl3
   unfold PySem.passOn
   refine wpAny_bind (wpAny_field he hd h1 ?_)
   rw [if_neg (show ¬ ((Value.ref T == Value.none) = true) from by simp)]
   have fin : wpAny (model X.prog X.w) X.A (setFlight (.ref a) X.env.frame) (fun _ s4 => wpAny (model X.prog X.w) X.A (throw (.ref a) : Sem Flow) (SP X pins D) X.xe s4) X.xe { s' with heap := h3 } := by
    rw [hf]
    refine HandSPX.setFlight_upZ fl3 fun h4 hh4 up4 => wpAny_throw (tk _ _ ?_)
    exact ⟨a, B, sI, pins, σ', H', cls, d, rfl, J, nb, (up.trans up3).trans up4, .inr (.inr (by rw [hs]; exact hh4)), na, os, ag, hno rfl⟩
   first
    | exact wpAny_bind (wpAny_pure (wpAny_bind fin))
    | exact wpAny_bind fin
 ·cases f with
  | next =>
   obtain ⟨σ', H', J', q⟩ := hsp
   exact wpAny_execs_nil ⟨σ', H', J'.ofTry ok, q⟩
  | brk =>
   obtain ⟨σ', H', J', q⟩ := hsp
   exact ⟨σ', H', J'.ofTry ok, q⟩
  | cont =>
   obtain ⟨σ', H', J', q⟩ := hsp
   exact ⟨σ', H', J'.ofTry ok, q⟩
  | ret u =>
   obtain ⟨v, σ', H', J', r, q⟩ := hsp
   exact ⟨v, σ', H', J'.ofTry ok, r, q⟩
end
open LamX
section
variable {X : Cx} {pins : List (Addr × Obj)} {σ : L2.St} {H HZ : Hp} {s s1 : Shared}
theorem lam_takes {A : Around} {outer : List Env} {E : XK} {scope : Scope} {f c' : Addr} : L2.Takes (lamCx X A outer s H E scope f c') (fun cls d _ H' => E cls d H') := L2.takes_of rfl rfl rfl rfl
theorem act {CXg : CXT} {Eg : XK} {Ng : List Str} {qg : Str} {sg : Scope} {g f c' : Addr} {cdg pm ctv : Value} {params : Arguments} {body : Expr} {scope : Scope} {k i : Nat} {a : Str} {pn : List (Addr × Obj)} {xe : Value → Shared → Prop} {W : WX} {E : XK} {tb : TE} {p1 p2 : Pos}
  (I : Inv X pins σ H s) (L : LamS X.env.scope scope) (hf : s.heap.get? f = some (PySem.W.kla_obj "<lambda>" (X.env.qual ++ "<lambda>") params body scope (cloFrom X.env.cells scope.names []) pm c' ctv)) (hfn : H f = none) (hfr : f ∉ frs X.stack)
  (hbind : bindArgs (PySem.W.kla_fn "<lambda>" (X.env.qual ++ "<lambda>") params body scope (cloFrom X.env.cells scope.names []) pm (.ref c') ctv) ⟨[], []⟩ = pure [])
  (tk : L2.Takes ((cxOf CXg X.prog X.w X.K X.mg X.base Ng qg sg g cdg X.A X.stack s H Eg).tr pn xe) W) (hr : Room (k + 1) (X.A.deeper (envOfC qg sg s.heap.objs.size g cdg)))
  (hbody : ∀ (A : Around) (outer : List Env) (s : Shared) (H : Hp), Room k (A.deeper (lamEnv X scope s.heap.objs.size f c')) → PE (lamCx X A outer s H E scope f c') body tb)
  (hN : Ng[i]? = some a) (hv : Vis sg a) (hd : (a == ("__debug__" : Str)) = false := by decide) (hcd : (a == ("__classdict__" : Str)) = false := by decide) :
  PE ((cxOf CXg X.prog X.w X.K X.mg X.base Ng qg sg g cdg X.A X.stack s H Eg).tr pn xe) (.Call (.Name a p1) [] [] p2)
   (fun σZ HZ Q => (∀ cls d H', E cls d H' → W cls d σZ H') ∧ σZ[i]? = some (some (.ref f)) ∧ HZ c' = some (CodeO c' (X.env.qual ++ "<lambda>")) ∧ tb σ HZ Q) := by
 constructor
 intro pinsZ sZ σZ HZ Q IZ h
 obtain ⟨hW, hs, hc, ht⟩ := h
 refine wpAny_Call_Name_kw (thn ((pe_var (pos := p1) (i := i) hN hv hd hcd).run pinsZ sZ σZ HZ (fun v H1 => v = .ref f ∧ H1 = HZ) IZ ⟨.ref f, hs, rfl, rfl⟩) fun u s1 hq1 => ?_)
 obtain ⟨v, H1, I1, r1, ev, eH⟩ := hq1
 subst ev eH
 obtain rfl : u = Value.ref f := r1
 have gf := I1.base.keep f _ hf hfn hfr (fun z => nomatch (show f ∈ ([] : List Addr) from z))
 refine PySem.W.callWith_F0 ⟨_, _, _, _, gf⟩ ?_
 obtain ⟨⟨oc, vs, t, g1, g2, g3⟩, _, _⟩ := I1.hok c' _ hc
 have rc : codeAny (model X.prog X.w) (X.A.deeper (envOfC qg sg s.heap.objs.size g cdg)) (.call (.ref f) ⟨[], []⟩) (CR (L2.CX X.prog X.w) (envOfC qg sg s.heap.objs.size g cdg :: X.stack) X.prog X.w H1 s1 Q E) s1 := by
  refine PySem.W.kla_callFunE hr.depth gf rfl L.co L.gen rfl ⟨c', oc, vs, t, rfl, g1, g2, g3⟩ ?_
  rw [hbind]
  refine wpAny_pure (wpAny_newFunctionEnv (fun y hy => (L.own y hy).2) (fun y hy => absurd hy (by simp)) (fun h₁ hns hsb => ⟨I1.nolimit.fresh _ hsb, ?_⟩) L.kind)
  have J := lam_start2 (tk := s1.toks + ([] : List (Str × Value)).length) (E := E) (f := f) (c' := c') I L I1.env0 hr.hd I1.base hns (fun b o e => hsb.extBut b o (Nat.ne_of_lt (Heap.lt_size e)) (Heap.get?_push_of_some _ e))
  refine PySem.W.kla_codeExpr (wpAny_mono ((hbody _ _ s1 H1 (hr.deeper _)).run [] _ _ H1 Q J ht) (fun v s' hq => ?_) fun e s' hq => hq)
  obtain ⟨w', H', J', rv, q⟩ := hq
  exact ⟨w', H', J'.os, J'.bare, J'.base, J'.hok, rv, q⟩
 refine wpAny_call (codeAny_mono rc fun r s' hq => ?_)
 cases r with
 | error e => exact tk e s' (L2.XE.of_call I1 hW hq)
 | ok fl =>
  cases fl with
  | ret u => exact I1.after hq
  | next => exact False.elim hq
  | brk => exact False.elim hq
  | cont => exact False.elim hq
end
def Gives (X : Cx) (Ng : List Str) (x : Str) (sg : Scope) (g : Addr) (cdg : Value) (bg : List Stmt) (a q : Str) (k : Nat) (TT : (XK → Hp → VK → Prop) → Hp → VK → Prop) : Prop :=
 ∀ (f c' : Addr) (s : Shared) (H : Hp) (Q : VK) (tl : XK → Hp → VK → Prop), Room (k + 1) (X.A.deeper (envOfC x sg s.heap.objs.size g cdg)) →
  (∀ (W : WX) (pn : List (Addr × Obj)) (xe : Value → Shared → Prop) (E : XK) (p1 p2 : Pos), L2.Takes ((cxOf C8.CX0 X.prog X.w X.K X.mg X.base Ng x sg g cdg X.A X.stack s H C8.E0).tr pn xe) W →
   PE ((cxOf C8.CX0 X.prog X.w X.K X.mg X.base Ng x sg g cdg X.A X.stack s H C8.E0).tr pn xe) (.Call (.Name a p1) [] [] p2) (fun σZ HZ Q => (∀ cls d H', E cls d H' → W cls d σZ H') ∧ σZ[0]? = some (some (.ref f)) ∧ HZ c' = some (CodeO c' q) ∧ tl E HZ Q)) →
  H c' = some (CodeO c' q) → TT tl H Q →
  ∃ t, PSs (cxOf C8.CX0 X.prog X.w X.K X.mg X.base Ng x sg g cdg X.A X.stack s H C8.E0).nox bg t ∧ t { nx := fun _ H' => Q .non H', rt := Q } (L2.start Ng [.ref f]) H
section
variable {X : Cx}
theorem lamcall {T : List (Addr × Str)} {TT : (XK → Hp → VK → Prop) → Hp → VK → Prop} {x a : Str} {g c P : Addr} {k : Nat} {pg : Arguments} {bg : List Stmt} {sg : Scope} {dV kV doc pm cdv ct oc : Value} {an od : Option Addr} {osl : Array (Option Value)} {Ng : List Str}
  {params : Arguments} {body : Expr} {scope : Scope} {t : XK → TE} {p lpos pos : Pos} (hg : Gl X x) (hm : X.mg x = some (.ref g)) (hk : PySem.W.keepIn X.K (.ref g) = true)
  (lk : X.K.lookup g = some ⟨oc, od, .func (PySem.W.fnOf x x pg bg sg dV kV doc pm an cdv ct), osl⟩) (hcg : PySem.W.codeIn X.K cdv x = true) (hb : L2.Binds X.K (PySem.W.fnOf x x pg bg sg dV kV doc pm an cdv ct) [a] []) (Sg : FnScope Ng [a] sg) (hNg : Ng[0]? = some a) (hva : Vis sg a)
  (hG : Gives X Ng x sg g cdv bg a (X.env.qual ++ "<lambda>") k TT)
  (TB : TabB X.base X.mg c P) (hcode : X.env.code = .ref c) (hmT : (P, X.env.qual ++ "<lambda>") ∈ T) (hu : ∀ p ∈ T, p.1 = P → p.2 = X.env.qual ++ "<lambda>") (hr : Room (k + 2) X.A) (L : LamS X.env.scope scope) (hdef : defaultsOf params X.env = ([], []))
  (hbind : ∀ (q : Str) (cl : List (Str × Addr)) (pm cv ctv : Value), bindArgs (PySem.W.kla_fn "<lambda>" q params body scope cl pm cv ctv) ⟨[], []⟩ = pure [])
  (hbody : ∀ (A : Around) (outer : List Env) (s : Shared) (H : Hp) (E : XK) (f c' : Addr), Room k (A.deeper (lamEnv X scope s.heap.objs.size f c')) → PE (lamCx X A outer s H E scope f c') body (t E))
  (hdb : (x == ("__debug__" : Str)) = false := by decide) (hd : (a == ("__debug__" : Str)) = false := by decide) (hcd : (a == ("__classdict__" : Str)) = false := by decide) :
  PE X (.Call (.Name x p) [.Lambda params body scope lpos] [] pos) (tLam T TT t) := by
 constructor
 intro pins s σ H Q I h
 obtain ⟨hT, h⟩ := h
 refine wpAny_Call_Name_kw (ld_glob I hg hm ?_ hdb)
 refine PySem.W.callWith_K (h₀ := X.base) I.ok.mod.kin hk ?_ (by rfl) (by rfl)
 refine Calls.spliced_cons (lam_make2 I TB hcode hmT hu hT hdef (L.has I.ok) fun f c' pm' ctv H1 s' I1 eN T1 hf hfn hfr hco => ?_)
 refine Calls.spliced_nil ⟨I1.kIn, ?_⟩
 have rc : codeAny (model X.prog X.w) X.A (.call (.ref g) ⟨[.ref f], []⟩) (CR C8.CX0 X.stack X.prog X.w H1 s' Q C8.E0) s' := by
  refine run_ofS (N := Ng) (ps := [a]) (us := [.ref f]) (vs := [.ref f]) lk hcg Sg hr I1.env0 (hb s' [.ref f] I1.kIn rfl) (.cons rfl .nil) rfl fun hr' => ?_
  obtain ⟨t', ht', hq'⟩ := hG f c' s' H1 Q (fun E H' Q' => t E σ H' Q') hr' (fun W pn xe E p1 p2 tk => act (i := 0) I1 L hf hfn hfr (hbind _ _ _ _ _) tk hr' (fun A outer s H hr2 => hbody A outer s H E f c' hr2) hNg hva hd hcd) hco (h H1 eN T1)
  exact ⟨t', ht'.nox, hq'⟩
 refine wpAny_call (codeAny_mono rc fun r s2 hq => ?_)
 cases r with
 | error e => exact (show False from hq).elim
 | ok fl =>
  cases fl with
  | ret u => exact I1.after hq
  | next => exact False.elim hq
  | brk => exact False.elim hq
  | cont => exact False.elim hq
end
end L2T
namespace Z
open PySem PySem.Spec L2
open PyProof.Rows hiding St
abbrev SpZ := Addr → Value → Option Addr → SpP
structure FnZ (P : Program) (w : World) (K : PySem.W.Frag) (mg : Str → Option Value) (base : Heap) (k : Nat) (f : Addr) (fd : FuncData) (ps : List Str) (sp : Addr → Value → Option Addr → Sp) : Prop where
 len : ∀ a cls d vs H Q E, sp a cls d vs H Q E → vs.length = ps.length
 run : ∀ (A : Around) (outer : List Env) (s : Shared) (H : Hp) (args : Args) (us : List Value) (vs : List V) (Q : VK) (p : Addr × Obj) (cls : Value) (d : Option Addr), L2H.RoomH k A → L2.Zc cls d p.2 → (∃ xs, p.2.data = .fields xs) → L2H.PinOk outer H s p → Env0 P w K mg base A outer s H →
  BindsTo s fd args (ps.zip us) → Vals vs us → sp p.1 cls d vs H Q E0 → codeAny (model P w) A (.call (.ref f) args) (CR CX0 outer P w H s Q E0) s
section
variable {P : Program} {w : World} {K : PySem.W.Frag} {mg : Str → Option Value} {base : Heap} {T : List (Addr × Str)}
abbrev cxZ (P : Program) (w : World) (K : PySem.W.Frag) (mg : Str → Option Value) (base : Heap) (N : List Str) (qual : Str) (sc : Scope) (f : Addr) (cdv : Value) (A : Around) (outer : List Env) (s : Shared) (H : Hp) (E : XK) (p : Addr × Obj) : Cx :=
 (L2H.cxH CX0 P w K mg base N qual sc f cdv A outer s H E p).nox
theorem okPZ {x qual : Str} {st : Stmt} {f : Addr} {fd : FuncData} {N ps : List Str} {k : Nat} {sp : SpZ} (Fn : Fun K x qual st f fd) (S : FnScope N ps (defScope st)) (hl : ∀ a cls d args P, sp a cls d args P → args.length = ps.length) (hn : ps.length ≤ N.length)
  (hbody : ∀ (cdv : Value) (A : Around) (outer : List Env) (s : Shared) (H : Hp) (E : XK) (p : Addr × Obj) (cls : Value) (d : Option Addr), PinX (cxZ P w K mg base N qual (defScope st) f cdv A outer s H E p) p.1 cls d → L2H.RoomH k (A.deeper (envOfC qual (defScope st) s.heap.objs.size f cdv)) →
   ∃ ts, PSs (cxZ P w K mg base N qual (defScope st) f cdv A outer s H E p) (defBody st) (upS K T ts) ∧ ∀ args P, sp p.1 cls d args P → ts { nx := fun _ => P .non, rt := fun x _ => P x } (startP N.length args)) :
  FnZ P w K mg base (k + 1) f fd ps (fun a cls d => upSp K T (sp a cls d)) := by
 obtain ⟨oc, od, kV, doc, pm, an, cdv, ct, osl, rfl, lk, hcd⟩ := Fn.ex
 refine ⟨fun a cls d => len_sp (hl a cls d), fun A outer s H args us vs Q p cls d hr hz hf hpin e0 hb r hsp => ?_⟩
 have hlen := len_sp (hl p.1 cls d) _ _ _ _ hsp
 have KX : K.In s.heap := e0.mod.kin.keeps fun b o e => (e0.bs b o e).1
 have lim : s.heap.NoLimit := e0.mod.nolimit.keeps fun b o e => (e0.bs b o e).1
 have hkind : ∀ y ∈ ps.zip us, (defScope st).names.lookup y.1 = some .local ∨ ((defScope st).names.lookup y.1 = some .cell ∧ ((cellsFrom (s.heap.objs.size + 1) (defScope st).names []).lookup y.1).isSome = true) := fun ⟨n, v⟩ hy =>
  (S.par n (List.of_mem_zip hy).1).imp id fun q => ⟨q, PySem.W.cellsFrom_some _ _ _ (.inl q)⟩
 refine codeAny_call_function hr.depth (KX _ _ lk) rfl S.co S.gen rfl (PySem.W.codeRec_of KX hcd) (hb _ _ _ _ ?_)
 refine wpAny_newFunctionEnv_cells S.kind hkind fun env he s1 x => ?_
 subst he
 refine ⟨lim.keeps x.toInCall.keep, codeAny_func ?_⟩
 obtain ⟨ts, ht, rd⟩ := hbody cdv A outer s H E0 p cls d ⟨p.2, List.mem_singleton.mpr rfl, hz, hf⟩ (hr.deeper _)
 have hq := body_sp hsp (fun args P hs => by rw [hl _ _ _ _ _ hs]; exact hn) (N := N) rd
 have I := L2H.inv_startH (CX := CX0) (E := E0) S hpin e0 hlen r x
 refine wpAny_mono (ht.nox.run [] s1 (start N vs) H _ I hq) (fun fl s' hs => ?_) fun e s' hs => hs
 have fin : ∀ {σ' : St} {H' : Hp} {v : V} {u : Value}, Inv (L2H.cxH CX0 P w K mg base N qual (defScope st) f cdv A outer s H E0 p) [] σ' H' s' → RelV v u → Q v H' → CE outer P w H s Q u s' :=
  fun {σ' H' v u} J rv q => ⟨v, H', J.os, J.bare, J.base, J.hok, rv, q⟩
 cases fl with
 | ret u =>
  obtain ⟨v, σ', H', J, rv, q⟩ := hs
  exact fin J rv q
 | next =>
  obtain ⟨σ', H', J, q⟩ := hs
  exact fin (v := V.non) (u := Value.none) J rfl q
 | brk => exact False.elim hs.choose_spec.choose_spec.2
 | cont => exact False.elim hs.choose_spec.choose_spec.2
end
section
variable {X : Cx} {T : List (Addr × Str)} {e : Expr} {es : List Expr} {t : TAp} {pos p : Pos} {k : Nat} {f : Addr} {fd : FuncData} {ps : List Str} {sz : SpZ} {x : Str} {a : Addr} {cls : Value} {d : Option Addr}
theorem pe_callZ {S : Addr → Value → Option Addr → Sp} {ta : TA} (F : FnZ X.prog X.w X.K X.mg X.base k f fd ps S) (hr : L2H.RoomH k X.A) (hz : PinX X a cls d) (hg : Gl X x) (hm : X.mg x = some (.ref f)) (hk : PySem.W.keepIn X.K (.ref f) = true) (hb : Binds X.K fd ps [])
  (ha : PA X (e :: es) ta) (hdb : (x == ("__debug__" : Str)) = false := by decide) (he : starEach (e :: es) X.env = (false, eval e X.env) :: starEach es X.env := by rfl) (hpl : (backTo pos (starEach es X.env)).any (·.1) = false := by rfl) :
  PE X (.Call (.Name x p) (e :: es) [] pos) (tCall (S a cls d) [] E0 ta) := by
 constructor
 intro pins s σ H Q I h
 refine wpAny_Call_Name_kw (ld_glob I hg hm ?_ hdb)
 refine PySem.W.callWith_K (h₀ := X.base) I.ok.mod.kin hk (thn (ha.run pos pins s σ H _ I h) fun us s1 hq => ?_) he hpl
 obtain ⟨vs, H1, I1, r, q⟩ := hq
 refine ⟨I1.kIn, ?_⟩
 rw [List.append_nil] at q
 obtain ⟨oe, hp, hzc, hf⟩ := hz
 have hl : us.length = ps.length := by rw [← r.length]; exact F.len _ _ _ _ _ _ _ q
 have b := hb s1 us I1.kIn (by rw [List.append_nil]; exact hl)
 rw [List.append_nil] at b
 have P1 := I1.pin (a, oe) (List.mem_append_left _ hp)
 have hpin : L2H.PinOk X.stack H1 s1 (a, oe) := ⟨P1.1, P1.2.1, fun hm => (List.mem_cons.mp (I1.stkSub a hm)).elim P1.2.2.1 P1.2.2.2.1, P1.2.2.2.2⟩
 refine wpAny_call (codeAny_mono (F.run X.A X.stack s1 H1 ⟨us, []⟩ us vs Q (a, oe) cls d hr hzc hf hpin I1.env0 b r q) fun r s' hq => ?_)
 cases r with
 | error e => exact (show False from hq).elim
 | ok fl =>
  cases fl with
  | ret u => exact I1.after hq
  | next => exact False.elim hq
  | brk => exact False.elim hq
  | cont => exact False.elim hq
theorem z_callZ (F : FnZ X.prog X.w X.K X.mg X.base k f fd ps (fun a cls d => upSp X.K T (sz a cls d))) (hr : L2H.RoomH k X.A) (hz : PinX X a cls d) (hg : Gl X x) (hm : X.mg x = some (.ref f)) (hk : PySem.W.keepIn X.K (.ref f) = true) (hb : Binds X.K fd ps [])
  (ha : PA X (e :: es) (upA X.K T t)) (hdb : (x == ("__debug__" : Str)) = false := by decide) (he : starEach (e :: es) X.env = (false, eval e X.env) :: starEach es X.env := by rfl) (hpl : (backTo pos (starEach es X.env)).any (·.1) = false := by rfl) :
  PE X (.Call (.Name x p) (e :: es) [] pos) (up X.K T (tCallP (sz a cls d) [] t)) :=
 PE.weak (pe_callZ F hr hz hg hm hk hb ha hdb he hpl) fun σ H Q q => call_up (fun _ _ => .nil) q
end
def noSl : Sl → Sl
 | .va x => .va x
 | _ => .no
def noOwn (η : EP') : EP' := η.map noSl
section
variable {K : PySem.W.Frag} {T : List (Addr × Str)} {F : Addr → Prop} {σ : St} {η : EP'} {H H1 : Hp}
theorem noOwn_va {i : Nat} {x : PV} (h : (noOwn η)[i]? = some (.va x)) : η[i]? = some (.va x) := by
 unfold noOwn at h
 rw [List.getElem?_map] at h
 obtain ⟨s, hs, e⟩ := Option.map_eq_some_iff.mp h
 cases s <;> first | (cases e; exact hs) | cases e
theorem noOwn_ow {i : Nat} {o : Ow} (h : (noOwn η)[i]? = some (.ow o)) : False := by
 unfold noOwn at h
 rw [List.getElem?_map] at h
 obtain ⟨s, hs, e⟩ := Option.map_eq_some_iff.mp h
 cases s <;> cases e
theorem not_own {σ : St} {a : Addr} (h : IsOwn σ (noOwn η) a) : False := by
 obtain ⟨i, o, _, e⟩ := h
 exact noOwn_ow e
theorem Rs.none (R : Rs K T F σ η H) : Rs K T (Oof F σ η) σ (noOwn η) H := by
 refine ⟨by unfold noOwn; rw [List.length_map]; exact R.len, fun i x e => ?_, fun i o e => (noOwn_ow e).elim, fun i j o o' a e => (noOwn_ow e).elim, R.trO, R.tb⟩
 obtain ⟨v, h1, h2⟩ := R.va i x (noOwn_va e)
 exact ⟨v, h1, h2.mono fun b z => z.elim id fun z => (not_own z).elim⟩
theorem gr_none {σ' : St} {η' : EP'} (e : Ext σ (noOwn η) σ' η' H H1) : Gr H H1 := ⟨fun b o h t => e.keep b o h (fun z => not_own z) t, e.live⟩
theorem gr_extN (e : LamX.ExtN H H1) : Gr H H1 := ⟨e, fun b n z => n fun o h => Classical.byContradiction fun q => by
 have t : ∀ ps, o ≠ .tbl ps := fun ps y => q ⟨ps, y⟩
 exact z.no (e b o h t) t⟩
theorem Gr.trans {H2 : Hp} (a : Gr H H1) (b : Gr H1 H2) : Gr H H2 := ⟨fun c o h t => b.keep c o (a.keep c o h t) t, fun c n => b.live c (a.live c n)⟩
end
def stZ (f a : Addr) : St := [some (.ref f), some (.ref a)]
def ηZ (f a : Addr) (d : Option Addr) (fs : List (Str × PV)) : EP' := [.va (.raw (.ref f)), .va (.exn a d fs)]
def TTc (K : PySem.W.Frag) (T : List (Addr × Str)) (cs : List Value) (ret : Str) (tsu : Addr → Value → Option Addr → TSp) : (XK → Hp → VK → Prop) → Hp → VK → Prop := fun tl H Q =>
 ∀ f : Addr, tl (fun cls d H' => PySem.W.exmAny K cls cs = some true ∧ ∀ a, H' a = none → upS K T (tsu a cls d) { nx := fun _ H2 => Q .non H2, rt := Q } (stZ f a) H') H
  fun v H' => 2 ≤ sizeLine ∧ ∀ p, H' p = none → Q (.ref p) (upd H' p (.lst [.str ret, v]))
theorem caught_gives {X : Cx} {T : List (Addr × Str)} {Ng : List Str} {x a q ret n : Str} {sg : Scope} {g : Addr} {cdg : Value} {j ek k : Nat} {p1 p2 p3 p5 p6 p7 p8 np : Pos} {elts : List Expr} {cs : List Value} {b₀ : Stmt} {suite : List Stmt} {tsu : Addr → Value → Option Addr → TSp}
  (hN : Ng.Nodup) (h0 : Ng = [a, n]) (hln : sg.names.lookup n = some .local)
  (hc : ∀ (s : Shared) (H : Hp), L2N.NamesL (cxOf CX0 X.prog X.w X.K X.mg X.base Ng x sg g cdg X.A X.stack s H E0).nox elts cs) (hm : L2N.TupM X.prog X.w X.K cs) (hl : cs.length ≤ 1000)
  (hsu : ∀ (s : Shared) (H : Hp), Room (k + 1) (X.A.deeper (envOfC x sg s.heap.objs.size g cdg)) → ∀ (a : Addr) (oe : Obj) (cls : Value) (d : Option Addr) (pn : List (Addr × Obj)), L2.Zc cls d oe → (∃ vs, oe.data = .fields vs) →
   PSs ((cxOf CX0 X.prog X.w X.K X.mg X.base Ng x sg g cdg X.A X.stack s H E0).nox.suite a ((a, oe) :: pn)) (b₀ :: suite) (upS X.K T (tsu a cls d))) :
  L2T.Gives X Ng x sg g cdg [.Try [.Return (some (.List [.Constant (.str ret) j p5, .Call (.Name a p1) [] [] p2] p6)) p3] [.ExceptHandler (some (.Tuple elts ek np)) (some n) (b₀ :: suite) p7] [] [] p8] a q k (TTc X.K T cs ret tsu) := by
 intro f c' s H Q tl hr act hc' h
 subst h0
 refine ⟨_, pss_one (L2T.ps_try_tup_as (X := (cxOf CX0 X.prog X.w X.K X.mg X.base [a, n] x sg g cdg X.A X.stack s H E0).nox) (i := 1) (Wout := fun _ _ _ _ => False)
   (tb := fun W D σ H => ∃ Ech : XK, (∀ cls d H', Ech cls d H' → W cls d σ H') ∧ σ[0]? = some (some (.ref f)) ∧ H c' = some (LamX.CodeO c' q) ∧ tl Ech H fun v H' => 2 ≤ sizeLine ∧ ∀ p, H' p = none → D.rt (.ref p) (upd H' p (.lst [.str ret, v])))
   (ts := fun a cls d => upS X.K T (tsu a cls d)) rfl rfl hN rfl hln (hc s H) hm hl LamX.takes0 (fun W pn xe tk _ => ?_) (hsu s H hr)), ?_⟩
 ·constructor
  intro pins s' σ H' D I h'
  obtain ⟨Ech, h1, h2, h3, h4⟩ := h'
  exact (pss_one (ps_ret (pe_lst (pa_cons pe_str (pa_cons (act W pn xe Ech p1 p2 tk) pa_nil))))).run pins s' σ H' D I ⟨h1, h2, h3, h4⟩
 ·refine ⟨_, fun cls d H' hE => ?_, rfl, hc', h f⟩
  obtain ⟨hx, hs⟩ := hE
  exact ⟨true, hx, fun _ a na => hs a na, fun z => by cases z⟩
def tCaughtP (K : PySem.W.Frag) (cs : List Value) (ret : Str) (te : TXp) (tsu : Addr → Value → Option Addr → TSp) : TEp := fun η P => te (noOwn η) (fun x _ => P (.lst [.str ret, x]) η) fun C fs _ => PySem.W.exmAny K (.ref C) cs = some true ∧
 ∀ (f a : Addr) (d : Option Addr), (fs = [] ∨ d.isSome) → tsu a (.ref C) d { nx := fun _ => P .non η, rt := fun y _ => P y η } (ηZ f a d fs)
theorem caught_up {K : PySem.W.Frag} {T : List (Addr × Str)} {cs : List Value} {ret : Str} {te : TXp} {tsu : Addr → Value → Option Addr → TSp} {σ : St} {H : Hp} {Q : VK} (q : up K T (tCaughtP K cs ret te tsu) σ H Q) :
  LamX.tLam T (TTc K T cs ret tsu) (fun E => upX K T (fun cls d _ H' => E cls d H') te) σ H Q := by
 obtain ⟨F, η, P, R, h, k⟩ := q
 refine ⟨R.tb, fun H1 eN T1 f => ?_⟩
 have g1 := gr_extN eN
 have R1 := R.gr g1 T1
 refine ⟨Oof F σ η, noOwn η, _, _, R1.none, h, fun x η' v H' hp e R' r' => ?_, fun C fs η' d σ' H' hz e R' xa => ?_⟩
 ·have g2 := gr_none e
  have R2 := R1.gr g2 R'.tb
  refine ⟨by decide, fun p hp' => ?_⟩
  have sm := Same.new (o := .lst [.str ret, v]) hp'
  have hr : Reps K (Oof F σ η) H' [.str ret, x] [.str ret, v] := by
   unfold Reps
   exact ⟨.str ret, [v], rfl, by unfold Rep; rfl, by unfold Reps; exact ⟨v, [], rfl, r'.mono fun b z => .inl z, by unfold Reps; rfl⟩⟩
  exact k _ η _ _ hp ((g1.trans g2).ext.trans (.same sm)) (R2.same sm) (rep_newL R2.trO hp' hr)
 ·obtain ⟨hx, hs⟩ := hz
  refine ⟨hx, fun a na => ?_⟩
  have g2 := gr_none e
  have R2 := R1.gr g2 R'.tb
  have x2 : XAt K (Oof F σ η) H' d fs := xa.mono fun b z => .inl z
  have own0 : ∀ b, ¬ IsOwn (stZ f a) (ηZ f a d fs) b := fun b ⟨i, o, _, e⟩ => by
   match i, e with
   | 0, e => cases e
   | 1, e => cases e
   | _ + 2, e => cases e
  have RZ : Rs K T (Oof F σ η) (stZ f a) (ηZ f a d fs) H' := by
   refine ⟨rfl, fun i y e => ?_, fun i o e => ?_, fun i j o o' b e => ?_, R2.trO, R2.tb⟩
   ·match i, e with
    | 0, e => cases e; exact ⟨_, rfl, by unfold Rep; rfl⟩
    | 1, e => cases e; exact ⟨_, rfl, (x2.rep a).mono fun b z => z.elim id fun z => (own0 b z).elim⟩
    | _ + 2, e => cases e
   ·match i, e with
    | 0, e => cases e
    | 1, e => cases e
    | _ + 2, e => cases e
   ·match i, e with
    | 0, e => cases e
    | 1, e => cases e
    | _ + 2, e => cases e
  have gZ : ∀ {σ3 : St} {η3 : EP'} {H3 : Hp}, Ext (stZ f a) (ηZ f a d fs) σ3 η3 H' H3 → Gr H' H3 := fun e => ⟨fun b o h t => e.keep b o h (own0 b) t, e.live⟩
  refine ⟨Oof F σ η, ηZ f a d fs, _, RZ, hs f a d x2.some, fun η3 σ3 H3 q3 e3 R3 => ?_, fun _ _ _ q => q.elim, fun _ _ _ q => q.elim, fun y η3 σ3 v H3 q3 e3 R3 r3 => ?_⟩
  ·have g3 := (g1.trans g2).trans (gZ e3)
   exact k _ η _ _ q3 g3.ext (R.gr g3 R3.tb) rep_non
  ·have g3 := (g1.trans g2).trans (gZ e3)
   exact k _ η _ _ q3 g3.ext (R.gr g3 R3.tb) (r3.mono fun b z => .inl z)
abbrev PrX' := PySem.W.Frag → Addr → (Str → Addr) → List PV → (PV → Prop) → WC → Prop
abbrev PrRX' := PySem.W.Frag → Addr → (Str → Addr) → Ow → List PV → (PV → Ow → Prop) → WC → Prop
def KnT (K : PySem.W.Frag) (x : PV) : Prop := Kn K x ∧ ∀ n s e, x = .tup [n, s, e] → Kn K n ∧ Kn K s ∧ Kn K e ∧ ∀ z, n = .str z → z.length ≤ sizeLine
def latB (e : PV) : PV → Bool
 | .int i => isLat i e
 | _ => false
def isTripB : PV → Bool
 | .tup [n, s, e] => isNm n && (isStn s && latB e s)
 | _ => false
def nmOf : PV → Str
 | .tup (.str w :: _) => w
 | _ => ("" : Str)
def vGoT : Nat → Str → List PV → Nat
 | i, _, [] => i
 | i, b, x :: xs => if i = 24 ∨ isTripB x = false ∨ ¬ b.cps.toList < (nmOf x).cps.toList then i else vGoT (i + 1) (nmOf x) xs
def vNT (xs : List PV) : Nat := vGoT 0 ("" : Str) xs
def seatsB : PV → Bool
 | .int n => decide (1 ≤ n) && decide (n ≤ 20)
 | _ => false
def KnR (K : PySem.W.Frag) (y : PV) : Prop := Kn K y ∧ ∀ xs, y = .tup xs → xs.length ≤ sizeLine ∧ ∀ x ∈ xs, KnT K x
def sp_is_tripE : PrP := fun K _ args P => ∃ x, args = [x] ∧ KnT K x ∧ P (.bl (isTripB x))
def sp_valid_beginningE : PrP := fun K _ args P => ∃ xs, args = [.tup xs] ∧ KnR K (.tup xs) ∧ P (.int (vNT xs))
def sp_check_seatsX : PrX' := fun K _ XC args P Zw => ∃ x, args = [x] ∧ Kn K x ∧ (seatsB x = true → P .non) ∧ (seatsB x = false → Zw (XC ("InvalidSeats" : Str)) [(("value" : Str), x)])
def sp_Line_initX : PrRX' := fun K C XC o args P Zw => ∃ x y, o = .o C [] ∧ args = [x, y] ∧ Kn K x ∧ KnR K y ∧
 (∀ n rs, x = .int n → y = rowsP rs → 1 ≤ n → n ≤ 20 → Rw rs → P .non (.o C (lineF n rs))) ∧
 (seatsB x = false → Zw (XC ("InvalidSeats" : Str)) [(("value" : Str), x)]) ∧
 (seatsB x = true → isTu y = false → Zw (XC ("InvalidTrips" : Str)) [(("index" : Str), .non)]) ∧
 (∀ xs, seatsB x = true → y = .tup xs → vNT xs < xs.length → Zw (XC ("InvalidTrips" : Str)) [(("index" : Str), .int (vNT xs))])
def ts_is_tripE (K : PySem.W.Frag) (CLine : Addr) : TSp := tSeqP (tIfSP (tOrP (tNotP (tBlP (tCBP (rIsI K) (tConsP (tVarP 0) (tConsP (tConP (.raw (.ty "tuple"))) (tNilP)))))) (tBlP (tOpP (rEqI true) (tCBP rLen (tConsP (tVarP 0) (tNilP))) (tConP (.int 3))))) (tRetP (tConP (.bl false))) (tNextP)) (tSeqP (tAsgP (tVarP 0) (gTupP 3 (gConsP (gNameP 1) (gConsP (gNameP 2) (gConsP (gNameP 3) (gNilP)))))) (tRetP (tAndVP (tCallP (sp_is_trip_name K CLine) [] (tConsP (tVarP 1) (tNilP))) (tAndVP (tCallP (sp_is_station K CLine) [] (tConsP (tVarP 2) (tNilP))) (tCallP (sp_is_later K CLine) [] (tConsP (tVarP 3) (tConsP (tVarP 2) (tNilP))))))))
def ts_valid_beginningE (K : PySem.W.Frag) (CLine : Addr) : TSp := tSeqP (tSetP 1 (tConP (.str ("" : Str)))) (tSeqP (tForP (iEnumP (tVarP 0)) (gTupP 2 (gConsP (gNameP 2) (gConsP (gNameP 3) (gNilP)))) (tSeqP (tIfSP (tOrP (tBlP (tOpP (rEqI false) (tVarP 2) (tConP (.int 24)))) (tOrP (tNotP (tBlP (tCallP (sp_is_tripE K CLine) [] (tConsP (tVarP 3) (tNilP))))) (tBlP (tOpP rLe (tOpP rIxP (tVarP 3) (tConP (.int 0))) (tVarP 1))))) (tRetP (tVarP 2)) (tNextP)) (tSetP 1 (tOpP rIxP (tVarP 3) (tConP (.int 0)))))) (tRetP (tCBP rLen (tConsP (tVarP 0) (tNilP)))))
def ts_check_seatsX (K : PySem.W.Frag) (CLine : Addr) (XC : Str → Addr) : TSX := tIfX (tOrP (tNotP (tBlP (tCallP (sp_is_integer K CLine) [] (tConsP (tVarP 0) (tNilP))))) (tNotP (tBlP (tChainP rLe rLe (tConP (.int 1)) (tVarP 0) (tConP (.int 20)))))) (tRaiseX (XC ("InvalidSeats" : Str)) ("value" : Str) (tVarP 0)) (tPlX (tNextP))
def ts_Line_initX (K : PySem.W.Frag) (CLine : Addr) (XC : Str → Addr) : TSX := tSeqX (tExX (tCallX (sp_check_seatsX K CLine XC) [] (tConsP (tVarP 1) (tNilP)))) (tSeqX (tIfX (tNotP (tBlP (tCBP (rIsI K) (tConsP (tVarP 2) (tConsP (tConP (.raw (.ty "tuple"))) (tNilP)))))) (tRaiseX (XC ("InvalidTrips" : Str)) ("index" : Str) (tConP .non)) (tPlX (tNextP))) (tSeqX (tPlX (tSetP 3 (tCallP (sp_valid_beginningE K CLine) [] (tConsP (tVarP 2) (tNilP))))) (tSeqX (tIfX (tBlP (tOpP rLt (tVarP 3) (tCBP rLen (tConsP (tVarP 2) (tNilP))))) (tRaiseX (XC ("InvalidTrips" : Str)) ("index" : Str) (tVarP 3)) (tPlX (tNextP))) (tPlX (tSeqP (tFldSP CLine 0 ("seat_count" : Str) (tVarP 1)) (tSeqP (tFldSP CLine 0 ("rows" : Str) (tVarP 2)) (tFldSP CLine 0 ("queue" : Str) (tCBP rTuple (tConsP (tSortLP 1 0 (tVarP 2)) (tNilP))))))))))
section
variable {K : PySem.W.Frag} {C : Addr} {XC : Str → Addr} {args : List PV} {P : PV → Prop} {PF : List PV → Prop} {PR : PV → Ow → Prop} {o : Ow} {Zw : WC}
theorem len_is_tripE (h : sp_is_tripE K C args P) : args.length = 1 := by obtain ⟨_, rfl, _⟩ := h; rfl
theorem len_valid_beginningE (h : sp_valid_beginningE K C args P) : args.length = 1 := by obtain ⟨_, rfl, _⟩ := h; rfl
theorem len_check_seatsX (h : sp_check_seatsX K C XC args P Zw) : args.length = 1 := by obtain ⟨_, rfl, _⟩ := h; rfl
theorem len_Line_initX (h : sp_Line_initX K C XC o args PR Zw) : args.length = 2 := by obtain ⟨_, _, _, rfl, _⟩ := h; rfl
end
section
variable {K : PySem.W.Frag} {T : List (Addr × Str)} {D : EndsP} {Zw : WZ} {η : EP'} {sp : SpX} {dps : List PV} {t : TAp}
theorem w_seqX1 {t u : TSX} (h : t { D with nx := fun η' => u D Zw η' } Zw η) : tSeqX t u D Zw η := h
theorem w_plX1 {t : TSp} (h : t D η) : tPlX t D Zw η := h
theorem w_ifX1 {c : TTp} {t u : TSX} (h : c η fun b η1 => if b = true then t D Zw η1 else u D Zw η1) : tIfX c t u D Zw η := h
theorem w_raiseX1 {C : Addr} {f : Str} {te : TEp} (h : te η fun y η1 => Zw C [(f, y)] η1) : tRaiseX C f te D Zw η := h
theorem w_exX1 {te : TXp} (h : te η (fun _ η1 => D.nx η1) Zw) : tExX te D Zw η := h
theorem w_callX1 {P : PV → EP' → Prop} (h : t η fun args η1 => sp (args ++ dps) (fun z => P z η1) fun C fs => Zw C fs η1) : tCallX sp dps t η P Zw := h
end
theorem w_enumX {te : TEp} {η : EP'} {QA : List PV → EP' → Prop} (h : te η fun x η1 => match x with
 | .tup xs => QA (enumP xs) η1
 | _ => False) : iEnumP te η QA := h
theorem enumX_len (xs : List PV) : (enumP xs).length = xs.length := by simp [enumP]
theorem trip_of {x : PV} (h : isTripB x = true) : ∃ r : Trip, x = rowP r ∧ isNm (.str r.1) = true ∧ 0 ≤ r.2.1 ∧ r.2.1 < r.2.2 := by
 unfold isTripB at h
 split at h
 ·rename_i n s e
  rw [Bool.and_eq_true, Bool.and_eq_true] at h
  obtain ⟨h1, h2, h3⟩ := h
  cases s with
  | int i =>
   cases n with
   | str w =>
    cases e with
    | int j => exact ⟨(w, i, j), rfl, h1, of_decide_eq_true h2, of_decide_eq_true h3⟩
    | _ => cases h3
   | _ => cases h1
  | _ => cases h3
 ·cases h
theorem nm_row (r : Trip) : nmOf (rowP r) = r.1 := rfl
theorem row_isTrip (r : Trip) : isTripB (rowP r) = (isNm (.str r.1) && (decide (0 ≤ r.2.1) && decide (r.2.1 < r.2.2))) := rfl
theorem valid_le : ∀ (xs : List PV) (i : Nat) (b : Str), vGoT i b xs ≤ i + xs.length
 | [], i, b => Nat.le_refl _
 | x :: xs, i, b => by
  unfold vGoT
  split
  ·omega
  ·have := valid_le xs (i + 1) (nmOf x)
   rw [List.length_cons]; omega
theorem valid_all : ∀ (xs : List PV) (i : Nat) (b : Str), i ≤ 24 → vGoT i b xs = i + xs.length → ∃ rs : List Trip, xs = rs.map rowP ∧ (∀ r ∈ rs, isNm (.str r.1) = true ∧ 0 ≤ r.2.1 ∧ r.2.1 < r.2.2) ∧ Asc rs ∧ i + rs.length ≤ 24 ∧ ∀ r ∈ rs, b.cps.toList < r.1.cps.toList
 | [], i, b, hi, h => ⟨[], rfl, fun _ z => (List.not_mem_nil z).elim, List.Pairwise.nil, hi, fun _ z => (List.not_mem_nil z).elim⟩
 | x :: xs, i, b, hi, h => by
  unfold vGoT at h
  split at h
  ·rw [List.length_cons] at h; omega
  ·rename_i hc
   have h1 : i ≠ 24 := fun z => hc (.inl z)
   have h2 : isTripB x = true := by
    cases e : isTripB x with
    | true => rfl
    | false => exact absurd (.inr (.inl e)) hc
   have h3 : b.cps.toList < (nmOf x).cps.toList := Classical.byContradiction fun z => hc (.inr (.inr z))
   obtain ⟨r, rfl, g1, g2, g3⟩ := trip_of h2
   rw [nm_row] at h h3
   obtain ⟨rs, rfl, e1, e2, e3, e4⟩ := valid_all xs (i + 1) r.1 (by omega) (by rw [h, List.length_cons]; omega)
   refine ⟨r :: rs, rfl, fun q hq => ?_, List.pairwise_cons.mpr ⟨e4, e2⟩, by rw [List.length_cons]; omega, fun q hq => ?_⟩
   ·rcases List.mem_cons.mp hq with rfl | hq
    ·exact ⟨g1, g2, g3⟩
    ·exact e1 q hq
   ·rcases List.mem_cons.mp hq with rfl | hq
    ·exact h3
    ·exact List.lt_trans h3 (e4 q hq)
theorem valid_rw {xs : List PV} (h : vNT xs = xs.length) : ∃ rs, xs = rs.map rowP ∧ Rw rs := by
 obtain ⟨rs, e, h1, h2, h3, _⟩ := valid_all xs 0 _ (by decide) (by rw [Nat.zero_add]; exact h)
 exact ⟨rs, e, ⟨by omega, fun r hr => h1 r hr, h2⟩⟩
theorem valid_done : ∀ (rs : List Trip) (i : Nat) (b : Str), i + rs.length ≤ 24 → (∀ r ∈ rs, isNm (.str r.1) = true ∧ 0 ≤ r.2.1 ∧ r.2.1 < r.2.2) → Asc rs → (∀ r ∈ rs, b.cps.toList < r.1.cps.toList) → vGoT i b (rs.map rowP) = i + rs.length
 | [], i, b, _, _, _, _ => rfl
 | r :: rs, i, b, hl, h1, h2, h3 => by
  obtain ⟨g1, g2, g3⟩ := h1 r List.mem_cons_self
  rw [List.map_cons, List.length_cons]
  unfold vGoT
  rw [List.length_cons] at hl
  have e : isTripB (rowP r) = true := by rw [row_isTrip, g1, decide_eq_true g2, decide_eq_true g3]; rfl
  rw [if_neg (by
   rintro (z | z | z)
   ·omega
   ·rw [e] at z; cases z
   ·exact z (h3 r List.mem_cons_self)), nm_row, valid_done rs (i + 1) r.1 (by omega) (fun q hq => h1 q (List.mem_cons_of_mem _ hq)) (List.pairwise_cons.mp h2).2 (List.pairwise_cons.mp h2).1]
  omega
section
variable {K : PySem.W.Frag} {C : Addr} {XC : Str → Addr} {args : List PV} {P : PV → Prop} {PF : List PV → Prop} {PR : PV → Ow → Prop} {o : Ow} {Zw : WC}
theorem rd_is_tripE (h : sp_is_tripE K C args P) : ts_is_tripE K C { nx := fun _ => P .non, rt := fun x _ => P x } (startP 4 args) := by
 obtain ⟨x, rfl, ⟨hk, h3⟩, hp⟩ := h
 have e : startP 4 [x] = [.va x, .no, .no, .no] := rfl
 rw [e]
 refine w_seq (w_if (w_or (w_not (w_bl (w_cb (w_cons (w_var (x := x) rfl (w_cons (w_con (w_nil (isi_tuple hk ?_)))))))))))
 cases x with
 | tup xs =>
  refine q_iteF (w_bl (w_op (w_cb (w_cons (w_var (x := .tup xs) rfl (w_nil (q_lenT (w_con (q_neN ?_)))))))))
  by_cases c : (xs.length : Int) = 3
  ·rw [decide_eq_true c]
   refine q_iteF (w_next ?_)
   dsimp only
   match xs, c with
   | [n, s, e], _ =>
    obtain ⟨k1, k2, k3, hz⟩ := h3 n s e rfl
    have hp : P (.bl (isNm n && (isStn s && latB e s))) := hp
    refine w_seq (w_asg (w_var (x := .tup [n, s, e]) rfl ⟨rfl, w_g3 ?_⟩))
    simp only [List.set_cons_zero, List.set_cons_succ]
    refine w_ret (w_andV (w_call (w_cons (w_var (x := n) rfl (w_nil ⟨n, rfl, k1, hz, ?_⟩)))))
    cases hn : isNm n with
    | false => rw [hn] at hp; exact hp
    | true =>
     rw [hn, Bool.true_and] at hp
     refine w_andV (w_call (w_cons (w_var (x := s) rfl (w_nil ⟨s, rfl, k2, ?_⟩))))
     cases s with
     | int i =>
      cases hs : isStn (.int i) with
      | false => rw [hs] at hp; exact hp
      | true =>
       rw [hs, Bool.true_and] at hp
       exact w_call (w_cons (w_var (x := e) rfl (w_cons (w_var (x := .int i) rfl (w_nil ⟨e, i, rfl, k3, hp⟩)))))
     | _ => exact hp
   | [], c => simp at c
   | [_], c => simp at c
   | [_, _], c => simp at c
   | _ :: _ :: _ :: _ :: l, c => rw [List.length_cons, List.length_cons, List.length_cons, List.length_cons] at c; omega
  ·rw [decide_eq_false c]
   refine q_iteT (w_ret (w_con ?_))
   have z : isTripB (.tup xs) = false := by
    unfold isTripB
    split
    ·rename_i heq
     cases heq
     exact absurd rfl c
    ·rfl
   rw [z] at hp
   exact hp
 | _ => exact hp
theorem rd_valid_beginningE (h : sp_valid_beginningE K C args P) : ts_valid_beginningE K C { nx := fun _ => P .non, rt := fun x _ => P x } (startP 4 args) := by
 obtain ⟨xs, rfl, ⟨hk, hx⟩, hp⟩ := h
 obtain ⟨hl, hx⟩ := hx xs rfl
 have e : startP 4 [.tup xs] = [.va (.tup xs), .no, .no, .no] := rfl
 rw [e]
 refine w_seq (w_set (w_con ?_))
 simp only [List.set_cons_zero, List.set_cons_succ]
 refine w_seq (w_for (w_enumX (w_var (x := .tup xs) rfl ?_)))
 refine ⟨fun i η => ∃ b s t, η = [.va (.tup xs), .va (.str b), s, t] ∧ vGoT i b (xs.drop i) = vNT xs, ⟨_, _, _, rfl, rfl⟩, ?_, ?_⟩
 ·rintro i x η hi ⟨b, s, t, rfl, hv⟩
  obtain ⟨y, hy, rfl⟩ := enumP_get hi
  have hil : i < xs.length := (List.getElem?_eq_some_iff.mp hy).1
  have hd : xs.drop i = y :: xs.drop (i + 1) := by
   rw [List.drop_eq_getElem_cons hil]
   rw [List.getElem?_eq_getElem hil] at hy
   cases hy; rfl
  rw [hd] at hv
  unfold vGoT at hv
  have hky := hx y (List.mem_of_getElem? hy)
  refine ⟨rfl, rfl, ?_⟩
  simp only [List.set_cons_zero, List.set_cons_succ]
  refine w_seq (w_if (w_or (w_bl (w_op (w_var (x := .int (i : Int)) rfl (w_con (q_eqN ?_)))))))
  have out : vNT xs = i → P (.int (i : Int)) := fun z => by rw [z] at hp; exact hp
  by_cases c1 : (i : Int) = 24
  ·rw [decide_eq_true c1]
   rw [if_pos (.inl (by omega))] at hv
   exact q_iteT (w_ret (w_var (x := .int (i : Int)) rfl (out hv.symm)))
  rw [decide_eq_false c1]
  refine q_iteF (w_or (w_not (w_bl (w_call (w_cons (w_var (x := y) rfl (w_nil ⟨y, rfl, hky, ?_⟩)))))))
  cases ht : isTripB y with
  | false =>
   rw [if_pos (.inr (.inl ht))] at hv
   exact q_iteT (w_ret (w_var (x := .int (i : Int)) rfl (out hv.symm)))
  | true =>
   obtain ⟨r, rfl, g1, g2, g3⟩ := trip_of ht
   rw [nm_row] at hv
   refine q_iteF (w_bl (w_op (w_op (w_var (x := rowP r) rfl (w_con (q_ixT (x := .str r.1) rfl (w_var (x := .str b) rfl (q_leS ?_))))))))
   by_cases c : b.cps.toList < r.1.cps.toList
   ·rw [decide_eq_true c]
    rw [if_neg (by
     rintro (z | z | z)
     ·exact c1 (by omega)
     ·rw [ht] at z; cases z
     ·exact z c)] at hv
    refine q_iteF (w_next ?_)
    dsimp only
    refine w_set (w_op (w_var (x := rowP r) rfl (w_con (q_ixT (x := .str r.1) rfl ?_))))
    simp only [List.set_cons_zero, List.set_cons_succ]
    exact ⟨r.1, _, _, rfl, hv⟩
   ·rw [decide_eq_false c]
    rw [if_pos (.inr (.inr c))] at hv
    exact q_iteT (w_ret (w_var (x := .int (i : Int)) rfl (out hv.symm)))
 ·rintro η ⟨b, s, t, rfl, hv⟩
  dsimp only
  rw [enumX_len, List.drop_length] at hv
  refine w_ret (w_cb (w_cons (w_var (x := .tup xs) rfl (w_nil (q_lenT ?_)))))
  have hv : xs.length = vNT xs := hv
  rw [hv]; exact hp
theorem rd_check_seatsX (h : sp_check_seatsX K C XC args P Zw) : ts_check_seatsX K C XC { nx := fun _ => P .non, rt := fun x _ => P x } (fun C fs _ => Zw C fs) (startP 1 args) := by
 obtain ⟨x, rfl, hk, h1, h2⟩ := h
 have e : startP 1 [x] = [.va x] := rfl
 rw [e]
 refine w_ifX1 (w_or (w_not (w_bl (w_call (w_cons (w_var (x := x) rfl (w_nil ⟨x, rfl, hk, ?_⟩)))))))
 cases x with
 | int n =>
  refine q_iteF (w_not (w_bl (w_chain (w_con (w_var (x := .int n) rfl (q_le ⟨_, rfl, ?_⟩))))))
  by_cases c1 : 1 ≤ n
  ·rw [decide_eq_true c1]
   refine q_iteT (w_con (q_le ?_))
   by_cases c2 : n ≤ 20
   ·rw [decide_eq_true c2]
    exact q_iteF (w_plX1 (w_next (h1 (by show (decide (1 ≤ n) && decide (n ≤ 20)) = true; rw [decide_eq_true c1, decide_eq_true c2]; rfl))))
   ·rw [decide_eq_false c2]
    exact q_iteT (w_raiseX1 (w_var (x := .int n) rfl (h2 (by show (decide (1 ≤ n) && decide (n ≤ 20)) = false; rw [decide_eq_false c2, Bool.and_false]))))
  ·rw [decide_eq_false c1]
   exact q_iteF (q_iteT (w_raiseX1 (w_var (x := .int n) rfl (h2 (by show (decide (1 ≤ n) && decide (n ≤ 20)) = false; rw [decide_eq_false c1, Bool.false_and])))))
 | _ => exact h2 rfl
theorem rd_Line_initX (h : sp_Line_initX K C XC o args PR Zw) : ts_Line_initX K C XC { nx := fun η' => ∃ o', η'[0]? = some (Sl.ow o') ∧ PR .non o', rt := fun x η' => ∃ o', η'[0]? = some (Sl.ow o') ∧ PR x o' } (fun C fs _ => Zw C fs) (startR 4 o args) := by
 obtain ⟨x, y, rfl, rfl, hkx, hky, hok, hs, ht, hv⟩ := h
 have e : startR 4 (.o C []) [x, y] = [.ow (.o C []), .va x, .va y, .no] := rfl
 rw [e]
 have sz : 100 < sizeLine := by decide
 refine w_seqX1 (w_exX1 (w_callX1 (w_cons (w_var (x := x) rfl (w_nil ⟨x, rfl, hkx, fun h1 => ?_, fun h1 => hs h1⟩)))))
 dsimp only
 obtain ⟨n, rfl, n1, n2⟩ : ∃ n, x = .int n ∧ 1 ≤ n ∧ n ≤ 20 := by
  cases x with
  | int n =>
   have h1 : (decide (1 ≤ n) && decide (n ≤ 20)) = true := h1
   rw [Bool.and_eq_true, decide_eq_true_iff, decide_eq_true_iff] at h1
   exact ⟨n, rfl, h1.1, h1.2⟩
  | _ => cases h1
 refine w_seqX1 (w_ifX1 (w_not (w_bl (w_cb (w_cons (w_var (x := y) rfl (w_cons (w_con (w_nil (isi_tuple hky.1 ?_))))))))))
 cases hy : isTu y with
 | false => exact q_iteT (w_raiseX1 (w_con (ht h1 hy)))
 | true =>
  refine q_iteF (w_plX1 (w_next ?_))
  dsimp only
  obtain ⟨xs, rfl⟩ : ∃ xs, y = .tup xs := by
   cases y with
   | tup xs => exact ⟨xs, rfl⟩
   | _ => cases hy
  refine w_seqX1 (w_plX1 (w_set (w_call (w_cons (w_var (x := .tup xs) rfl (w_nil ⟨xs, rfl, hky, ?_⟩))))))
  simp only [List.set_cons_zero, List.set_cons_succ]
  refine w_seqX1 (w_ifX1 (w_bl (w_op (w_var (x := .int (vNT xs)) rfl (w_cb (w_cons (w_var (x := .tup xs) rfl (w_nil (q_lenT (q_lt ?_))))))))))
  by_cases c : ((vNT xs : Int) < (xs.length : Int))
  ·rw [decide_eq_true c]
   exact q_iteT (w_raiseX1 (w_var (x := .int (vNT xs)) rfl (hv xs h1 rfl (by omega))))
  rw [decide_eq_false c]
  refine q_iteF (w_plX1 (w_next ?_))
  dsimp only
  have hle := valid_le xs 0 ("" : Str)
  obtain ⟨rs, rfl, hw⟩ := valid_rw (xs := xs) (by unfold vNT at c ⊢; omega)
  have hl := hw.len
  refine w_plX1 ?_
  refine w_seq (w_fldS (w_var rfl ⟨rfl, by decide, ?_⟩))
  simp only [List.set_cons_zero, List.set_cons_succ, pf1]
  refine w_seq (w_fldS (w_var rfl ⟨rfl, by show 1 < 1000; decide, ?_⟩))
  simp only [List.set_cons_zero, List.set_cons_succ, pf2]
  refine w_fldS (w_cb (w_cons (w_sortL (w_var (x := .tup (rs.map rowP)) rfl ⟨?_, ?_, by rw [List.length_map]; omega, ?_⟩))))
  ·intro y hy
   obtain ⟨r, _, rfl⟩ := List.mem_map.mp hy
   exact ⟨_, .int r.2.1, .str r.1, rfl, rfl, rfl, rfl, rfl⟩
  ·intro d hd d' hd'
   rw [List.map_map] at hd hd'
   obtain ⟨a, _, rfl⟩ := List.mem_map.mp hd
   obtain ⟨b, _, rfl⟩ := List.mem_map.mp hd'
   show PySem.W.alike (.tuple [.int a.2.1, .str a.1]) (.tuple [.int b.2.1, .str b.1]) = true
   simp [PySem.W.alike, PySem.W.alikeAll]
  ·refine w_nil ⟨rfl, by show 2 < 1000; decide, ?_⟩
   simp only [List.set_cons_zero, List.set_cons_succ, pf3]
   exact ⟨_, rfl, hok n rs rfl rfl n1 n2 hw⟩
end
variable {X : Cx}
end Z
namespace Z
open PySem PySem.Spec L2
open PyProof.Rows hiding St
def KeysAre : List DictEntry → List Str → Prop
 | [], [] => True
 | e :: r, k :: ks => (∃ t, e.key = .str k t) ∧ KeysAre r ks
 | _, _ => False
theorem KeysAre.at_ : ∀ {es : List DictEntry} {ks : List Str}, KeysAre es ks → es.length = ks.length ∧ ∀ (i : Nat) (k : Str), ks[i]? = some k → ∃ en t, es[i]? = some en ∧ en.key = .str k t
 | [], [], _ => ⟨rfl, fun i k z => by simp at z⟩
 | e :: r, k :: ks, h => by
  obtain ⟨⟨t, ht⟩, h2⟩ := h
  obtain ⟨h3, h4⟩ := h2.at_
  refine ⟨by rw [List.length_cons, List.length_cons, h3], fun i k' z => ?_⟩
  cases i with
  | zero => simp at z; subst z; exact ⟨e, t, rfl, ht⟩
  | succ i => obtain ⟨en, t', a, b⟩ := h4 i k' (by simpa using z); exact ⟨en, t', by simpa using a, b⟩
 | [], _ :: _, h => h.elim
 | _ :: _, [], h => h.elim
section
variable {X : Cx} {T : List (Addr × Str)} {tg e w : Expr} {es : List Expr} {td : TE} {tw : TEp} {ta : TAp} {d : Addr} {ents : Array DictEntry} {n k i : Nat} {ks : List Str} {S x : Str} {p p1 p2 p3 p4 p5 p6 p7 pos : Pos}
structure HeldS (X : Cx) (k : Nat) (f : Addr) (sp : Sp) : Prop where
 ex : ∃ (fd : FuncData) (ps : List Str), FnOk X.prog X.w X.K X.mg X.base CX0 k f fd ps sp ∧ PySem.W.keepIn X.K (.ref f) = true ∧ Binds X.K fd ps []
end
end Z
namespace Z
open PySem PySem.Spec L2
open PyProof.Rows hiding St
def eqb (k : Bool) (v : Value) : Bool := match v with
 | .bool n => n == k
 | _ => false
theorem vals_bool : ∀ {bs : List Bool} {us : List Value}, Vals (bs.map V.bl) us → us = bs.map Value.bool
 | [], _, h => by cases h; rfl
 | b :: bs, _, h => by
  cases h with
  | cons a t =>
   rw [vals_bool t]
   have : _ = Value.bool b := a
   rw [this]; rfl
theorem eqb_count {k : Bool} : ∀ {bs : List Bool}, (bs.map Value.bool).countP (eqb k) = bs.count k
 | [] => rfl
 | b :: bs => by
  rw [List.map_cons, List.countP_cons, List.count_cons, eqb_count (k := k) (bs := bs)] <;> rfl
section
variable {X : Cx}
def rCntB (K : PySem.W.Frag) : V → List V → Hp → VK → Prop := fun x xs H Q => ∃ (p : Addr) (bs : List Bool) (k : Bool), x = .ref p ∧ xs = [.bl k] ∧ SqL K H p (bs.map V.bl) ∧ Q (.int (bs.count k : Nat)) H
theorem mt_lcountB : MtR X "list.count" (rCntB X.K) := by
 intro pins s σ H x xs v us Q I rx rxs h
 obtain ⟨p, bs, k, rfl, rfl, hs, q⟩ := h
 cases rx
 obtain ⟨u, rfl, ru⟩ := rxs.one
 obtain rfl : u = Value.bool k := ru
 obtain ⟨its, rv, ⟨⟨cls, dd, data, sl⟩, n, ho, hc, hdn, hd⟩, hlen⟩ := I.list hs
 simp only at hc hd
 subst hc hd
 have hi := vals_bool rv
 refine call_meets PySem.F.slot_list_count ⟨_, ho, rfl⟩ PySem.F.entry_list_count (PySem.F.args_list_count_2 _ _)
  (SeqAt.list_countAt p its.toArray n dd sl (.bool k) (eqb k)) ⟨ho, fun y hy => ?_, ?_⟩
 ·rw [hi] at hy
  obtain ⟨b, _, rfl⟩ := List.mem_map.mp (show y ∈ bs.map Value.bool by simpa using hy)
  exact SeqAt.EqAt.bool_bool b k
 have ec : its.toArray.toList.countP (eqb k) = bs.count k := by
  rw [show its.toArray.toList = its from by simp, hi]; exact eqb_count
 refine ⟨.int (bs.count k : Nat), H, I.tok _, ⟨s.toks, ?_⟩, q⟩
 show Value.int ((its.toArray.toList.countP (eqb k) : Nat) : Int) s.toks = Value.int ((bs.count k : Nat) : Int) s.toks
 rw [ec]
end
section
variable {X : Cx} {T : List (Addr × Str)} {e : Expr} {to ti : TEp}
def tCntBP (to ti : TEp) : TEp := fun η P => to η fun x η1 => (∃ xs, x = .lst xs) ∧ ti η1 fun y η2 => ∃ (bs : List Bool) (k : Bool), x = .lst (bs.map .bl) ∧ y = .bl k ∧ P (.int ((bs.count k : Nat) : Int)) η2
theorem reps_bls {K : PySem.W.Frag} {O : Addr → Prop} {H : Hp} : ∀ {bs : List Bool} {vs : List V}, Reps K O H (bs.map .bl) vs → vs = bs.map V.bl
 | [], _, h => h.inv0
 | n :: ns, _, h => by
  obtain ⟨v, us, rfl, r, t⟩ := h.inv
  rw [r.bl_, reps_bls t]; rfl
theorem z_cntB {K0 : PySem.W.Frag} (hK : X.K = K0) (pf : PE X e (tBM K0 "list" (rCntB K0) (up K0 T to) (tCons (up K0 T ti) tNil))) : PE X e (up X.K T (tCntBP to ti)) := by
 subst hK
 refine PE.weak pf fun σ H Q q => ?_
 obtain ⟨F, η, P, R, h, k⟩ := q
 refine ⟨F, η, _, R, h, fun x η1 v H1 h1 e1 R1 r1 => ?_⟩
 obtain ⟨⟨xs, rfl⟩, h1⟩ := h1
 obtain ⟨a, vs, rfl, n, q, rr⟩ := id r1.lst_
 refine ⟨.inl ⟨rfl, vs, SqL.of q⟩, F, η1, _, R1, h1, fun y η2 w H2 h2 e2 R2 r2 => ?_⟩
 obtain ⟨bs, i, e, rfl, h2⟩ := h2
 have r3 := r1.car e2.car
 rw [e] at r3
 obtain ⟨a', vs', e3, n', q', rr'⟩ := r3.lst_
 cases e3
 have e4 := reps_bls rr'
 subst e4
 exact ⟨a, bs, i, rfl, by rw [r2.bl_], SqL.of q', k _ η2 _ H2 h2 (e1.trans e2) R2 rep_int⟩
theorem w_cntB {to ti : TEp} {η : EP'} {P : PV → EP' → Prop} (h : to η fun x η1 => (∃ xs, x = .lst xs) ∧ ti η1 fun y η2 => ∃ (bs : List Bool) (k : Bool), x = .lst (bs.map .bl) ∧ y = .bl k ∧ P (.int ((bs.count k : Nat) : Int)) η2) : tCntBP to ti η P := h
end
end Z
namespace Z
open PySem PySem.Spec L2 GenW
open PyProof.Rows hiding St
section
variable {X : Cx} {T : List (Addr × Str)} {e : Expr} {to ti : TEp}
def tIdxDP (to ti : TEp) : TEp := fun η P => to η fun x η1 => (∃ xs, x = .lst xs) ∧ ti η1 fun y η2 => ∃ (d : PyData) (ds : List PyData) (j : Nat) (z : PyData), toD x = some (.list ds) ∧ toD y = some d ∧ SeqAt.shaped (.list ds) = true ∧ SeqAt.shaped d = true ∧ ds[j]? = some z ∧ PyData.eqv z d = true ∧
 (∀ (m : Nat) (z' : PyData), m < j → ds[m]? = some z' → PyData.eqv z' d = false) ∧ P (.int (j : Int)) η2
theorem z_idxD {K0 : PySem.W.Frag} (hK : X.K = K0) (pf : PE X e (tBM K0 "list" (rIndexD K0) (up K0 T to) (tCons (up K0 T ti) tNil))) : PE X e (up X.K T (tIdxDP to ti)) := by
 subst hK
 refine PE.weak pf fun σ H Q q => ?_
 obtain ⟨F, η, P, R, h, k⟩ := q
 refine ⟨F, η, _, R, h, fun x η1 v H1 h1 e1 R1 r1 => ?_⟩
 obtain ⟨⟨xs, rfl⟩, h1⟩ := h1
 obtain ⟨a, vs, rfl, n, q, rr⟩ := id r1.lst_
 refine ⟨.inl ⟨rfl, vs, SqL.of q⟩, F, η1, _, R1, h1, fun y η2 w H2 h2 e2 R2 r2 => ?_⟩
 obtain ⟨d, ds, j, z, hx, hy, s1, s2, hz, hzj, hno, h2⟩ := h2
 have r3 := r1.car e2.car
 exact ⟨a, w, d, ds, j, z, rfl, rfl, Rep.dp _ _ _ r3 hx, Rep.dp _ _ _ r2 hy, s1, s2, hz, hzj, hno, k _ η2 _ H2 h2 (e1.trans e2) R2 rep_int⟩
end
theorem roomH65 {k : Nat} {A : Around} (h : L2H.RoomH k A) : A.units + 65 < cLine := by have := h.un; omega
theorem roomH_mark {k : Nat} {A : Around} {v : Option Value} (h : Room k A) : L2H.RoomH k (A.mark v) := ⟨h.dp, h.un⟩
theorem strs_reps {K : PySem.W.Frag} {O : Addr → Prop} {H : Hp} : ∀ ys : List Str, Reps K O H (ys.map PV.str) (ys.map V.str)
 | [] => by unfold Reps; rfl
 | y :: ys => by
  rw [List.map_cons, List.map_cons]
  unfold Reps
  exact ⟨.str y, ys.map V.str, rfl, by unfold Rep; rfl, strs_reps ys⟩
section
variable {X : Cx} {T : List (Addr × Str)} {W : WXs} {a b e o : Expr} {es : List Expr} {te ta tb to : TEp} {t : TAp} {pos p apos : Pos} {k : Nat} {f C g : Addr} {fd : FuncData} {ps : List Str} {sp : SpX} {x m : Str}
def tSplitP (to te : TEp) : TEp := fun η P => to η fun x η1 => (∃ z, x = .str z) ∧ te η1 fun y η2 => ∃ a b, x = .str a ∧ y = .str b ∧ (b.length == 0) = false ∧ a.length + 2 ≤ sizeLine ∧ P (.lst ((Txt.split a b).map .str)) η2
def tPartiP (to te : TEp) : TEp := fun η P => to η fun x η1 => (∃ z, x = .str z) ∧ te η1 fun y η2 => ∃ a b, x = .str a ∧ y = .str b ∧ (b.length == 0) = false ∧ a.length ≤ sizeLine ∧ P (.tup [.str (Txt.partition a b).1, .str (Txt.partition a b).2.1, .str (Txt.partition a b).2.2]) η2
theorem z_split {K0 : PySem.W.Frag} (hK : X.K = K0)
  (pf : PE X e (tM1 (fun x xs H Q => ∃ a b, x = .str a ∧ xs = [.str b] ∧ (b.length == 0) = false ∧ a.length + 2 ≤ sizeLine ∧ rNewStrs (Txt.split a b) H Q) (up K0 T to) (up K0 T te))) : PE X e (up K0 T (tSplitP to te)) := by
 subst hK
 refine PE.weak pf fun σ H Q q => ?_
 obtain ⟨F, η, P, R, h, k⟩ := q
 refine ⟨F, η, _, R, h, fun x η1 v H1 h1 e1 R1 r1' => ?_⟩
 obtain ⟨⟨z, rfl⟩, h1⟩ := h1
 cases r1'.str_
 refine ⟨⟨z, rfl⟩, F, η1, _, R1, h1, fun y η2 w H2 h2 e2 R2' rw' => ?_⟩
 obtain ⟨a, b, hx, rfl, hb, hz, hp⟩ := h2
 cases hx
 cases rw'.str_
 exact ⟨z, b, rfl, rfl, hb, hz, fun p hp' => k _ η2 _ _ hp ((e1.trans e2).trans (.same (Same.new hp'))) (R2'.same (Same.new hp')) (rep_newL R2'.trO hp' (strs_reps _))⟩
theorem z_parti {K0 : PySem.W.Frag} (hK : X.K = K0)
  (pf : PE X e (tM1 (fun x xs H Q => ∃ a b, x = .str a ∧ xs = [.str b] ∧ (b.length == 0) = false ∧ a.length ≤ sizeLine ∧
   ∀ p, H p = none → Q (.ref p) (upd H p (.tup [.str (Txt.partition a b).1, .str (Txt.partition a b).2.1, .str (Txt.partition a b).2.2]))) (up K0 T to) (up K0 T te))) : PE X e (up K0 T (tPartiP to te)) := by
 subst hK
 refine PE.weak pf fun σ H Q q => ?_
 obtain ⟨F, η, P, R, h, k⟩ := q
 refine ⟨F, η, _, R, h, fun x η1 v H1 h1 e1 R1 r1' => ?_⟩
 obtain ⟨⟨z, rfl⟩, h1⟩ := h1
 cases r1'.str_
 refine ⟨⟨z, rfl⟩, F, η1, _, R1, h1, fun y η2 w H2 h2 e2 R2' rw' => ?_⟩
 obtain ⟨a, b, hx, rfl, hb, hz, hp⟩ := h2
 cases hx
 cases rw'.str_
 exact ⟨z, b, rfl, rfl, hb, hz, fun p hp' => k _ η2 _ _ hp ((e1.trans e2).trans (.same (Same.new hp'))) (R2'.same (Same.new hp')) (rep_newT R2'.trO hp' (strs_reps [_, _, _]))⟩
theorem fnR_of {CX : CXT} {P : Program} {w : World} {K : PySem.W.Frag} {mg : Str → Option Value} {base : Heap} {S : Sp} (F : FnOk P w K mg base CX k f fd ps S) (hb : Binds K fd ps []) : FnR P w K mg base CX k f S := fun A outer s H us vs Q E hr e0 r h => by
 have KX : K.In s.heap := e0.mod.kin.keeps fun b o e => (e0.bs b o e).1
 have b := hb s us KX (by rw [List.append_nil, ← r.length]; exact F.len _ _ _ _ h)
 rw [List.append_nil] at b
 exact F.run A outer s H ⟨us, []⟩ us vs Q E hr e0 b r h
def tCMetX (C : Addr) (sp : SpX) (ta : TEp) (t : TAp) : TXp := fun η P Zw => ta η fun x η1 => x = .raw (.ref C) ∧ t η1 fun args η2 => sp (.raw (.ref C) :: args) (fun z => P z η2) fun C' fs => Zw C' fs η2
theorem zx_cmeth {mc : Value} {q : Addr} {E : XK} (he : PE X o (up X.K T ta)) (r : ClX.CRead X.K C mc) (c : ClX.CMet X.K C mc m q f) (Fn : FnOk X.prog X.w X.K X.mg X.base (L2.CX X.prog X.w) k f fd ps (upSpX X.K T sp)) (hb : Binds X.K fd ps []) (tk : L2.Takes X (fun cls d _ H => E cls d H)) (hr : Room k X.A)
  (ha : PA X (e :: es) (upA X.K T t)) {pl : Sem Bool} (hst : starEach (e :: es) X.env = (false, eval e X.env) :: starEach es X.env := by rfl) (hpl : (backTo pos (starEach es X.env)).any (·.1) = false := by rfl)
  (ht : eval (.Call (.Attribute o m apos) (e :: es) [] pos) X.env = (do
   let ov ← eval o X.env
   standAt apos.atName
   let (f, first) ← holding [ov] (getMethod ov m pl)
   callWith pos f first (backTo pos (starEach (e :: es) X.env)) (backToKw pos (keywordEach [] X.env))) := by rfl) :
  PE X (.Call (.Attribute o m apos) (e :: es) [] pos) (upX X.K T (fun cls d _ H => E cls d H) (tCMetX C sp ta t)) := by
 refine PE.weak (ClX.pe_cmeth (E := E) he r c (fnR_of Fn hb) hr (L2.passes_call tk fun _ _ _ _ h => h) ha hst hpl ht) fun σ H Q qq => ?_
 obtain ⟨F, η, P, Zw, R, h, k, kx⟩ := qq
 refine ⟨F, η, _, R, h, fun x η1 v H1 h1 e1 R1 r1 => ?_⟩
 obtain ⟨rfl, h1⟩ := h1
 unfold Rep at r1
 subst r1
 refine ⟨rfl, F, η1, _, R1, h1, fun args η2 vs H2 h2 e2 R2 r2 => ?_⟩
 have E2 := e1.trans e2
 refine ⟨Oof F σ η2, _, _, _, R2.trO, R2.tb, ?_, h2, fun z v H3 pz g tb rz => k z η2 v H3 pz (E2.trans g.ext) (R2.gr g tb) rz, fun C' fs d H3 z g tb xa => kx C' fs η2 d σ H3 z (E2.trans g.ext) (R2.gr g tb) xa⟩
 unfold Reps
 exact ⟨_, vs, rfl, by unfold Rep; rfl, r2⟩
end
section
variable {X : Cx} {T : List (Addr × Str)}
theorem z_caught {x n a ret : Str} {st : Stmt} {g c P : Addr} {fd : FuncData} {k j ek : Nat} {params : Arguments} {body : Expr} {scope : Scope} {p lpos pos p1 p2 p3 p5 p6 p7 p8 np : Pos} {elts : List Expr} {cs : List Value} {b₀ : Stmt} {suite : List Stmt} {te : TXp} {tsu : Addr → Value → Option Addr → TSp}
  (Fn : Fun X.K x x st g fd) (S : FnScope [a, n] [a] (defScope st))
  (hbd : defBody st = [.Try [.Return (some (.List [.Constant (.str ret) j p5, .Call (.Name a p1) [] [] p2] p6)) p3] [.ExceptHandler (some (.Tuple elts ek np)) (some n) (b₀ :: suite) p7] [] [] p8])
  (hva : (defScope st).names.lookup a = some .local) (hln : (defScope st).names.lookup n = some .local) (hb : Binds X.K fd [a] []) (hg : Gl X x) (hm : X.mg x = some (.ref g)) (hk : PySem.W.keepIn X.K (.ref g) = true)
  (hc : ∀ (cdv : Value) (s : Shared) (H : Hp), L2N.NamesL (cxOf CX0 X.prog X.w X.K X.mg X.base [a, n] x (defScope st) g cdv X.A X.stack s H E0).nox elts cs) (hm3 : L2N.TupM X.prog X.w X.K cs) (hl : cs.length ≤ 1000)
  (hsu : ∀ (cdv : Value) (s : Shared) (H : Hp), Room (k + 1) (X.A.deeper (envOfC x (defScope st) s.heap.objs.size g cdv)) → ∀ (e : Addr) (oe : Obj) (cls : Value) (d : Option Addr) (pn : List (Addr × Obj)), L2.Zc cls d oe → (∃ vs, oe.data = .fields vs) →
   PSs ((cxOf CX0 X.prog X.w X.K X.mg X.base [a, n] x (defScope st) g cdv X.A X.stack s H E0).nox.suite e ((e, oe) :: pn)) (b₀ :: suite) (upS X.K T (tsu e cls d)))
  (TB : LamX.TabB X.base X.mg c P) (hcode : X.env.code = .ref c) (hmT : (P, X.env.qual ++ "<lambda>") ∈ T) (hu : ∀ q ∈ T, q.1 = P → q.2 = X.env.qual ++ "<lambda>") (hr : Room (k + 2) X.A) (L : LamX.LamS X.env.scope scope) (hdef : defaultsOf params X.env = ([], []))
  (hbind : ∀ (q : Str) (cl : List (Str × Addr)) (pm cv ctv : Value), bindArgs (PySem.W.kla_fn "<lambda>" q params body scope cl pm cv ctv) ⟨[], []⟩ = pure [])
  (hbody : ∀ (A : Around) (outer : List Env) (s : Shared) (H : Hp) (E : XK) (f c' : Addr), Room k (A.deeper (LamX.lamEnv X scope s.heap.objs.size f c')) → PE (LamX.lamCx X A outer s H E scope f c') body (upX X.K T (fun cls d _ H' => E cls d H') te))
  (hdb : (x == ("__debug__" : Str)) = false := by decide) (hd : (a == ("__debug__" : Str)) = false := by decide) (hcd : (a == ("__classdict__" : Str)) = false := by decide) :
  PE X (.Call (.Name x p) [.Lambda params body scope lpos] [] pos) (up X.K T (tCaughtP X.K cs ret te tsu)) := by
 obtain ⟨oc, od, kV, doc, pm, an, cdv, ct, osl, rfl, lk, hcd2⟩ := Fn.ex
 have hG : L2T.Gives X [a, n] x (defScope st) g cdv (defBody st) a (X.env.qual ++ "<lambda>") k (TTc X.K T cs ret tsu) := by
  rw [hbd]
  exact caught_gives S.nd rfl hln (hc cdv) hm3 hl (hsu cdv)
 exact PE.weak (L2T.lamcall (t := fun E => upX X.K T (fun cls d _ H' => E cls d H') te) hg hm hk lk hcd2 hb S rfl (.inl hva) hG TB hcode hmT hu hr L hdef hbind hbody hdb hd hcd) fun σ H Q q => caught_up q
end
abbrev PrZ := PySem.W.Frag → Addr → (Str → Addr) → SpZ
def kindNames : List Str := [("InvalidSeats" : Str), ("InvalidTrips" : Str), ("InvalidName" : Str), ("InvalidSeat" : Str), ("InvalidStation" : Str), ("InvalidPlan" : Str), ("InvalidFixed" : Str), ("InvalidExchange" : Str), ("InvalidNumber" : Str), ("InvalidText" : Str), ("InvalidAction" : Str), ("InvalidCommand" : Str), ("NotALine" : Str), ("Overfull" : Str), ("Full" : Str), ("NameTaken" : Str), ("NotFree" : Str), ("Busy" : Str), ("NothingToUndo" : Str), ("TooManyTrips" : Str), ("TooManyPlans" : Str), ("TooManyEntries" : Str)]
def kindWords : List Str := [("seats" : Str), ("trips" : Str), ("name" : Str), ("seat" : Str), ("station" : Str), ("plan" : Str), ("fixed" : Str), ("exchange" : Str), ("number" : Str), ("text" : Str), ("action" : Str), ("command" : Str), ("notline" : Str), ("overfull" : Str), ("full" : Str), ("taken" : Str), ("notfree" : Str), ("busy" : Str), ("undo" : Str), ("toomanytrips" : Str), ("plans" : Str), ("entries" : Str)]
def kindW (n : Nat) : Str := kindWords.getD n ("" : Str)
def kindFields : List (Option Str) := [some ("value" : Str), some ("index" : Str), some ("name" : Str), some ("seat" : Str), some ("station" : Str), some ("index" : Str), some ("index" : Str), some ("index" : Str), some ("number" : Str), some ("text" : Str), some ("index" : Str), some ("command" : Str), some ("value" : Str), some ("station" : Str), some ("station" : Str), some ("name" : Str), some ("name" : Str), none, none, some ("found" : Str), some ("found" : Str), some ("found" : Str)]
structure KindF (K : PySem.W.Frag) (XC : Str → Addr) (C : Addr) (n : Nat) : Prop where
 e : L2.ExcC K C
 lt : n < 22
 k : ∀ (j : Nat) (s : Str), kindNames[j]? = some s → PySem.W.kitOne K (.ref C) (.ref (XC s)) = some (decide (j = n))
 b1 : PySem.W.kitOne K (.ref C) (.ref (XC ("SeatError" : Str))) = some (decide (n < 13))
 b2 : PySem.W.kitOne K (.ref C) (.ref (XC ("StateError" : Str))) = some (decide (12 < n) && decide (n < 19))
 b3 : PySem.W.kitOne K (.ref C) (.ref (XC ("SizeError" : Str))) = some (decide (18 < n))
 o1 : PySem.W.kitOne K (.ref C) (.type "ValueError") = some (decide (n < 13))
 o2 : PySem.W.kitOne K (.ref C) (.type "LookupError") = some (decide (12 < n) && decide (n < 19))
 o3 : PySem.W.kitOne K (.ref C) (.type "ArithmeticError") = some (decide (18 < n))
def FldF (K : PySem.W.Frag) (C : Addr) (n : Nat) (d : Option Addr) (fs : List (Str × PV)) (ys : List PV) : Prop :=
 (∃ f y, kindFields[n]? = some (some f) ∧ fs = [(f, y)] ∧ ys = [y] ∧ XfN K C f ∧ d.isSome = true) ∨ (kindFields[n]? = some none ∧ fs = [] ∧ ys = [])
def sp_law_kind : PrZ := fun K _ XC a cls d args P => ∃ C fs n, cls = .ref C ∧ args = [.exn a d fs] ∧ KindF K XC C n ∧ P (.str (kindW n))
def sp_law_other_fields : PrZ := fun K _ XC a cls d args P => ∃ C fs n ys, cls = .ref C ∧ args = [.exn a d fs] ∧ KindF K XC C n ∧ FldF K C n d fs ys ∧ n ∈ [3, 8, 9, 11, 17, 18] ∧ P (.lst ys)
def sp_law_fields : PrZ := fun K _ XC a cls d args P => ∃ C fs n ys, cls = .ref C ∧ args = [.exn a d fs] ∧ KindF K XC C n ∧ FldF K C n d fs ys ∧ P (.lst ys)
def ts_law_kind (K : PySem.W.Frag) (CLine : Addr) (XC : Str → Addr) : Addr → Value → Option Addr → TSp := fun a1 cls1 d1 => tSeqP (tSetP 1 (tLstP (tConsP (tCBP (rIsX K a1 cls1 d1) (tConsP (tVarP 0) (tConsP (tConP (.raw (.ref (XC ("InvalidSeats" : Str))))) (tNilP)))) (tConsP (tCBP (rIsX K a1 cls1 d1) (tConsP (tVarP 0) (tConsP (tConP (.raw (.ref (XC ("InvalidTrips" : Str))))) (tNilP)))) (tConsP (tCBP (rIsX K a1 cls1 d1) (tConsP (tVarP 0) (tConsP (tConP (.raw (.ref (XC ("InvalidName" : Str))))) (tNilP)))) (tNilP)))))) (tSeqP (tSetP 1 (tOpP rAdd (tVarP 1) (tLstP (tConsP (tCBP (rIsX K a1 cls1 d1) (tConsP (tVarP 0) (tConsP (tConP (.raw (.ref (XC ("InvalidSeat" : Str))))) (tNilP)))) (tConsP (tCBP (rIsX K a1 cls1 d1) (tConsP (tVarP 0) (tConsP (tConP (.raw (.ref (XC ("InvalidStation" : Str))))) (tNilP)))) (tConsP (tCBP (rIsX K a1 cls1 d1) (tConsP (tVarP 0) (tConsP (tConP (.raw (.ref (XC ("InvalidPlan" : Str))))) (tNilP)))) (tNilP))))))) (tSeqP (tSetP 1 (tOpP rAdd (tVarP 1) (tLstP (tConsP (tCBP (rIsX K a1 cls1 d1) (tConsP (tVarP 0) (tConsP (tConP (.raw (.ref (XC ("InvalidFixed" : Str))))) (tNilP)))) (tConsP (tCBP (rIsX K a1 cls1 d1) (tConsP (tVarP 0) (tConsP (tConP (.raw (.ref (XC ("InvalidExchange" : Str))))) (tNilP)))) (tConsP (tCBP (rIsX K a1 cls1 d1) (tConsP (tVarP 0) (tConsP (tConP (.raw (.ref (XC ("InvalidNumber" : Str))))) (tNilP)))) (tNilP))))))) (tSeqP (tSetP 1 (tOpP rAdd (tVarP 1) (tLstP (tConsP (tCBP (rIsX K a1 cls1 d1) (tConsP (tVarP 0) (tConsP (tConP (.raw (.ref (XC ("InvalidText" : Str))))) (tNilP)))) (tConsP (tCBP (rIsX K a1 cls1 d1) (tConsP (tVarP 0) (tConsP (tConP (.raw (.ref (XC ("InvalidAction" : Str))))) (tNilP)))) (tConsP (tCBP (rIsX K a1 cls1 d1) (tConsP (tVarP 0) (tConsP (tConP (.raw (.ref (XC ("InvalidCommand" : Str))))) (tNilP)))) (tNilP))))))) (tSeqP (tSetP 1 (tOpP rAdd (tVarP 1) (tLstP (tConsP (tCBP (rIsX K a1 cls1 d1) (tConsP (tVarP 0) (tConsP (tConP (.raw (.ref (XC ("NotALine" : Str))))) (tNilP)))) (tConsP (tCBP (rIsX K a1 cls1 d1) (tConsP (tVarP 0) (tConsP (tConP (.raw (.ref (XC ("Overfull" : Str))))) (tNilP)))) (tConsP (tCBP (rIsX K a1 cls1 d1) (tConsP (tVarP 0) (tConsP (tConP (.raw (.ref (XC ("Full" : Str))))) (tNilP)))) (tNilP))))))) (tSeqP (tSetP 1 (tOpP rAdd (tVarP 1) (tLstP (tConsP (tCBP (rIsX K a1 cls1 d1) (tConsP (tVarP 0) (tConsP (tConP (.raw (.ref (XC ("NameTaken" : Str))))) (tNilP)))) (tConsP (tCBP (rIsX K a1 cls1 d1) (tConsP (tVarP 0) (tConsP (tConP (.raw (.ref (XC ("NotFree" : Str))))) (tNilP)))) (tConsP (tCBP (rIsX K a1 cls1 d1) (tConsP (tVarP 0) (tConsP (tConP (.raw (.ref (XC ("Busy" : Str))))) (tNilP)))) (tNilP))))))) (tSeqP (tSetP 1 (tOpP rAdd (tVarP 1) (tLstP (tConsP (tCBP (rIsX K a1 cls1 d1) (tConsP (tVarP 0) (tConsP (tConP (.raw (.ref (XC ("NothingToUndo" : Str))))) (tNilP)))) (tConsP (tCBP (rIsX K a1 cls1 d1) (tConsP (tVarP 0) (tConsP (tConP (.raw (.ref (XC ("TooManyTrips" : Str))))) (tNilP)))) (tConsP (tCBP (rIsX K a1 cls1 d1) (tConsP (tVarP 0) (tConsP (tConP (.raw (.ref (XC ("TooManyPlans" : Str))))) (tNilP)))) (tNilP))))))) (tSeqP (tSetP 1 (tOpP rAdd (tVarP 1) (tLstP (tConsP (tCBP (rIsX K a1 cls1 d1) (tConsP (tVarP 0) (tConsP (tConP (.raw (.ref (XC ("TooManyEntries" : Str))))) (tNilP)))) (tNilP))))) (tSeqP (tSetP 2 (tLstP (tConsP (tCBP (rIsX K a1 cls1 d1) (tConsP (tVarP 0) (tConsP (tConP (.raw (.ref (XC ("SeatError" : Str))))) (tNilP)))) (tConsP (tCBP (rIsX K a1 cls1 d1) (tConsP (tVarP 0) (tConsP (tConP (.raw (.ref (XC ("StateError" : Str))))) (tNilP)))) (tConsP (tCBP (rIsX K a1 cls1 d1) (tConsP (tVarP 0) (tConsP (tConP (.raw (.ref (XC ("SizeError" : Str))))) (tNilP)))) (tNilP)))))) (tSeqP (tSetP 3 (tLstP (tConsP (tCBP (rIsX K a1 cls1 d1) (tConsP (tVarP 0) (tConsP (tConP (.raw (.ty "ValueError"))) (tNilP)))) (tConsP (tCBP (rIsX K a1 cls1 d1) (tConsP (tVarP 0) (tConsP (tConP (.raw (.ty "LookupError"))) (tNilP)))) (tConsP (tCBP (rIsX K a1 cls1 d1) (tConsP (tVarP 0) (tConsP (tConP (.raw (.ty "ArithmeticError"))) (tNilP)))) (tNilP)))))) (tSeqP (tIfSP (tBlP (tOpP (rEqP true) (tCntBP (tVarP 1) (tConP (.bl true))) (tConP (.int 1)))) (tRetP (tConP (.str ("other" : Str)))) (tNextP)) (tSeqP (tSetP 4 (tIdxDP (tVarP 1) (tConP (.bl true)))) (tSeqP (tIfSP (tOrP (tBlP (tOpP (rEqP true) (tVarP 2) (tLstP (tConsP (tOpP rLt (tVarP 4) (tConP (.int 13))) (tConsP (tChainP rLt rLt (tConP (.int 12)) (tVarP 4) (tConP (.int 19))) (tConsP (tOpP rGt (tVarP 4) (tConP (.int 18))) (tNilP))))))) (tBlP (tOpP (rEqP true) (tVarP 3) (tVarP 2)))) (tRetP (tConP (.str ("other" : Str)))) (tNextP)) (tSeqP (tSetP 5 (tConP (.str ("seats trips name seat station plan fixed exchange number text action command notline overfull" : Str)))) (tSeqP (tSetP 5 (tOpP rAdd (tVarP 5) (tConP (.str (" full taken notfree busy undo toomanytrips plans entries" : Str))))) (tRetP (tOpP rIxP (tSplitP (tVarP 5) (tConP (.str (" " : Str)))) (tVarP 4)))))))))))))))))
def ts_law_other_fields (K : PySem.W.Frag) (CLine : Addr) (XC : Str → Addr) : Addr → Value → Option Addr → TSp := fun a1 cls1 d1 => tSeqP (tIfSP (tBlP (tCBP (rIsX K a1 cls1 d1) (tConsP (tVarP 0) (tConsP (tConP (.raw (.ref (XC ("InvalidSeat" : Str))))) (tNilP))))) (tRetP (tLstP (tConsP (tXfP K a1 cls1 d1 ("seat" : Str) (tVarP 0)) (tNilP)))) (tNextP)) (tSeqP (tIfSP (tBlP (tCBP (rIsX K a1 cls1 d1) (tConsP (tVarP 0) (tConsP (tConP (.raw (.ref (XC ("InvalidNumber" : Str))))) (tNilP))))) (tRetP (tLstP (tConsP (tXfP K a1 cls1 d1 ("number" : Str) (tVarP 0)) (tNilP)))) (tNextP)) (tSeqP (tIfSP (tBlP (tCBP (rIsX K a1 cls1 d1) (tConsP (tVarP 0) (tConsP (tConP (.raw (.ref (XC ("InvalidText" : Str))))) (tNilP))))) (tRetP (tLstP (tConsP (tXfP K a1 cls1 d1 ("text" : Str) (tVarP 0)) (tNilP)))) (tNextP)) (tRetP (tIfP (tBlP (tCBP (rIsX K a1 cls1 d1) (tConsP (tVarP 0) (tConsP (tConP (.raw (.ref (XC ("InvalidCommand" : Str))))) (tNilP))))) (tLstP (tConsP (tXfP K a1 cls1 d1 ("command" : Str) (tVarP 0)) (tNilP))) (tLstP (tNilP))))))
def ts_law_fields (K : PySem.W.Frag) (CLine : Addr) (XC : Str → Addr) : Addr → Value → Option Addr → TSp := fun a1 cls1 d1 => tSeqP (tIfSP (tBlP (tCBP (rIsXT K a1 cls1 d1) (tConsP (tVarP 0) (tConsP (tTupP (tConsP (tConP (.raw (.ref (XC ("InvalidTrips" : Str))))) (tConsP (tConP (.raw (.ref (XC ("InvalidPlan" : Str))))) (tConsP (tConP (.raw (.ref (XC ("InvalidFixed" : Str))))) (tConsP (tConP (.raw (.ref (XC ("InvalidExchange" : Str))))) (tConsP (tConP (.raw (.ref (XC ("InvalidAction" : Str))))) (tNilP))))))) (tNilP))))) (tRetP (tLstP (tConsP (tXfP K a1 cls1 d1 ("index" : Str) (tVarP 0)) (tNilP)))) (tNextP)) (tSeqP (tIfSP (tBlP (tCBP (rIsXT K a1 cls1 d1) (tConsP (tVarP 0) (tConsP (tTupP (tConsP (tConP (.raw (.ref (XC ("TooManyTrips" : Str))))) (tConsP (tConP (.raw (.ref (XC ("TooManyPlans" : Str))))) (tConsP (tConP (.raw (.ref (XC ("TooManyEntries" : Str))))) (tNilP))))) (tNilP))))) (tRetP (tLstP (tConsP (tXfP K a1 cls1 d1 ("found" : Str) (tVarP 0)) (tNilP)))) (tNextP)) (tSeqP (tIfSP (tBlP (tCBP (rIsXT K a1 cls1 d1) (tConsP (tVarP 0) (tConsP (tTupP (tConsP (tConP (.raw (.ref (XC ("InvalidName" : Str))))) (tConsP (tConP (.raw (.ref (XC ("NameTaken" : Str))))) (tConsP (tConP (.raw (.ref (XC ("NotFree" : Str))))) (tNilP))))) (tNilP))))) (tRetP (tLstP (tConsP (tXfP K a1 cls1 d1 ("name" : Str) (tVarP 0)) (tNilP)))) (tNextP)) (tSeqP (tIfSP (tBlP (tCBP (rIsXT K a1 cls1 d1) (tConsP (tVarP 0) (tConsP (tTupP (tConsP (tConP (.raw (.ref (XC ("InvalidStation" : Str))))) (tConsP (tConP (.raw (.ref (XC ("Overfull" : Str))))) (tConsP (tConP (.raw (.ref (XC ("Full" : Str))))) (tNilP))))) (tNilP))))) (tRetP (tLstP (tConsP (tXfP K a1 cls1 d1 ("station" : Str) (tVarP 0)) (tNilP)))) (tNextP)) (tSeqP (tIfSP (tBlP (tCBP (rIsXT K a1 cls1 d1) (tConsP (tVarP 0) (tConsP (tTupP (tConsP (tConP (.raw (.ref (XC ("InvalidSeats" : Str))))) (tConsP (tConP (.raw (.ref (XC ("NotALine" : Str))))) (tNilP)))) (tNilP))))) (tRetP (tLstP (tConsP (tXfP K a1 cls1 d1 ("value" : Str) (tVarP 0)) (tNilP)))) (tNextP)) (tRetP (tCallP (sp_law_other_fields K CLine XC a1 cls1 d1) [] (tConsP (tVarP 0) (tNilP))))))))
def ts_law_caught (K : PySem.W.Frag) (CLine : Addr) (XC : Str → Addr) : Addr → Value → Option Addr → TSp := fun a1 cls1 d1 => tRetP (tOpP rAdd (tLstP (tConsP (tCallP (sp_law_kind K CLine XC a1 cls1 d1) [] (tConsP (tVarP 1) (tNilP))) (tNilP))) (tCallP (sp_law_fields K CLine XC a1 cls1 d1) [] (tConsP (tVarP 1) (tNilP))))
section
variable {K : PySem.W.Frag} {C : Addr} {XC : Str → Addr} {args : List PV} {P : PV → Prop} {a : Addr} {cls : Value} {d : Option Addr}
theorem len_law_kind (h : sp_law_kind K C XC a cls d args P) : args.length = 1 := by obtain ⟨_, _, _, _, rfl, _⟩ := h; rfl
theorem len_law_other_fields (h : sp_law_other_fields K C XC a cls d args P) : args.length = 1 := by obtain ⟨_, _, _, _, _, rfl, _⟩ := h; rfl
theorem len_law_fields (h : sp_law_fields K C XC a cls d args P) : args.length = 1 := by obtain ⟨_, _, _, _, _, rfl, _⟩ := h; rfl
end
theorem eqv_self {d : PyData} (h2 : SeqAt.shaped d = true) : PyData.eqv d d = true := by
 unfold SeqAt.shaped at h2
 rw [Bool.and_eq_true] at h2
 exact PySem.SeqAt.eqv_refl d h2.1
theorem q_neSame {x : PV} {d : PyData} {P : PV → Prop} (h1 : toD x = some d) (h2 : SeqAt.shaped d = true) (h : P (.bl false)) : rEqP true x x P := ⟨d, d, h1, h1, h2, h2, by rw [eqv_self h2]; exact h⟩
theorem q_eqSame {x : PV} {d : PyData} {P : PV → Prop} (h1 : toD x = some d) (h2 : SeqAt.shaped d = true) (h : P (.bl true)) : rEqP false x x P := ⟨d, d, h1, h1, h2, h2, by rw [eqv_self h2]; exact h⟩
theorem toDs_bls : ∀ bs : List Bool, toDs (bs.map .bl) = some (bs.map .bool)
 | [] => rfl
 | b :: bs => by rw [List.map_cons, toDs, toDs_bls bs]; rfl
theorem toD_bls (bs : List Bool) : toD (.lst (bs.map .bl)) = some (.list (bs.map .bool)) := by rw [toD, toDs_bls]; rfl
theorem canLay_bls : ∀ bs : List Bool, PyData.canLayAll0 (bs.map .bool) = true
 | [] => rfl
 | b :: bs => by rw [List.map_cons, PyData.canLayAll0, canLay_bls bs]; rfl
theorem depth_bls : ∀ bs : List Bool, PyData.depthAll (bs.map .bool) ≤ 0
 | [] => Nat.le_refl _
 | b :: bs => by
  have := depth_bls bs
  rw [List.map_cons, PyData.depthAll]
  simp only [PyData.depth]
  omega
theorem shaped_bls (bs : List Bool) : SeqAt.shaped (.list (bs.map .bool)) = true := by
 unfold SeqAt.shaped
 have := depth_bls bs
 rw [PyData.canLay0, canLay_bls, Bool.true_and]
 refine decide_eq_true ?_
 rw [PyData.depth]
 omega
def kinds (n : Nat) : List Bool := (List.range 22).map fun j => decide (j = n)
theorem kinds_count : ∀ n, n < 22 → (kinds n).count true = 1 := by decide
theorem kinds_get {n : Nat} (h : n < 22) : ((kinds n).map PyData.bool)[n]? = some (.bool true) := by
 unfold kinds
 rw [List.getElem?_map, List.getElem?_map, List.getElem?_range h]
 simp
theorem kinds_no {n m : Nat} {z : PyData} (h : n < 22) (hm : m < n) (e : ((kinds n).map PyData.bool)[m]? = some z) : PyData.eqv z (.bool true) = false := by
 unfold kinds at e
 rw [List.getElem?_map, List.getElem?_map, List.getElem?_range (by omega)] at e
 have ne : decide (m = n) = false := decide_eq_false (by omega)
 simp only [Option.map_some, ne] at e
 cases e
 rfl
theorem split_kinds : Txt.split (("seats trips name seat station plan fixed exchange number text action command notline overfull" : Str) ++ (" full taken notfree busy undo toomanytrips plans entries" : Str)) (" " : Str) = kindWords := by decide +kernel
theorem w_splitX {to te : TEp} {η : EP'} {P : PV → EP' → Prop} (h : to η fun x η1 => (∃ z, x = .str z) ∧ te η1 fun y η2 => ∃ a b, x = .str a ∧ y = .str b ∧ (b.length == 0) = false ∧ a.length + 2 ≤ sizeLine ∧ P (.lst ((Txt.split a b).map .str)) η2) : tSplitP to te η P := h
theorem cut_mid {n : Nat} {x2 : Bool} (hx2 : (decide (12 < n) && decide (n < 19)) = x2) {η : EP'} {R : PV → EP' → Prop} (h : R (.bl x2) η) : if decide ((12 : Int) < (n : Int)) = true then tConP (.int 19) η fun w η3 => rLt (.int (n : Int)) w fun z' => R z' η3 else R (.bl false) η := by
 by_cases c : (12 : Int) < (n : Int)
 ·rw [decide_eq_true c, if_pos rfl]
  have e : decide ((n : Int) < 19) = x2 := by
   rw [← hx2, decide_eq_true (show 12 < n by omega), Bool.true_and]
   exact decide_eq_decide.mpr (by omega)
  refine w_con (q_lt ?_)
  rw [e]; exact h
 ·rw [decide_eq_false c, if_neg Bool.false_ne_true]
  have e : false = x2 := by
   rw [← hx2, decide_eq_false (show ¬ 12 < n by omega), Bool.false_and]
  rw [e]; exact h
section
variable {K : PySem.W.Frag} {C Ca : Addr} {XC : Str → Addr} {args : List PV} {P Q : PV → Prop} {a : Addr} {cls : Value} {d : Option Addr} {n : Nat} {fs : List (Str × PV)}
theorem q_kX (kf : KindF K XC Ca n) (j : Nat) (s : Str) (hj : kindNames[j]? = some s) (h : Q (.bl (decide (j = n)))) : rIsX K a (.ref Ca) d [.exn a d fs, .raw (.ref (XC s))] Q := ⟨fs, _, Ca, .ref (XC s), _, rfl, rfl, kf.e, rfl, kf.k j s hj, h⟩
theorem q_bX {cv : Value} {x : PV} {b : Bool} (kf : KindF K XC Ca n) (hc : clsVal x = some cv) (hk : PySem.W.kitOne K (.ref Ca) cv = some b) (h : Q (.bl b)) : rIsX K a (.ref Ca) d [.exn a d fs, x] Q := ⟨fs, _, Ca, cv, b, rfl, rfl, kf.e, hc, hk, h⟩
theorem kf_any (kf : KindF K XC Ca n) : ∀ js : List Nat, (∀ j ∈ js, j < 22) → PySem.W.kitAny K (.ref Ca) (js.map fun j => .ref (XC (kindNames.getD j ("" : Str)))) = some (decide (n ∈ js))
 | [], _ => rfl
 | j :: js, h => by
  have hj : kindNames[j]? = some (kindNames.getD j ("" : Str)) := by
   have : j < kindNames.length := h j List.mem_cons_self
   rw [List.getD_eq_getElem?_getD, List.getElem?_eq_getElem this]; rfl
  rw [List.map_cons]
  unfold PySem.W.kitAny
  rw [kf.k j _ hj]
  by_cases c : j = n
  ·rw [decide_eq_true c]
   exact congrArg some (decide_eq_true (by rw [c]; exact List.mem_cons_self)).symm
  ·rw [decide_eq_false c]
   dsimp only
   rw [kf_any kf js fun q hq => h q (List.mem_cons_of_mem _ hq)]
   congr 1
   refine decide_eq_decide.mpr ?_
   rw [List.mem_cons]
   exact ⟨.inr, fun z => z.resolve_left fun y => c y.symm⟩
theorem q_aX (kf : KindF K XC Ca n) (js : List Nat) (hj : ∀ j ∈ js, j < 22) {cs : List PV} (hc : cs = js.map fun j => .raw (.ref (XC (kindNames.getD j ("" : Str))))) (h : Q (.bl (decide (n ∈ js)))) : rIsXT K a (.ref Ca) d [.exn a d fs, .tup cs] Q := by
 refine ⟨fs, cs, Ca, js.map fun j => .ref (XC (kindNames.getD j ("" : Str))), _, rfl, rfl, kf.e, ?_, kf_any kf js hj, h⟩
 rw [hc, List.map_map, List.map_map]
 rfl
theorem rd_law_kind (h : sp_law_kind K C XC a cls d args P) : ts_law_kind K C XC a cls d { nx := fun _ => P .non, rt := fun x _ => P x } (startP 6 args) := by
 obtain ⟨Ca, fs, n, rfl, rfl, kf, hp⟩ := h
 have e : startP 6 [.exn a d fs] = [.va (.exn a d fs), .no, .no, .no, .no, .no] := rfl
 rw [e]
 have sz : 1000 < sizeLine := by decide
 have lt := kf.lt
 refine w_seq (w_set (w_lst (w_cons (w_cb (w_cons (w_var (x := .exn a d fs) rfl (w_cons (w_con (w_nil (q_kX kf 0 _ rfl ?_))))))))))
 refine w_cons (w_cb (w_cons (w_var (x := .exn a d fs) rfl (w_cons (w_con (w_nil (q_kX kf 1 _ rfl ?_)))))))
 refine w_cons (w_cb (w_cons (w_var (x := .exn a d fs) rfl (w_cons (w_con (w_nil (q_kX kf 2 _ rfl ?_)))))))
 refine w_nil ⟨by show 3 ≤ sizeLine; omega, ?_⟩
 simp only [List.set_cons_zero, List.set_cons_succ]
 refine w_seq (w_set (w_op (w_var rfl (w_lst (w_cons (w_cb (w_cons (w_var (x := .exn a d fs) rfl (w_cons (w_con (w_nil (q_kX kf 3 _ rfl ?_))))))))))))
 refine w_cons (w_cb (w_cons (w_var (x := .exn a d fs) rfl (w_cons (w_con (w_nil (q_kX kf 4 _ rfl ?_)))))))
 refine w_cons (w_cb (w_cons (w_var (x := .exn a d fs) rfl (w_cons (w_con (w_nil (q_kX kf 5 _ rfl ?_)))))))
 refine w_nil ⟨by show 3 ≤ sizeLine; omega, q_addLL (by show 3 + 3 ≤ sizeLine; omega) ?_⟩
 simp only [List.set_cons_zero, List.set_cons_succ]
 refine w_seq (w_set (w_op (w_var rfl (w_lst (w_cons (w_cb (w_cons (w_var (x := .exn a d fs) rfl (w_cons (w_con (w_nil (q_kX kf 6 _ rfl ?_))))))))))))
 refine w_cons (w_cb (w_cons (w_var (x := .exn a d fs) rfl (w_cons (w_con (w_nil (q_kX kf 7 _ rfl ?_)))))))
 refine w_cons (w_cb (w_cons (w_var (x := .exn a d fs) rfl (w_cons (w_con (w_nil (q_kX kf 8 _ rfl ?_)))))))
 refine w_nil ⟨by show 3 ≤ sizeLine; omega, q_addLL (by show 6 + 3 ≤ sizeLine; omega) ?_⟩
 simp only [List.set_cons_zero, List.set_cons_succ]
 refine w_seq (w_set (w_op (w_var rfl (w_lst (w_cons (w_cb (w_cons (w_var (x := .exn a d fs) rfl (w_cons (w_con (w_nil (q_kX kf 9 _ rfl ?_))))))))))))
 refine w_cons (w_cb (w_cons (w_var (x := .exn a d fs) rfl (w_cons (w_con (w_nil (q_kX kf 10 _ rfl ?_)))))))
 refine w_cons (w_cb (w_cons (w_var (x := .exn a d fs) rfl (w_cons (w_con (w_nil (q_kX kf 11 _ rfl ?_)))))))
 refine w_nil ⟨by show 3 ≤ sizeLine; omega, q_addLL (by show 9 + 3 ≤ sizeLine; omega) ?_⟩
 simp only [List.set_cons_zero, List.set_cons_succ]
 refine w_seq (w_set (w_op (w_var rfl (w_lst (w_cons (w_cb (w_cons (w_var (x := .exn a d fs) rfl (w_cons (w_con (w_nil (q_kX kf 12 _ rfl ?_))))))))))))
 refine w_cons (w_cb (w_cons (w_var (x := .exn a d fs) rfl (w_cons (w_con (w_nil (q_kX kf 13 _ rfl ?_)))))))
 refine w_cons (w_cb (w_cons (w_var (x := .exn a d fs) rfl (w_cons (w_con (w_nil (q_kX kf 14 _ rfl ?_)))))))
 refine w_nil ⟨by show 3 ≤ sizeLine; omega, q_addLL (by show 12 + 3 ≤ sizeLine; omega) ?_⟩
 simp only [List.set_cons_zero, List.set_cons_succ]
 refine w_seq (w_set (w_op (w_var rfl (w_lst (w_cons (w_cb (w_cons (w_var (x := .exn a d fs) rfl (w_cons (w_con (w_nil (q_kX kf 15 _ rfl ?_))))))))))))
 refine w_cons (w_cb (w_cons (w_var (x := .exn a d fs) rfl (w_cons (w_con (w_nil (q_kX kf 16 _ rfl ?_)))))))
 refine w_cons (w_cb (w_cons (w_var (x := .exn a d fs) rfl (w_cons (w_con (w_nil (q_kX kf 17 _ rfl ?_)))))))
 refine w_nil ⟨by show 3 ≤ sizeLine; omega, q_addLL (by show 15 + 3 ≤ sizeLine; omega) ?_⟩
 simp only [List.set_cons_zero, List.set_cons_succ]
 refine w_seq (w_set (w_op (w_var rfl (w_lst (w_cons (w_cb (w_cons (w_var (x := .exn a d fs) rfl (w_cons (w_con (w_nil (q_kX kf 18 _ rfl ?_))))))))))))
 refine w_cons (w_cb (w_cons (w_var (x := .exn a d fs) rfl (w_cons (w_con (w_nil (q_kX kf 19 _ rfl ?_)))))))
 refine w_cons (w_cb (w_cons (w_var (x := .exn a d fs) rfl (w_cons (w_con (w_nil (q_kX kf 20 _ rfl ?_)))))))
 refine w_nil ⟨by show 3 ≤ sizeLine; omega, q_addLL (by show 18 + 3 ≤ sizeLine; omega) ?_⟩
 simp only [List.set_cons_zero, List.set_cons_succ]
 refine w_seq (w_set (w_op (w_var rfl (w_lst (w_cons (w_cb (w_cons (w_var (x := .exn a d fs) rfl (w_cons (w_con (w_nil (q_kX kf 21 _ rfl ?_))))))))))))
 refine w_nil ⟨by show 1 ≤ sizeLine; omega, q_addLL (by show 21 + 1 ≤ sizeLine; omega) ?_⟩
 simp only [List.set_cons_zero, List.set_cons_succ]
 change tSeqP _ _ _ [.va (.exn a d fs), .va (.lst ((kinds n).map .bl)), .no, .no, .no, .no]
 refine w_seq (w_set (w_lst (w_cons (w_cb (w_cons (w_var (x := .exn a d fs) rfl (w_cons (w_con (w_nil (q_bX kf rfl kf.b1 ?_))))))))))
 refine w_cons (w_cb (w_cons (w_var (x := .exn a d fs) rfl (w_cons (w_con (w_nil (q_bX kf rfl kf.b2 ?_)))))))
 refine w_cons (w_cb (w_cons (w_var (x := .exn a d fs) rfl (w_cons (w_con (w_nil (q_bX kf rfl kf.b3 (w_nil ⟨by show 3 ≤ sizeLine; omega, ?_⟩))))))))
 simp only [List.set_cons_zero, List.set_cons_succ]
 refine w_seq (w_set (w_lst (w_cons (w_cb (w_cons (w_var (x := .exn a d fs) rfl (w_cons (w_con (w_nil (q_bX kf rfl kf.o1 ?_))))))))))
 refine w_cons (w_cb (w_cons (w_var (x := .exn a d fs) rfl (w_cons (w_con (w_nil (q_bX kf rfl kf.o2 ?_)))))))
 refine w_cons (w_cb (w_cons (w_var (x := .exn a d fs) rfl (w_cons (w_con (w_nil (q_bX kf rfl kf.o3 (w_nil ⟨by show 3 ≤ sizeLine; omega, ?_⟩))))))))
 simp only [List.set_cons_zero, List.set_cons_succ]
 obtain ⟨x1, hx1⟩ : ∃ b, decide (n < 13) = b := ⟨_, rfl⟩
 obtain ⟨x2, hx2⟩ : ∃ b, (decide (12 < n) && decide (n < 19)) = b := ⟨_, rfl⟩
 obtain ⟨x3, hx3⟩ : ∃ b, decide (18 < n) = b := ⟨_, rfl⟩
 rw [hx1, hx2, hx3]
 refine w_seq (w_if (w_bl (w_op (w_cntB (w_var (x := .lst ((kinds n).map .bl)) rfl ⟨⟨_, rfl⟩, w_con ⟨kinds n, true, rfl, rfl, w_con ?_⟩⟩)))))
 rw [kinds_count n lt]
 refine show rEqP true (.int 1) (.int 1) _ from q_neSame (d := .int 1) rfl rfl (q_iteF (w_next ?_))
 dsimp only
 refine w_seq (w_set (show tIdxDP _ _ _ _ from w_var (x := .lst ((kinds n).map .bl)) rfl ⟨⟨_, rfl⟩, w_con ⟨.bool true, (kinds n).map .bool, n, .bool true, toD_bls _, rfl, shaped_bls _, rfl, kinds_get lt, rfl, fun m z hm e => kinds_no lt hm e, ?_⟩⟩))
 simp only [List.set_cons_zero, List.set_cons_succ]
 refine w_seq (w_if (w_or (w_bl (w_op (w_var (x := .lst ([x1, x2, x3].map .bl)) rfl (w_lst (w_cons (w_op (w_var (x := .int (n : Int)) rfl (w_con (q_lt ?_)))))))))))
 have g1 : decide ((n : Int) < 13) = x1 := by rw [← hx1]; exact decide_eq_decide.mpr (by omega)
 have g3 : decide ((18 : Int) < (n : Int)) = x3 := by rw [← hx3]; exact decide_eq_decide.mpr (by omega)
 rw [g1]
 have sh := shaped_bls [x1, x2, x3]
 have td := toD_bls [x1, x2, x3]
 have word : kindWords[n]? = some (kindW n) := by
  unfold kindW
  have : n < kindWords.length := lt
  rw [List.getD_eq_getElem?_getD, List.getElem?_eq_getElem this]; rfl
 refine w_cons (w_chain (w_con (w_var (x := .int (n : Int)) rfl (q_lt ⟨_, rfl, ?_⟩))))
 refine cut_mid hx2 ?_
 refine w_cons (w_op (w_var (x := .int (n : Int)) rfl (w_con (q_gt ?_))))
 rw [g3]
 refine w_nil ⟨by show 3 ≤ sizeLine; omega, ?_⟩
 refine q_neSame (x := .lst ([x1, x2, x3].map .bl)) td sh (q_iteF ?_)
 refine w_bl (w_op (w_var (x := .lst ([x1, x2, x3].map .bl)) rfl (w_var (x := .lst ([x1, x2, x3].map .bl)) rfl (q_neSame td sh (q_iteF (w_next ?_))))))
 dsimp only
 refine w_seq (w_set (w_con ?_))
 simp only [List.set_cons_zero, List.set_cons_succ]
 refine w_seq (w_set (w_op (w_var rfl (w_con (q_addS (by decide +kernel) ?_)))))
 simp only [List.set_cons_zero, List.set_cons_succ]
 refine w_ret (w_op (w_splitX (w_var rfl ⟨⟨_, rfl⟩, w_con ⟨_, _, rfl, rfl, by decide +kernel, by decide +kernel, w_var (x := .int (n : Int)) rfl ?_⟩⟩)))
 rw [split_kinds]
 refine q_ix (x := .str (kindW n)) ?_ hp
 have := at_map (f := PV.str) (xs := kindWords) (j := (n : Int)) ("" : Str) (by omega) (by show (n : Int) < 22; omega)
 rw [this, Int.toNat_natCast]; rfl
theorem fld_some {n : Nat} {f : Str} {fs : List (Str × PV)} {ys : List PV} (h : FldF K Ca n d fs ys) (hf : kindFields[n]? = some (some f)) : ∃ y, fs = [(f, y)] ∧ ys = [y] ∧ XfN K Ca f ∧ d.isSome = true := by
 rcases h with ⟨f', y, h1, h2, h3, h4, h5⟩ | ⟨h1, _⟩
 ·rw [hf] at h1
  cases h1
  exact ⟨y, h2, h3, h4, h5⟩
 ·rw [hf] at h1
  cases h1
theorem w_xfX {te : TEp} {η : EP'} {P : PV → EP' → Prop} {f : Str} (h : te η fun x η1 => ∃ fs C y, x = .exn a d fs ∧ cls = .ref C ∧ XfN K C f ∧ d.isSome ∧ fs.lookup f = some y ∧ P y η1) : tXfP K a cls d f te η P := h
theorem fld_one {n : Nat} {f : Str} {fs : List (Str × PV)} {ys : List PV} {R : PV → EP' → Prop} {η : EP'} (h : FldF K Ca n d fs ys) (hf : kindFields[n]? = some (some f)) (e : η[0]? = some (.va (.exn a d fs))) (hR : R (.lst ys) η) : tLstP (tConsP (tXfP K a (.ref Ca) d f (tVarP 0)) tNilP) η R := by
 obtain ⟨y, rfl, rfl, hx, hd⟩ := fld_some h hf
 refine w_lst (w_cons (w_xfX (w_var (x := .exn a d [(f, y)]) e ⟨_, Ca, y, rfl, rfl, hx, hd, by simp [List.lookup], w_nil ⟨by show 1 ≤ sizeLine; decide, hR⟩⟩)))
theorem rd_law_other_fields (h : sp_law_other_fields K C XC a cls d args P) : ts_law_other_fields K C XC a cls d { nx := fun _ => P .non, rt := fun x _ => P x } (startP 1 args) := by
 obtain ⟨Ca, fs, n, ys, rfl, rfl, kf, hf, hn, hp⟩ := h
 have e : startP 1 [.exn a d fs] = [.va (.exn a d fs)] := rfl
 rw [e]
 refine w_seq (w_if (w_bl (w_cb (w_cons (w_var (x := .exn a d fs) rfl (w_cons (w_con (w_nil (q_kX kf 3 _ rfl ?_)))))))))
 by_cases c : 3 = n
 ·rw [decide_eq_true c]
  subst c
  exact q_iteT (w_ret (fld_one hf rfl rfl hp))
 rw [decide_eq_false c]
 refine q_iteF (w_next ?_)
 dsimp only
 refine w_seq (w_if (w_bl (w_cb (w_cons (w_var (x := .exn a d fs) rfl (w_cons (w_con (w_nil (q_kX kf 8 _ rfl ?_)))))))))
 by_cases c8 : 8 = n
 ·rw [decide_eq_true c8]
  subst c8
  exact q_iteT (w_ret (fld_one hf rfl rfl hp))
 rw [decide_eq_false c8]
 refine q_iteF (w_next ?_)
 dsimp only
 refine w_seq (w_if (w_bl (w_cb (w_cons (w_var (x := .exn a d fs) rfl (w_cons (w_con (w_nil (q_kX kf 9 _ rfl ?_)))))))))
 by_cases c9 : 9 = n
 ·rw [decide_eq_true c9]
  subst c9
  exact q_iteT (w_ret (fld_one hf rfl rfl hp))
 rw [decide_eq_false c9]
 refine q_iteF (w_next ?_)
 dsimp only
 refine w_ret (w_ife (w_bl (w_cb (w_cons (w_var (x := .exn a d fs) rfl (w_cons (w_con (w_nil (q_kX kf 11 _ rfl ?_)))))))))
 by_cases c11 : 11 = n
 ·rw [decide_eq_true c11]
  subst c11
  exact q_iteT (fld_one hf rfl rfl hp)
 rw [decide_eq_false c11]
 refine q_iteF (w_lst (w_nil ⟨by show 0 ≤ sizeLine; omega, ?_⟩))
 have h0 : ys = [] := by
  simp only [List.mem_cons, List.not_mem_nil, or_false] at hn
  rcases hf with ⟨f, y, h1, _⟩ | ⟨_, _, h3⟩
  ·rcases hn with z | z | z | z | z | z
   ·exact absurd z.symm c
   ·exact absurd z.symm c8
   ·exact absurd z.symm c9
   ·exact absurd z.symm c11
   ·subst z; cases h1
   ·subst z; cases h1
  ·exact h3
 rw [h0] at hp
 exact hp
theorem rd_law_fields (h : sp_law_fields K C XC a cls d args P) : ts_law_fields K C XC a cls d { nx := fun _ => P .non, rt := fun x _ => P x } (startP 1 args) := by
 obtain ⟨Ca, fs, n, ys, rfl, rfl, kf, hf, hp⟩ := h
 have e : startP 1 [.exn a d fs] = [.va (.exn a d fs)] := rfl
 rw [e]
 have sz : 1000 < sizeLine := by decide
 refine w_seq (w_if (w_bl (w_cb (w_cons (w_var (x := .exn a d fs) rfl (w_cons (w_tup (w_cons (w_con (w_cons (w_con (w_cons (w_con (w_cons (w_con (w_cons (w_con (w_nil ⟨by show 5 ≤ sizeLine; omega, w_nil (q_aX kf [1, 5, 6, 7, 10] (by decide) rfl ?_)⟩))))))))))))))))))
 by_cases c0 : n ∈ [1, 5, 6, 7, 10]
 ·rw [decide_eq_true c0]
  have hk : kindFields[n]? = some (some ("index" : Str)) := by
   simp only [List.mem_cons, List.not_mem_nil, or_false] at c0
   rcases c0 with rfl | rfl | rfl | rfl | rfl <;> rfl
  exact q_iteT (w_ret (fld_one hf hk rfl hp))
 rw [decide_eq_false c0]
 refine q_iteF (w_next ?_)
 dsimp only
 refine w_seq (w_if (w_bl (w_cb (w_cons (w_var (x := .exn a d fs) rfl (w_cons (w_tup (w_cons (w_con (w_cons (w_con (w_cons (w_con (w_nil ⟨by show 3 ≤ sizeLine; omega, w_nil (q_aX kf [19, 20, 21] (by decide) rfl ?_)⟩))))))))))))))
 by_cases c1 : n ∈ [19, 20, 21]
 ·rw [decide_eq_true c1]
  have hk : kindFields[n]? = some (some ("found" : Str)) := by
   simp only [List.mem_cons, List.not_mem_nil, or_false] at c1
   rcases c1 with rfl | rfl | rfl <;> rfl
  exact q_iteT (w_ret (fld_one hf hk rfl hp))
 rw [decide_eq_false c1]
 refine q_iteF (w_next ?_)
 dsimp only
 refine w_seq (w_if (w_bl (w_cb (w_cons (w_var (x := .exn a d fs) rfl (w_cons (w_tup (w_cons (w_con (w_cons (w_con (w_cons (w_con (w_nil ⟨by show 3 ≤ sizeLine; omega, w_nil (q_aX kf [2, 15, 16] (by decide) rfl ?_)⟩))))))))))))))
 by_cases c2 : n ∈ [2, 15, 16]
 ·rw [decide_eq_true c2]
  have hk : kindFields[n]? = some (some ("name" : Str)) := by
   simp only [List.mem_cons, List.not_mem_nil, or_false] at c2
   rcases c2 with rfl | rfl | rfl <;> rfl
  exact q_iteT (w_ret (fld_one hf hk rfl hp))
 rw [decide_eq_false c2]
 refine q_iteF (w_next ?_)
 dsimp only
 refine w_seq (w_if (w_bl (w_cb (w_cons (w_var (x := .exn a d fs) rfl (w_cons (w_tup (w_cons (w_con (w_cons (w_con (w_cons (w_con (w_nil ⟨by show 3 ≤ sizeLine; omega, w_nil (q_aX kf [4, 13, 14] (by decide) rfl ?_)⟩))))))))))))))
 by_cases c3 : n ∈ [4, 13, 14]
 ·rw [decide_eq_true c3]
  have hk : kindFields[n]? = some (some ("station" : Str)) := by
   simp only [List.mem_cons, List.not_mem_nil, or_false] at c3
   rcases c3 with rfl | rfl | rfl <;> rfl
  exact q_iteT (w_ret (fld_one hf hk rfl hp))
 rw [decide_eq_false c3]
 refine q_iteF (w_next ?_)
 dsimp only
 refine w_seq (w_if (w_bl (w_cb (w_cons (w_var (x := .exn a d fs) rfl (w_cons (w_tup (w_cons (w_con (w_cons (w_con (w_nil ⟨by show 2 ≤ sizeLine; omega, w_nil (q_aX kf [0, 12] (by decide) rfl ?_)⟩))))))))))))
 by_cases c4 : n ∈ [0, 12]
 ·rw [decide_eq_true c4]
  have hk : kindFields[n]? = some (some ("value" : Str)) := by
   simp only [List.mem_cons, List.not_mem_nil, or_false] at c4
   rcases c4 with rfl | rfl <;> rfl
  exact q_iteT (w_ret (fld_one hf hk rfl hp))
 rw [decide_eq_false c4]
 refine q_iteF (w_next ?_)
 dsimp only
 refine w_ret (w_call (w_cons (w_var (x := .exn a d fs) rfl (w_nil ⟨Ca, fs, n, ys, rfl, rfl, kf, hf, ?_, hp⟩))))
 have := kf.lt
 simp only [List.mem_cons, List.not_mem_nil, or_false] at c0 c1 c2 c3 c4 ⊢
 omega
theorem caught_ok {K : PySem.W.Frag} {C Ca : Addr} {XC : Str → Addr} {n : Nat} {f e : Addr} {d : Option Addr} {fs : List (Str × PV)} {ys : List PV} {D : EndsP} (kf : KindF K XC Ca n) (hf : FldF K Ca n d fs ys) (hl : ys.length ≤ 1000) (h : ∀ η, D.rt (.lst (.str (kindW n) :: ys)) η) : ts_law_caught K C XC e (.ref Ca) d D (ηZ f e d fs) := by
 have sz : 2000 < sizeLine := by decide
 refine w_ret (w_op (w_lst (w_cons (w_call (w_cons (w_var (x := .exn e d fs) rfl (w_nil ⟨Ca, fs, n, rfl, rfl, kf, w_nil ⟨by show 1 ≤ sizeLine; omega, ?_⟩⟩)))))))
 refine w_call (w_cons (w_var (x := .exn e d fs) rfl (w_nil ⟨Ca, fs, n, ys, rfl, rfl, kf, hf, q_addLL (by show 1 + ys.length ≤ sizeLine; omega) ?_⟩)))
 exact h _
end
end Z
namespace L2N
open PySem PySem.Spec PyProof.Rows L2
section
variable {X : Cx} {n : Str} {cs : List Value} {elts : List Expr} {ek : Nat} {i : Nat} {body suite : List Stmt} {b₀ : Stmt} {np pos pos' : Pos} {tb : WX → TS} {ts : Addr → Value → Option Addr → TS} {Wout : WX}
theorem takesN (tk : L2.Takes X Wout) : Takes X Wout := fun u s' ⟨a, B, sI, pins, σ, H, cls, d, e, I, nb, up, sky, na, os, ag, w⟩ => tk u s' ⟨a, B, sI, pins, σ, H, cls, d, e, I, nb, up, by
 rcases sky with ⟨h1, h2, h3, oe, vs, h4, h5, h6⟩ | fl | ⟨k1, k2, k3, k4⟩
 ·exact .inl ⟨h1, h2, h3, oe, vs, h4, h5.zc, h6⟩
 ·exact .inr (.inl (L2H.flyingZ_imp (fun o z => z.zc) fl))
 ·exact .inr (.inr ⟨k1, k2, k3, L2H.tracedZ_imp (fun o z => z.zc) k4⟩), na, os, ag, w⟩
theorem ps_try_tupR (hs : X.stack = X.env :: X.outer) (hf : X.env.frame = some X.env.locals) (hc : NamesL X elts cs) (hm : TupM X.prog X.w X.K cs) (hl : cs.length ≤ 1000) (hpa : ∀ hd : Option Value, PassesOwnAt (model X.prog X.w) (X.A.mark hd) X.A X.env X.xe) (tk : L2.Takes X Wout)
  (hb : ∀ (W : WX) (pn : List (Addr × Obj)) (xe : Value → Shared → Prop), Takes (X.tr pn xe) W → PassesOwn (model X.prog X.w) X.A X.env xe → PSs (X.tr pn xe) body (tb W))
  (hsu : ∀ (a : Addr) (oe : Obj) (cls : Value) (d : Option Addr) (pn : List (Addr × Obj)), Zn cls d oe → (∃ vs, oe.data = .fields vs) → L2.Takes (L2H.suiteX X a ((a, oe) :: pn)) Wout → L2H.HotC (L2H.suiteX X a ((a, oe) :: pn)) →
   PSs (L2H.suiteX X a ((a, oe) :: pn)) (b₀ :: suite) (ts a cls d)) :
  PS X (.Try body [.ExceptHandler (some (.Tuple elts ek np)) none (b₀ :: suite) pos'] [] [] pos) (fun D σ H => tb (wTupO X.K cs ts Wout D) D σ H) := by
 refine ⟨fun pins s σ H D I h => ?_⟩
 have ok := I.ok
 have hfr : X.A.frames = some (X.env :: X.outer) := by rw [ok.frames, hs]
 refine wpAny_Try_except ?_
 refine wpAny_mono ((hb (wTupO X.K cs ts Wout D) (X.pn ++ pins) (fun e s₁ => wpAny (model X.prog X.w) X.A (noteFrame e X.env) (fun _ s₂ => wpAny (model X.prog X.w) X.A (setFlight e none) (fun _ s₃ =>
  wpAny (model X.prog X.w) X.A (handleBy e X.env [.ExceptHandler (some (.Tuple elts ek np)) none (b₀ :: suite) pos']) (SP X pins D) X.xe s₃) X.xe s₂) X.xe s₁) (fun u s' xx => ?_) PassesOwn.looking).run [] s σ H D (I.toTry _) h) (fun f s1 hsp => ?_) (fun e s1 he => he)
 ·-- the catch
  obtain ⟨a, B, sI, pins', σ', H', cls, d, rfl, J', nb, up, sky, na, os, ag, b, hb1, hyes, hno⟩ := xx
  have J : Inv X pins σ' H' sI := J'.ofTry ok
  have sky' : Sky B (X.env :: X.outer) a (Zn cls d) X.env.locals s'.heap := by rw [← hs]; exact sky
  show wpAny (model X.prog X.w) X.A (noteFrame (.ref a) X.env) _ _ _
  refine Sky.land Zn.steady hfr hf sky' fun h3' fl3' up3' => ?_
  have J3' : Inv X pins σ' H' { s' with heap := h3' } := J.landed nb fl3'.1 (up.trans up3') os ag
  obtain ⟨oe3, vs3, he3', hz3, hd3⟩ := fl3'.there
  have notFr : ∀ {h : Heap} {o : Obj} {vs : Array Value}, h.FunFrames B (X.env :: X.outer) → h.get? a = some o → o.data = .fields vs → a ∉ frs (X.env :: X.outer) := fun {h o vs} ff e dd hm => by
   obtain ⟨_, o', e', hnf⟩ := ff.mem hm
   rw [e] at e'; cases e'
   exact hnf _ dd
  have nfr := notFr fl3'.2.2.1 he3' hd3
  have nL : a ≠ X.env.locals := fun z => nfr (List.mem_filterMap.mpr ⟨X.env, List.mem_cons_self, by rw [hf, z]⟩)
  have nF : a ∉ X.fs := fun hm => by
   obtain ⟨e, he, q⟩ := List.mem_filterMap.mp hm
   exact nfr (List.mem_filterMap.mpr ⟨e, List.mem_cons_of_mem _ he, q⟩)
  have S3' := J3'.suite he3' hd3 na nL nF
  refine wpAny_handleBy_cons (codeAny_handlers_test ?_) (by intro q; cases q)
  refine Tuple_ (evalNames S3' hc ?_)
  refine wpAny_newObj_type ?_ (by show cs.toArray.size ≤ sizeLine; rw [List.size_toArray, sizeLine_eq]; omega)
  let h3 : Heap := h3'.push { cls := .type "tuple", dict := none, data := .seq cs.toArray }
  have kp : ∀ b o, h3'.get? b = some o → h3.get? b = some o := fun b o e => Heap.get?_push_of_some _ e
  have fl3 : HandSPX.FlyingZ B (X.env :: X.outer) a (Zn cls d) h3 := flying_keep kp fl3'
  have up3 : s'.heap.UpToSlots h3 := up3'.trans (Heap.UpToSlots.of_keeps kp)
  have J3 : Inv X pins σ' H' { s' with heap := h3 } := J.landed nb fl3.1 (up.trans up3) os ag
  have he3 := kp _ _ he3'
  have LT : PySem.W.Looks (model X.prog X.w) h3 (typeOf (.ref a)) cls := fun A Q E s k q => wpAny_typeOf_ref (k _ _ he3) (by rw [hz3.1]; exact q)
  have LM := hm J3.kIn LT (Heap.get?_push_size _ rfl) hb1
  show wpAny _ _ _ _ _ { s' with heap := h3 }
  refine LM.here ?_
  cases b with
  | true =>
   refine codeAny_handlers_suite ?_
   refine HandSPX.lands_againZ fl3 fun h4 fl4 up4 => ?_
   have J4 : Inv X pins σ' H' { s' with heap := h4 } := J.landed nb fl4.1 ((up.trans up3).trans up4) os ag
   obtain ⟨oe4, vs4, he4, hz4, hd4⟩ := fl4.there
   have S4 := J4.suite he4 hd4 na nL nF
   have tkS : L2.Takes (L2H.suiteX X a ((a, oe4) :: (X.pn ++ pins))) Wout := fun u2 s2 x2 => by
    obtain ⟨a2, B2, sI2, pn2, σ2, H2, cls2, d2, e2, I2, nb2, up2, sky2, na2, os2, ag2, w2⟩ := x2
    exact tk u2 s2 ⟨a2, B2, sI2, pins, σ2, H2, cls2, d2, e2, L2H.unsuiteX I2 ok, nb2, up2, sky2, na2, os2, ag2, w2⟩
   have hot : L2H.HotC (L2H.suiteX X a ((a, oe4) :: (X.pn ++ pins))) := ⟨(a, oe4), ⟨rfl, vs4, hd4, hz4.2.2 vs4 hd4⟩, List.mem_cons_self⟩
   refine wpAny_mono ((hsu a oe4 cls d (X.pn ++ pins) hz4 ⟨_, hd4⟩ tkS hot).run [] _ _ H' _ (L2H.suiteX_of S4) (hyes rfl a na)) (fun f s6 hsp => ?_) (fun e6 s6 z => hpa (some (.ref a)) e6 s6 z)
   cases f with
   | next =>
    obtain ⟨σ6, H6, S6, q6⟩ := hsp
    exact ⟨_, _, L2H.unsuiteX S6 ok, q6⟩
   | brk =>
    obtain ⟨σ6, H6, S6, q6⟩ := hsp
    exact ⟨_, _, L2H.unsuiteX S6 ok, q6⟩
   | cont =>
    obtain ⟨σ6, H6, S6, q6⟩ := hsp
    exact ⟨_, _, L2H.unsuiteX S6 ok, q6⟩
   | ret u =>
    obtain ⟨v6, σ6, H6, S6, r6, q6⟩ := hsp
    exact ⟨_, _, _, L2H.unsuiteX S6 ok, r6, q6⟩
  | false =>
   show wpAny _ X.A (handleBy (.ref a) X.env []) _ _ _
   refine wpAny_handleBy_nil ?_
   obtain ⟨k1, k2, k3, oe, vs, T, oT, ts', he, hz, hd, h1, hr⟩ := id fl3
   unfold PySem.passOn
   refine wpAny_bind (wpAny_field he hd h1 ?_)
   rw [if_neg (show ¬ ((Value.ref T == Value.none) = true) from by simp)]
   have fin : wpAny (model X.prog X.w) X.A (setFlight (.ref a) X.env.frame) (fun _ s4 => wpAny (model X.prog X.w) X.A (throw (.ref a) : Sem Flow) (SP X pins D) X.xe s4) X.xe { s' with heap := h3 } := by
    rw [hf]
    refine HandSPX.setFlight_upZ (L2H.flyingZ_imp (fun o z => z.zc) fl3) fun h4 hh4 up4 => wpAny_throw (tk _ _ ?_)
    exact ⟨a, B, sI, pins, σ', H', cls, d, rfl, J, nb, (up.trans up3).trans up4, .inr (.inr (by rw [hs]; exact hh4)), na, os, ag, hno rfl⟩
   first
    | exact wpAny_bind (wpAny_pure (wpAny_bind fin))
    | exact wpAny_bind fin
 ·cases f with
  | next =>
   obtain ⟨σ', H', J', q⟩ := hsp
   exact wpAny_execs_nil ⟨σ', H', J'.ofTry ok, q⟩
  | brk =>
   obtain ⟨σ', H', J', q⟩ := hsp
   exact ⟨σ', H', J'.ofTry ok, q⟩
  | cont =>
   obtain ⟨σ', H', J', q⟩ := hsp
   exact ⟨σ', H', J'.ofTry ok, q⟩
  | ret u =>
   obtain ⟨v, σ', H', J', r, q⟩ := hsp
   exact ⟨v, σ', H', J'.ofTry ok, r, q⟩
end
end L2N
namespace ZX
open PySem PySem.Spec PyProof.Rows L2
section
variable {X : Cx} {C fI cc cda : Addr} {B i newId : String} {bmB : List Value} {fld : Str} {fd : FuncData}
theorem pmk5_X {x : Str} {p pos : Pos} {e : Expr} {es : List Expr} {ta : TA} (BX : BaseX B i newId bmB) (Y : XInit X.prog X.K C fI cc cda fld B i newId bmB fd) (T : XCl X.K C fI) (hsup : X.mg "super" = none) (hr : L2H.RoomH 1 X.A) (hg : Gl X x) (hm : X.mg x = some (.ref C)) (ha : PA X (e :: es) ta)
  (hdb : (x == ("__debug__" : Str)) = false := by decide) (he : starEach (e :: es) X.env = (false, eval e X.env) :: starEach es X.env := by rfl) (hpl : (backTo pos (starEach es X.env)).any (·.1) = false := by rfl) :
  L2H.PMk5 X (.Call (.Name x p) (e :: es) [] pos) (tMkX C fld ta) := by
 intro pins s σ H Q I h
 refine wpAny_Call_Name_kw (ld_glob I hg hm ?_ hdb)
 refine PySem.W.callWith_K (h₀ := X.base) I.ok.mod.kin T.kC (thn (ha.run pos pins s σ H _ I h) fun us s1 ⟨vs, H1, I1, r1, v, ev, q1⟩ => ⟨I1.kIn, ?_⟩) he hpl
 show wpAny _ _ (call (.ref C) us) _ _ _
 subst ev
 cases r1 with
 | @cons _ u _ ur ra rr =>
 cases rr
 obtain ⟨hp, g, dr, tk, os⟩ := s1
 obtain ⟨nm, N', qn, bs, bm, hdct, sn, sub, ab, col, dd, k0, k1, k2, k3, k5, hC, hT⟩ := PySem.W.excInit_of I1.kIn Y.ini
 have kk : ∀ b o, hp.get? b = some o → ((hp.push (PySem.W.kdv_tup [u])).push (PySem.HandSPX.excO C hp.objs.size)).get? b = some o := fun b o e => Heap.get?_push_of_some _ (Heap.get?_push_of_some _ e)
 have hget : ((hp.push (PySem.W.kdv_tup [u])).push (PySem.HandSPX.excO C hp.objs.size)).get? (hp.objs.size + 1) = some (PySem.HandSPX.excO C hp.objs.size) := by heap_get
 obtain ⟨mb, hb1, hb2⟩ := I1.ok.mod.blt
 have nK : X.K.lookup (hp.objs.size + 1) = none := by
  cases z : X.K.lookup (hp.objs.size + 1) with
  | none => rfl
  | some o => exact absurd (Heap.lt_size (I1.kIn _ _ z)) (by show ¬ (hp.objs.size + 1 < hp.objs.size); omega)
 refine wpAny_call (PySem.HandSPX.call_own BX.FB hT hC (PySem.W.looks_findIn I1.kIn T.iC) (fun self => PySem.W.bind_fn I1.kIn self T.tI) (by rw [sizeLine_eq]; simp) ?_)
 have bk : ∀ b o, X.base.get? b = some o → hp.get? b = some o := I1.bk
 refine init_run (mg := X.mg) (mb := mb) BX Y (fun b o e => kk b o (I1.kIn b o e)) (I1.ok.mod.glob.keeps fun b o e => kk b o (bk b o e)) (hb1.keeps fun b o e => kk b o (bk b o e)) ((hb2 _ (by decide)).trans (by decide +kernel)) hsup (I1.ok.mod.nolimit.keeps fun b o e => kk b o (bk b o e)) ?_ hget nK ?_
 ·exact (roomH_make hr C [u]).depth
 ·intro h' t' dx es0 n0 tk0 k1 e1 e2 e3 e4
  obtain ⟨nd, ld0⟩ := e3
  have ld : hp.objs.size + 1 < dx := ld0
  obtain ⟨tk1, e4⟩ := e4
  obtain ⟨e5, e6⟩ := Prod.mk.inj e4
  refine ⟨rfl, ?_⟩
  have hsz : hp.objs.size ≤ dx := by omega
  have hn : H1 dx = none := I1.hok.fresh hsz
  have na : H1 (hp.objs.size + 1) = none := I1.hok.fresh (by show hp.objs.size ≤ hp.objs.size + 1; omega)
  obtain ⟨G, g1, g2⟩ := restrict h' fun b => decide (b ≠ hp.objs.size + 1)
  have gk : ∀ b, b ≠ hp.objs.size + 1 → G.get? b = h'.get? b := fun b hb => g1 b (decide_eq_true hb)
  have ge : G.get? (hp.objs.size + 1) = none := g2 _ (by simp)
  have kG : ∀ b o, hp.get? b = some o → G.get? b = some o := fun b o e => by
   have nb : b ≠ hp.objs.size + 1 := Nat.ne_of_lt (Nat.lt_succ_of_lt (Heap.lt_size e))
   rw [gk b nb]
   exact k1 b o nb (kk b o e)
  have hdx : G.get? dx = some (PySem.W.dictOf es0 n0) := (gk dx (by omega)).trans e2
  have hns : G.Ns1 dx (fun y => if y = fld then some u else none) := by
   have z : es0 = [⟨PyData.keyHash X.w.params fld, .str fld tk1, u⟩] := by rw [← e5]; rfl
   rw [z] at hdx
   exact ns1_one hdx
  have J : Inv X pins σ (upd H1 dx (.xd [(fld, v)])) ⟨G, g, dr, tk0, os⟩ := I1.laid (t' := tk0) (a := dx) (o := .xd [(fld, v)]) (h' := G) kG hsz ⟨_, hns, fun f => by
   by_cases q : f = fld
   ·subst q
    simp [List.lookup]
    exact ra
   ·have q' : (f == fld) = false := by simpa using q
    simp [List.lookup, q, q']
    exact True.intro⟩
  refine ⟨⟨hp.objs.size + 1, _, _, ⟨G, g, dr, tk0, os⟩, _, .ref C, some dx, rfl, J, fun b o z => ?_, ge, e1, ⟨rfl, rfl, fun vs q => by cases q; rfl⟩, rfl, rfl, ?_, rfl, J.bare, raises_own T.exC T.tyC, q1 dx hn⟩, fun a oe vs ea hg hd => ?_⟩
  ·by_cases hb : b = hp.objs.size + 1
   ·rw [hb, ge] at z
    cases z
   ·exact (gk b hb).symm.trans z
  ·rw [upd_ne (by show hp.objs.size + 1 ≠ dx; omega)]
   exact na
  ·cases ea
   have hg : h'.get? (hp.objs.size + 1) = some oe := hg
   rw [e1] at hg
   cases hg
   cases hd
   show 4 < 6
   decide
end
end ZX
namespace Z
open PySem PySem.Spec L2
open PyProof.Rows hiding St
section
variable {X : Cx} {T : List (Addr × Str)} {W : WXs} {a b e o : Expr} {es : List Expr} {te ta tb : TEp} {t : TAp} {tf : TFp} {pos pos' p apos cpos np : Pos} {k : Nat} {f C : Addr} {fd : FuncData} {ps : List Str} {sp : SpX} {sr : SpRX} {x m : Str}
theorem new_upX {dvs : List V} {dps : List PV} (hp : ∀ O H, Reps X.K O H dps dvs) {σ : St} {H : Hp} {Q : VK} (q : upX X.K T W (tNewX C sr dps t) σ H Q) : tMakeSD C (upSpRX X.K T sr) dvs (WE W) (upA X.K T t) σ H Q := by
 obtain ⟨F, η, P, Zw, R, h, k, kx⟩ := q
 refine ⟨F, η, _, R, h, fun args η1 vs H1 h1 e1 R1 r1 x dx nx ndx nex => ?_⟩
 have s1 : Same H1 (upd (upd H1 dx (.own x)) x (.ins C dx [])) := fun b u hb => by
  rw [upd_ne (ne_of_none hb nx), upd_ne (ne_of_none hb ndx)]; exact hb
 have nO : ¬ Oof F σ η1 x := fun z => R1.trO x z (Nw.of nx)
 have c1 : Car (Oof F σ η1) (With (Oof F σ η1) x) H1 (upd (upd H1 dx (.own x)) x (.ins C dx [])) := fun b u n hb _ => ⟨s1 b u hb, fun z => z.elim n (ne_of_none hb nx)⟩
 have gr : ∀ {H2 : Hp}, GrB x (upd (upd H1 dx (.own x)) x (.ins C dx [])) H2 → Gr H1 H2 := fun g => ⟨fun b u hb t => g.keep b u (ne_of_none hb nx) (s1 b u hb) t, fun b hb => g.live b fun q => hb fun o z => q o (s1 b o z)⟩
 refine ⟨Oof F σ η1, x, _, .o C [], _, _, _, rfl, nO, R1.trO.same s1, R1.tb.ext s1, ⟨dx, [], upd_same, by unfold RepF; rfl⟩, (r1.car c1).app (hp _ _), h1, fun z o' v H2 pz g tb ho' rz => ?_, fun C' fs d H2 z g tb xa => ?_⟩
 ·obtain ⟨rfl, fs, rfl, pz⟩ := pz
  obtain ⟨dx', ws, hx, rf⟩ := ho'
  refine ⟨rz.non_, k _ η1 _ H2 pz (e1.trans (gr g).ext) (R1.gr (gr g) tb) ?_⟩
  unfold Rep
  exact ⟨x, dx', ws, rfl, nO, hx, rf.mono fun b z => .inl z⟩
 ·exact kx C' fs η1 d σ H2 z (e1.trans (gr g).ext) (R1.gr (gr g) tb) xa
theorem pe_makeL {i : Nat} {t : TA} {dvs : List V} {ds : List Value} {S : Sp} {E : St → XK} (M : Mk X.K C f) (Fn : FnOk X.prog X.w X.K X.mg X.base (L2N.CX X.prog X.w) k f fd ps S) (hr : Room (k + 1) X.A) (hN : X.N[i]? = some x) (hv : Vis X.env.scope x) (hb : Binds X.K fd ps ds) (hd : Vals dvs ds) (hx : ∀ σ, PassesAt (L2N.CX X.prog X.w) X σ (E σ))
  (ha : PA X (e :: es) t) (hdb : (x == ("__debug__" : Str)) = false := by decide) (hcd : (x == ("__classdict__" : Str)) = false := by decide) (he : starEach (e :: es) X.env = (false, eval e X.env) :: starEach es X.env := by rfl) (hpl : (backTo pos (starEach es X.env)).any (·.1) = false := by rfl) :
  PE X (.Call (.Name x p) (e :: es) [] pos) (fun σ H Q => σ[i]? = some (some (.ref C)) ∧ tMakeSD C S dvs E t σ H Q) := by
 constructor
 intro pins s σ H Q I h
 obtain ⟨hs, h⟩ := h
 refine wpAny_Call_Name_kw (thn ((pe_var (pos := p) (i := i) hN hv hdb hcd).run pins s σ H (fun v H1 => v = .ref C ∧ H1 = H) I ⟨.ref C, hs, rfl, rfl⟩) fun u s1 hq1 => ?_)
 obtain ⟨v, H1, I1, r1, ev, eH⟩ := hq1
 subst ev eH
 obtain rfl : u = Value.ref C := r1
 refine PySem.W.callWith_K (h₀ := X.base) I1.ok.mod.kin M.kp (thn (ha.run pos pins s1 σ H1 _ I1 h) fun us s2 hq2 => ?_) he hpl
 obtain ⟨vs, H2, I2, r, q⟩ := hq2
 exact ⟨I2.kIn, run_makeSD M Fn hr hb hd (fun H s e s' J c => hx σ pins H s e s' J c) I2 r q⟩
def tNewLX (i : Nat) (C : Addr) (sr : SpRX) (dps : List PV) (t : TAp) : TXp := fun η P Zw => η[i]? = some (.va (.raw (.ref C))) ∧ tNewX C sr dps t η P Zw
theorem zx_newL {i : Nat} {dvs : List V} {ds : List Value} {dps : List PV} (M : Mk X.K C f) (Fn : FnOk X.prog X.w X.K X.mg X.base (L2N.CX X.prog X.w) k f fd ps (upSpRX X.K T sr)) (tk : L2N.Takes X W) (hr : Room (k + 1) X.A) (hN : X.N[i]? = some x) (hv : Vis X.env.scope x) (hb : Binds X.K fd ps ds) (hd : Vals dvs ds) (hp : ∀ O H, Reps X.K O H dps dvs)
  (ha : PA X (e :: es) (upA X.K T t)) (hdb : (x == ("__debug__" : Str)) = false := by decide) (hcd : (x == ("__classdict__" : Str)) = false := by decide) (he : starEach (e :: es) X.env = (false, eval e X.env) :: starEach es X.env := by rfl) (hpl : (backTo pos (starEach es X.env)).any (·.1) = false := by rfl) :
  PE X (.Call (.Name x p) (e :: es) [] pos) (upX X.K T W (tNewLX i C sr dps t)) := by
 refine PE.weak (pe_makeL (i := i) M Fn hr hN hv hb hd (L2N.passAt tk) ha hdb hcd he hpl) fun σ H Q q => ?_
 obtain ⟨F, η, P, Zw, R, ⟨h0, h⟩, k, kx⟩ := q
 refine ⟨?_, new_upX hp ⟨F, η, P, Zw, R, h, k, kx⟩⟩
 obtain ⟨v, h1, h2⟩ := R.va i _ h0
 unfold Rep at h2
 subst h2
 exact h1
def tTryRX (K : PySem.W.Frag) (cs : List Value) (C : Addr) (fld : Str) (tb : TSX) (te : TEp) : TSX := fun D Zw η => tb D (fun C1 fs η' => ∃ b, PySem.W.exmAny K (.ref C1) cs = some b ∧ (b = true → te η' fun y η1 => Zw C [(fld, y)] η1) ∧ (b = false → Zw C1 fs η')) η
theorem ps_raiseFN {fld : Str} {j : Nat} (Y : XOk X.prog X.K X.mg x C fld) (hsup : X.mg "super" = none) (hc : L2H.HotC X) (tk : L2.Takes X W) (hr : L2H.RoomH 1 X.A) (hg : Gl X x) (ha : PE X e (up X.K T te))
  (hdb : (x == ("__debug__" : Str)) = false := by decide) (he : starEach [e] X.env = (false, eval e X.env) :: starEach [] X.env := by rfl) (hpl : (backTo pos' (starEach [] X.env)).any (·.1) = false := by rfl) :
  PS X (.Raise (some (.Call (.Name x p) [e] [] pos')) (some (.Constant .none j cpos)) pos) (upSX X.K T W (tRaiseX C fld te)) := by
 obtain ⟨fI, cc, cda, B, i, newId, bmB, fd, BX, YI, YC⟩ := Y.ex
 refine PS.weak (L2H.ps_raiseHN hc tk (ZX.pmk5_X BX YI YC hsup hr hg Y.g (za_cons ha za_nil he) hdb he hpl)) fun D σ H q => ?_
 obtain ⟨F, η, D', Zw, R, h, k1, k2, k3, k4, kx⟩ := q
 refine ⟨F, η, fun ys η1 => ∃ y, ys = [y] ∧ Zw C [(fld, y)] η1, R, ?_, fun ys η1 vs H1 h1 e1 R1 r1 => ?_⟩
 ·refine Eq.mp ?_ (show te η fun y η1 => Zw C [(fld, y)] η1 from h)
  unfold tConsP tNilP
  congr 1
  funext y η1
  simp
 ·obtain ⟨y, rfl, hz⟩ := h1
  obtain ⟨v, rfl, r⟩ := r1.one
  refine ⟨v, rfl, fun d nd => ?_⟩
  have sm : Same H1 (upd H1 d (.xd [(fld, v)])) := Same.new nd
  refine kx C [(fld, y)] η1 (some d) σ _ hz (e1.trans (.same sm)) (R1.same sm) (.inr ⟨d, _, rfl, R1.trO.fresh nd, upd_same, ?_⟩)
  unfold RepF
  exact ⟨v, [], rfl, r.car (Car.same sm), by unfold RepF; rfl⟩
theorem zx_tryR {tpos : Pos} {fld : Str} {j ek : Nat} {elts : List Expr} {cs : List Value} {body : List Stmt} {tb : TSX} (hs : X.stack = X.env :: X.outer) (hf : X.env.frame = some X.env.locals) (hc : L2N.NamesL X elts cs) (hm : L2N.TupM X.prog X.w X.K cs) (hl : cs.length ≤ 1000)
  (hpa : ∀ hd : Option Value, PassesOwnAt (model X.prog X.w) (X.A.mark hd) X.A X.env X.xe) (tk : L2.Takes X W)
  (hb : ∀ (W' : WXs) (pn : List (Addr × Obj)) (xe : Value → Shared → Prop), L2N.Takes (X.tr pn xe) W' → PassesOwn (model X.prog X.w) X.A X.env xe → PSs (X.tr pn xe) body (upSX X.K T W' tb))
  (Y : XOk X.prog X.K X.mg x C fld) (hsup : X.mg "super" = none) (hr : L2H.RoomH 1 X.A) (hg : Gl X x) (ha : ∀ (a : Addr) (pn : List (Addr × Obj)), PE (L2H.suiteX X a pn) e (up X.K T te))
  (hdb : (x == ("__debug__" : Str)) = false := by decide) (he : ∀ (a : Addr) (pn : List (Addr × Obj)), starEach [e] (L2H.suiteX X a pn).env = (false, eval e (L2H.suiteX X a pn).env) :: starEach [] (L2H.suiteX X a pn).env := by intro _ _; rfl) :
  PS X (.Try body [.ExceptHandler (some (.Tuple elts ek np)) none [.Raise (some (.Call (.Name x p) [e] [] pos')) (some (.Constant .none j cpos)) pos] apos] [] [] tpos) (upSX X.K T W (tTryRX X.K cs C fld tb te)) := by
 refine PS.weak (L2N.ps_try_tupR (tb := fun W' => upSX X.K T W' tb) (ts := fun a cls d => upSX X.K T W (tRaiseX C fld te)) hs hf hc hm hl hpa tk hb (fun a oe cls d pn hz hf' tkS hot => pss_one (ps_raiseFN (X := L2H.suiteX X a ((a, oe) :: pn)) Y hsup hot tkS ⟨hr.dp, hr.un⟩ hg (ha a _) hdb (he a _)))) fun D σ H q => ?_
 obtain ⟨F, η, D', Zw, R, h, k1, k2, k3, k4, kx⟩ := q
 refine ⟨F, η, D', _, R, h, k1, k2, k3, k4, fun C1 fs η' d σ' H' z e R' x => ?_⟩
 obtain ⟨b, hb1, hy, hno⟩ := z
 refine ⟨b, hb1, fun hbt a na => ?_, fun hbf => kx C1 fs η' d σ' H' (hno hbf) e R' x⟩
 exact ⟨F, η', D', Zw, R', hy hbt, fun η2 σ2 H2 q e2 R2 => k1 _ _ _ q (e.trans e2) R2, fun η2 σ2 H2 q e2 R2 => k2 _ _ _ q (e.trans e2) R2, fun η2 σ2 H2 q e2 R2 => k3 _ _ _ q (e.trans e2) R2, fun y η2 σ2 v H2 q e2 R2 r2 => k4 y _ _ v _ q (e.trans e2) R2 r2, kx.ext e⟩
end
section
variable {P : Program} {w : World} {K : PySem.W.Frag} {mg : Str → Option Value} {base : Heap} {T : List (Addr × Str)}
theorem okXPC {x qual : Str} {st : Stmt} {f : Addr} {fd : FuncData} {N ps : List Str} {k : Nat} {sp : SpX} (Fn : Fun K x qual st f fd) (S : FnScope N ps (defScope st)) (hl : ∀ args P Zw, sp args P Zw → args.length = ps.length) (hn : ps.length ≤ N.length)
  (hbody : ∀ (cdv : Value) (A : Around) (outer : List Env) (s : Shared) (H : Hp) (E : XK), Room k (A.deeper (envOfC qual (defScope st) s.heap.objs.size f cdv)) → L2.Takes (cxOf (L2.CX P w) P w K mg base N qual (defScope st) f cdv A outer s H E) (fun cls d _ H' => E cls d H') →
   PassesOwn (model P w) (cxOf (L2.CX P w) P w K mg base N qual (defScope st) f cdv A outer s H E).A (cxOf (L2.CX P w) P w K mg base N qual (defScope st) f cdv A outer s H E).env (cxOf (L2.CX P w) P w K mg base N qual (defScope st) f cdv A outer s H E).xe →
   (∀ hd : Option Value, PassesOwnAt (model P w) ((cxOf (L2.CX P w) P w K mg base N qual (defScope st) f cdv A outer s H E).A.mark hd) (cxOf (L2.CX P w) P w K mg base N qual (defScope st) f cdv A outer s H E).A (cxOf (L2.CX P w) P w K mg base N qual (defScope st) f cdv A outer s H E).env (cxOf (L2.CX P w) P w K mg base N qual (defScope st) f cdv A outer s H E).xe) →
   ∃ ts, PSs (cxOf (L2.CX P w) P w K mg base N qual (defScope st) f cdv A outer s H E) (defBody st) (upSX K T (fun cls d _ H' => E cls d H') ts) ∧
    ∀ args P Zw, sp args P Zw → ts { nx := fun _ => P .non, rt := fun x _ => P x } (fun C fs _ => Zw C fs) (startP N.length args)) :
  FnOk P w K mg base (L2.CX P w) (k + 1) f fd ps (upSpX K T sp) := by
 obtain ⟨oc, od, kV, doc, pm, an, cdv, ct, osl, rfl, lk, hcd⟩ := Fn.ex
 refine fn_of lk hcd S (len_spX hl) fun A outer s H vs Q E hr h => ?_
 obtain ⟨ts, d, rd⟩ := hbody cdv A outer s H E hr (L2.takes_of rfl rfl rfl rfl) PassesOwn.leaving (fun _ => PassesOwnAt.leaving)
 exact ⟨_, d, body_spX h (fun args P Zw hs => by rw [hl _ _ _ hs]; exact hn) rd⟩
end
section
variable {X : Cx}
def rIntS : R1p := fun ps P => match ps with
 | [.str a] => ∃ n, PySem.intText? a = some n ∧ a.length ≤ 640 ∧ P (.int n)
 | _ => False
theorem zc_intS : CallR X (.type "int") (r1 X.K rIntS) := by
 refine CallR.weak (call_int_str (X := X)) fun xs H Q h => ?_
 obtain ⟨O, ps, P, tr, hx, h, k⟩ := h
 unfold rIntS at h
 split at h
 ·rename_i a
  obtain ⟨n, h1, h2, h3⟩ := h
  obtain ⟨v, rfl, r⟩ := hx.one
  cases r.str_
  exact ⟨a, n, rfl, h1, h2, k.int h3⟩
 ·exact h.elim
end
abbrev PrX3 := PySem.W.Frag → Addr → (Str → Addr) → List PV → (PV → Prop) → WC → Prop
def optI : Option Int → PV
 | some i => .int i
 | none => .non
def digS : Str := ("0123456789" : Str)
def digB (w : Str) : Bool := w.cps.toList.all fun c => decide (c ∈ digS.cps.toList)
def numW (w : Str) : Option Int := if w.cps.toList = [] ∨ digB w = false then none else if w.cps.toList[0]? = some 48 ∧ 1 < w.length then none else some ((NumText.digitsVal w.cps.toList : Nat) : Int)
def partN (w : Str) : Str := (Txt.partition w (":" : Str)).1
def partS (w : Str) : Str := (Txt.partition (Txt.partition w (":" : Str)).2.2 ("-" : Str)).1
def partE (w : Str) : Str := (Txt.partition (Txt.partition w (":" : Str)).2.2 ("-" : Str)).2.2
def tripW (w : Str) : PV := .tup [.str (partN w), optI (numW (partS w)), optI (numW (partE w))]
def wordsW (row : Str) : List Str := Txt.split row (" " : Str)
structure RdF (K : PySem.W.Frag) (XC : Str → Addr) : Prop where
 e1 : PySem.W.exmAny K (.ref (XC ("InvalidSeats" : Str))) [.ref (XC ("InvalidSeats" : Str)), .ref (XC ("InvalidTrips" : Str))] = some true
 e2 : PySem.W.exmAny K (.ref (XC ("InvalidTrips" : Str))) [.ref (XC ("InvalidSeats" : Str)), .ref (XC ("InvalidTrips" : Str))] = some true
def sp_number_written : PrP := fun K _ args P => ∃ w, args = [.str w] ∧ w.length ≤ 640 ∧ P (optI (numW w))
def sp_trip_written : PrP := fun K _ args P => ∃ w, args = [.str w] ∧ w.length ≤ 640 ∧ P (tripW w)
def sp_Line_read : PrX3 := fun K C XC args P Zw => ∃ row, args = [.raw (.ref C), .str row] ∧ RdF K XC ∧ row.length ≤ 100000 ∧ (∀ w ∈ wordsW row, w.length ≤ 640) ∧
 (∀ n rs, numW ((wordsW row).getD 0 ("" : Str)) = some n → ((wordsW row).drop 1).map tripW = rs.map rowP → 1 ≤ n → n ≤ 20 → Rw rs → P (lineP C n rs)) ∧
 (seatsB (optI (numW ((wordsW row).getD 0 ("" : Str)))) = false ∨ vNT (((wordsW row).drop 1).map tripW) < ((wordsW row).drop 1).length → Zw (XC ("InvalidText" : Str)) [(("text" : Str), .str row)])
def ts_number_written (K : PySem.W.Frag) (CLine : Addr) : TSp := tSeqP (tIfSP (tOrP (tBlP (tOpP (rEqI false) (tVarP 0) (tConP (.str ("" : Str))))) (tNotP (tBlP (tCBP rAllP (tConsP (tValP (tLcP (iStrP (tVarP 0)) (gNameP 1) (tYesP) (tOpP (rInS false) (tVarP 1) (tConP (.str ("0123456789" : Str)))) [1])) (tNilP)))))) (tRetP (tConP .non)) (tNextP)) (tSeqP (tIfSP (tAndP (tBlP (tOpP (rEqI false) (tOpP rIxP (tVarP 0) (tConP (.int 0))) (tConP (.str ("0" : Str))))) (tBlP (tOpP rGt (tCBP rLen (tConsP (tVarP 0) (tNilP))) (tConP (.int 1))))) (tRetP (tConP .non)) (tNextP)) (tRetP (tCBP rIntS (tConsP (tVarP 0) (tNilP)))))
def ts_trip_written (K : PySem.W.Frag) (CLine : Addr) : TSp := tSeqP (tAsgP (tPartiP (tVarP 0) (tConP (.str (":" : Str)))) (gTupP 3 (gConsP (gNameP 1) (gConsP (gNameP 2) (gConsP (gNameP 3) (gNilP)))))) (tSeqP (tAsgP (tPartiP (tVarP 3) (tConP (.str ("-" : Str)))) (gTupP 3 (gConsP (gNameP 4) (gConsP (gNameP 5) (gConsP (gNameP 6) (gNilP)))))) (tRetP (tTupP (tConsP (tVarP 1) (tConsP (tCallP (sp_number_written K CLine) [] (tConsP (tVarP 4) (tNilP))) (tConsP (tCallP (sp_number_written K CLine) [] (tConsP (tVarP 6) (tNilP))) (tNilP)))))))
def ts_Line_read (K : PySem.W.Frag) (CLine : Addr) (XC : Str → Addr) : TSX := tSeqX (tIfX (tNotP (tBlP (tCBP (rIsI K) (tConsP (tVarP 1) (tConsP (tConP (.raw (.ty "str"))) (tNilP)))))) (tRaiseX (XC ("InvalidText" : Str)) ("text" : Str) (tVarP 1)) (tPlX (tNextP))) (tSeqX (tPlX (tSetP 2 (tSplitP (tVarP 1) (tConP (.str (" " : Str)))))) (tSeqX (tPlX (tSetP 3 (tCBP rTuple (tConsP (tValP (tLcP (iListP (tSliceP (tVarP 2) (tPartP (tConP (.int 1))) (tNoPartP))) (gNameP 4) (tYesP) (tCallP (sp_trip_written K CLine) [] (tConsP (tVarP 4) (tNilP))) [4])) (tNilP))))) (tTryRX K [.ref (XC ("InvalidSeats" : Str)), .ref (XC ("InvalidTrips" : Str))] (XC ("InvalidText" : Str)) ("text" : Str) (tRetX (tNewLX 0 CLine (sp_Line_initX K CLine XC) [] (tConsP (tCallP (sp_number_written K CLine) [] (tConsP (tOpP rIxP (tVarP 2) (tConP (.int 0))) (tNilP))) (tConsP (tVarP 3) (tNilP))))) (tVarP 1))))
section
variable {K : PySem.W.Frag} {C : Addr} {XC : Str → Addr} {args : List PV} {P : PV → Prop} {Zw : WC}
theorem len_number_written (h : sp_number_written K C args P) : args.length = 1 := by obtain ⟨_, rfl, _⟩ := h; rfl
theorem len_trip_written (h : sp_trip_written K C args P) : args.length = 1 := by obtain ⟨_, rfl, _⟩ := h; rfl
theorem len_Line_read (h : sp_Line_read K C XC args P Zw) : args.length = 2 := by obtain ⟨_, rfl, _⟩ := h; rfl
end
theorem first_in {s : Nat} : ∀ {l : List Nat}, s ∈ l → ∃ a b, l = a ++ s :: b ∧ s ∉ a
 | c :: l, h => by
  by_cases e : c = s
  ·exact ⟨[], l, by rw [e]; rfl, List.not_mem_nil⟩
  ·obtain ⟨a, b, e1, e2⟩ := first_in (l := l) (by rcases List.mem_cons.mp h with z | z; exact absurd z.symm e; exact z)
   exact ⟨c :: a, b, by rw [e1]; rfl, fun z => by rcases List.mem_cons.mp z with z | z; exact e z.symm; exact e2 z⟩
theorem part_cases {y : Str} {s : Nat} (ey : TL.tl y = [s]) (w : Str) : (∃ a b : Str, w = a ++ y ++ b ∧ s ∉ TL.tl a ∧ Txt.partition w y = (a, y, b)) ∨ (s ∉ TL.tl w ∧ Txt.partition w y = (w, Str.empty, Str.empty)) := by
 by_cases h : s ∈ TL.tl w
 ·obtain ⟨a, b, e1, e2⟩ := first_in h
  have ea : w = (⟨a.toArray⟩ : Str) ++ y ++ ⟨b.toArray⟩ := TL.ext_tl (by rw [TL.tl_append, TL.tl_append, ey, e1]; simp [TL.tl])
  refine .inl ⟨⟨a.toArray⟩, ⟨b.toArray⟩, ea, e2, ?_⟩
  rw [ea]
  exact TL.partition_app ey e2
 ·exact .inr ⟨h, TL.partition_none ey h⟩
theorem part_len {y : Str} {s : Nat} (ey : TL.tl y = [s]) (w : Str) : (Txt.partition w y).1.length ≤ w.length ∧ (Txt.partition w y).2.2.length ≤ w.length := by
 rcases part_cases ey w with ⟨a, b, e1, _, e2⟩ | ⟨_, e2⟩
 ·rw [e2]
  have : w.length = a.length + y.length + b.length := by rw [TL.len_tl, e1, TL.tl_append, TL.tl_append, List.length_append, List.length_append, ← TL.len_tl, ← TL.len_tl, ← TL.len_tl]
  exact ⟨by show a.length ≤ _; omega, by show b.length ≤ _; omega⟩
 ·rw [e2]
  exact ⟨Nat.le_refl _, Nat.zero_le _⟩
theorem ey_colon : TL.tl (":" : Str) = [58] := by decide +kernel
theorem ey_dash : TL.tl ("-" : Str) = [45] := by decide +kernel
theorem ey_space : TL.tl (" " : Str) = [32] := by decide +kernel
theorem spl_one (s c : Nat) (acc r : List Nat) : TL.spl [s] 0 acc (c :: r) = if c = s then acc :: TL.spl [s] 0 [] r else TL.spl [s] 0 (acc ++ [c]) r := by
 by_cases e : c = s
 ·rw [if_pos e]
  exact TL.spl_hit (by unfold TL.pre; simp [e])
 ·rw [if_neg e]
  exact TL.spl_miss (by unfold TL.pre; simp [e])
theorem spl_len (s : Nat) : ∀ (l acc : List Nat), 1 ≤ (TL.spl [s] 0 acc l).length ∧ (TL.spl [s] 0 acc l).length ≤ l.length + 1
 | [], acc => by rw [TL.spl_nil]; exact ⟨Nat.le_refl _, Nat.le_refl _⟩
 | c :: l, acc => by
  rw [spl_one]
  split
  ·have := spl_len s l []
   rw [List.length_cons, List.length_cons]; omega
  ·have := spl_len s l (acc ++ [c])
   rw [List.length_cons]; omega
theorem words_tl (row : Str) : (wordsW row).map TL.tl = TL.spl [32] 0 [] (TL.tl row) := by
 have h := TL.split_spl row (" " : Str) (by rw [ey_space]; simp) (TL.kind_ok (by decide +kernel))
 rw [ey_space] at h
 exact h
theorem words_len (row : Str) : 1 ≤ (wordsW row).length ∧ (wordsW row).length ≤ row.length + 1 := by
 have h := congrArg List.length (words_tl row)
 rw [List.length_map] at h
 have := spl_len 32 (TL.tl row) []
 rw [TL.len_tl]
 omega
theorem digit_range {c : Nat} (h : c ∈ digS.cps.toList) : 48 ≤ c ∧ c ≤ 57 := by
 have e : digS.cps.toList = [48, 49, 50, 51, 52, 53, 54, 55, 56, 57] := by decide +kernel
 rw [e] at h
 simp only [List.mem_cons, List.not_mem_nil, or_false] at h
 omega
theorem digits_ok {w : Str} (h : digB w = true) : NumText.AllDigits w.cps.toList := fun c hc => digit_range (of_decide_eq_true (List.all_eq_true.mp h c hc))
theorem kn_opt {K : PySem.W.Frag} (o : Option Int) : Kn K (optI o) := by cases o <;> exact .inl rfl
section
variable {K : PySem.W.Frag} {C : Addr} {XC : Str → Addr} {args : List PV} {P : PV → Prop} {Zw : WC}
theorem q_eqS0 {a b : Str} {Q : PV → Prop} (h : Q (.bl (decide (a = b)))) : rEqI false (.str a) (.str b) Q := h
theorem q_intS {a : Str} {n : Int} {Q : PV → Prop} (h1 : PySem.intText? a = some n) (h2 : a.length ≤ 640) (h : Q (.int n)) : rIntS [.str a] Q := ⟨n, h1, h2, h⟩
theorem rd_number_written (h : sp_number_written K C args P) : ts_number_written K C { nx := fun _ => P .non, rt := fun x _ => P x } (startP 2 args) := by
 obtain ⟨w, rfl, hl, hp⟩ := h
 have e : startP 2 [.str w] = [.va (.str w), .no] := rfl
 rw [e]
 have sz : 1000 < sizeLine := by decide
 have wl : w.length = w.cps.toList.length := by simp [Str.length]
 refine w_seq (w_if (w_or (w_bl (w_op (w_var (x := .str w) rfl (w_con (q_eqS0 ?_)))))))
 by_cases c0 : w = ("" : Str)
 ·rw [decide_eq_true c0]
  have : numW w = none := by unfold numW; rw [if_pos (.inl (by rw [c0]; rfl))]
  rw [this] at hp
  exact q_iteT (w_ret (w_con hp))
 rw [decide_eq_false c0]
 have ne : w.cps.toList ≠ [] := fun z => c0 (TL.ext_tl z)
 refine q_iteF (w_not (w_bl (w_cb (w_cons (w_val (w_lc (show iStrP _ _ _ from w_var (x := .str w) rfl ?_)))))))
 show ∃ Inv : Nat → List PV → EP' → Prop, _
 refine ⟨fun i acc η => acc = (w.cps.toList.take i).map (fun c => .bl (decide (c ∈ digS.cps.toList))) ∧ η = [.va (.str w), .no], ⟨rfl, rfl⟩, ?_, ?_⟩
 ·rintro i y acc η hi ⟨rfl, rfl⟩
  rw [List.getElem?_map] at hi
  obtain ⟨c, hc, rfl⟩ := Option.map_eq_some_iff.mp hi
  refine w_gname (w_yes (q_iteT (w_op (w_var rfl (w_con (q_inS ⟨?_, ?_, rfl⟩))))))
  ·rw [List.length_map, List.length_take]; omega
  ·rw [take_map hc]; rfl
 rintro acc η ⟨rfl, rfl⟩
 rw [List.length_map, List.take_length]
 refine w_nil (q_all (blsOf_map _ _) ?_)
 have ea : (w.cps.toList.map fun c => decide (c ∈ digS.cps.toList)).all id = digB w := by unfold digB; rw [List.all_map]; rfl
 rw [ea]
 cases hd : digB w with
 | false =>
  have : numW w = none := by unfold numW; rw [if_pos (.inr hd)]
  rw [this] at hp
  exact q_iteT (w_ret (w_con hp))
 | true =>
  refine q_iteF (w_next ?_)
  dsimp only
  obtain ⟨c, l, ecl⟩ : ∃ c l, w.cps.toList = c :: l := by
   cases q : w.cps.toList with
   | nil => exact absurd q ne
   | cons c l => exact ⟨c, l, rfl⟩
  refine w_seq (w_if (w_and (w_bl (w_op (w_op (w_var (x := .str w) rfl (w_con (q_ixS (c := c) (by omega) (by rw [ecl]; exact atI_nat (xs := c :: l) (j := 0) rfl) (w_con (q_eqS0 ?_))))))))))
  have hp : P (optI (if w.cps.toList[0]? = some 48 ∧ 1 < w.length then none else some ((NumText.digitsVal w.cps.toList : Nat) : Int))) := by
   have e2 : numW w = if w.cps.toList[0]? = some 48 ∧ 1 < w.length then none else some ((NumText.digitsVal w.cps.toList : Nat) : Int) := by
    unfold numW
    rw [if_neg (by rintro (z | z); exact ne z; rw [hd] at z; cases z)]
   rw [← e2]; exact hp
  have h0 : w.cps.toList[0]? = some c := by rw [ecl]; rfl
  have last : ¬ (c = 48 ∧ 1 < w.length) → (tRetP (tCBP rIntS (tConsP (tVarP 0) tNilP))) { nx := fun _ => P .non, rt := fun x _ => P x } [.va (.str w), .no] := fun z => by
   rw [if_neg (by rw [h0]; rintro ⟨z1, z2⟩; exact z ⟨Option.some.inj z1, z2⟩)] at hp
   exact w_ret (w_cb (w_cons (w_var (x := .str w) rfl (w_nil (q_intS (intText_digits (digits_ok hd) ne (by omega)) hl hp)))))
  by_cases c1 : (⟨#[c]⟩ : Str) = ("0" : Str)
  ·rw [decide_eq_true c1]
   have c48 : c = 48 := by
    have := congrArg (fun z : Str => z.cps.toList) c1
    have e48 : ("0" : Str).cps.toList = [48] := by decide +kernel
    rw [e48] at this
    simpa using this
   refine q_iteT (w_bl (w_op (w_cb (w_cons (w_var (x := .str w) rfl (w_nil (q_lenS (by omega) (w_con (q_gt ?_)))))))))
   by_cases c2 : (1 : Int) < (w.length : Int)
   ·rw [decide_eq_true c2]
    rw [if_pos ⟨by rw [h0, c48], by omega⟩] at hp
    exact q_iteT (w_ret (w_con hp))
   ·rw [decide_eq_false c2]
    exact q_iteF (w_next (last fun z => c2 (by omega)))
  ·rw [decide_eq_false c1]
   exact q_iteF (q_iteF (w_next (last fun z => c1 (by rw [z.1]; decide +kernel))))
theorem rd_trip_written (h : sp_trip_written K C args P) : ts_trip_written K C { nx := fun _ => P .non, rt := fun x _ => P x } (startP 7 args) := by
 obtain ⟨w, rfl, hl, hp⟩ := h
 have e : startP 7 [.str w] = [.va (.str w), .no, .no, .no, .no, .no, .no] := rfl
 rw [e]
 have sz : 1000 < sizeLine := by decide
 have l1 := part_len ey_colon w
 have l2 := part_len ey_dash (Txt.partition w (":" : Str)).2.2
 refine w_seq (w_asg (show tPartiP _ _ _ _ from w_var (x := .str w) rfl ⟨⟨_, rfl⟩, w_con ⟨w, (":" : Str), rfl, rfl, by decide +kernel, by omega, ?_⟩⟩))
 refine ⟨rfl, w_g3 ?_⟩
 simp only [List.set_cons_zero, List.set_cons_succ]
 refine w_seq (w_asg (show tPartiP _ _ _ _ from w_var (x := .str (Txt.partition w (":" : Str)).2.2) rfl ⟨⟨_, rfl⟩, w_con ⟨_, ("-" : Str), rfl, rfl, by decide +kernel, by omega, ?_⟩⟩))
 refine ⟨rfl, w_g3 ?_⟩
 simp only [List.set_cons_zero, List.set_cons_succ]
 refine w_ret (w_tup (w_cons (w_var (x := .str (partN w)) rfl (w_cons (w_call (w_cons (w_var (x := .str (partS w)) rfl (w_nil ⟨partS w, rfl, by unfold partS; omega, ?_⟩))))))))
 exact w_cons (w_call (w_cons (w_var (x := .str (partE w)) rfl (w_nil ⟨partE w, rfl, by unfold partE; omega, w_nil ⟨by show 3 ≤ sizeLine; omega, hp⟩⟩))))
theorem knT_trip {K : PySem.W.Frag} {w : Str} (h : w.length ≤ 640) : KnT K (tripW w) := by
 refine ⟨.inl rfl, fun n s e z => ?_⟩
 have sz : 1000 < sizeLine := by decide
 have l1 := part_len ey_colon w
 unfold tripW at z
 cases z
 exact ⟨.inl rfl, kn_opt _, kn_opt _, fun z e => by cases e; unfold partN; omega⟩
end
theorem cut_one {α : Type} (xs : List α) : cutP xs (some 1) none = xs.drop 1 := by
 unfold cutP
 have e1 : HT.sIx xs.length 0 (some 1) = min 1 xs.length := by unfold HT.sIx; simp
 have e2 : HT.sIx xs.length xs.length none = xs.length := rfl
 rw [e1, e2]
 by_cases c : 1 ≤ xs.length
 ·rw [Nat.min_eq_left c, List.take_of_length_le (by rw [List.length_drop]; omega)]
 ·have : xs = [] := List.length_eq_zero_iff.mp (by omega)
  subst this; rfl
section
variable {K : PySem.W.Frag} {C : Addr} {XC : Str → Addr} {args : List PV} {P : PV → Prop} {Zw : WC} {D : EndsP} {Zx : WZ} {η : EP'}
theorem w_tryR {cs : List Value} {fld : Str} {tb : TSX} {te : TEp} (h : tb D (fun C1 fs η' => ∃ b, PySem.W.exmAny K (.ref C1) cs = some b ∧ (b = true → te η' fun y η1 => Zx C [(fld, y)] η1) ∧ (b = false → Zx C1 fs η')) η) : tTryRX K cs C fld tb te D Zx η := h
theorem w_retX1 {te : TXp} (h : te η D.rt Zx) : tRetX te D Zx η := h
theorem w_newL {i : Nat} {sr : SpRX} {dps : List PV} {t : TAp} {Q : PV → EP' → Prop} (e : η[i]? = some (.va (.raw (.ref C)))) (h : t η fun args η1 => sr (.o C []) (args ++ dps) (fun r o' => r = .non ∧ ∃ fs, o' = .o C fs ∧ Q (.ins C fs) η1) fun C' fs => Zx C' fs η1) : tNewLX i C sr dps t η Q Zx := ⟨e, h⟩
theorem rd_Line_read (h : sp_Line_read K C XC args P Zw) : ts_Line_read K C XC { nx := fun _ => P .non, rt := fun x _ => P x } (fun C fs _ => Zw C fs) (startP 5 args) := by
 obtain ⟨row, rfl, rf, hrl, hw, hok, hbad⟩ := h
 have e : startP 5 [.raw (.ref C), .str row] = [.va (.raw (.ref C)), .va (.str row), .no, .no, .no] := rfl
 rw [e]
 have sz : 200000 < sizeLine := by decide
 obtain ⟨wl1, wl2⟩ := words_len row
 refine w_seqX1 (w_ifX1 (w_not (w_bl (w_cb (w_cons (w_var (x := .str row) rfl (w_cons (w_con (w_nil (isi_str (.inl rfl) ?_))))))))))
 refine q_iteF (w_plX1 (w_next ?_))
 dsimp only
 refine w_seqX1 (w_plX1 (w_set (w_splitX (w_var (x := .str row) rfl ⟨⟨_, rfl⟩, w_con ⟨row, (" " : Str), rfl, rfl, by decide +kernel, by omega, ?_⟩⟩))))
 simp only [List.set_cons_zero, List.set_cons_succ]
 change tSeqX _ _ _ _ [.va (.raw (.ref C)), .va (.str row), .va (.lst ((wordsW row).map .str)), .no, .no]
 generalize wordsW row = ws at *
 refine w_seqX1 (w_plX1 (w_set (w_cb (w_cons (w_val (w_lc (w_lstP (w_slice (w_var (x := .lst (ws.map .str)) rfl (w_part (w_con (w_nop (q_slL ?_)))))))))))))
 rw [cut_one, ← List.map_drop]
 show ∃ Inv : Nat → List PV → EP' → Prop, _
 have ld : (ws.drop 1).length ≤ row.length := by rw [List.length_drop]; omega
 have hd : ∀ w ∈ ws.drop 1, w.length ≤ 640 := fun w hm => hw w (List.mem_of_mem_drop hm)
 refine ⟨fun i acc η => acc = ((ws.drop 1).take i).map tripW ∧ η = [.va (.raw (.ref C)), .va (.str row), .va (.lst (ws.map .str)), .no, .no], ⟨rfl, rfl⟩, ?_, ?_⟩
 ·rintro i y acc η hi ⟨rfl, rfl⟩
  have hi : ((ws.drop 1).map PV.str)[i]? = some y := hi
  rw [List.getElem?_map] at hi
  obtain ⟨w, hwi, rfl⟩ := Option.map_eq_some_iff.mp hi
  refine w_gname (w_yes (q_iteT (w_call (w_cons (w_var (x := .str w) rfl (w_nil ⟨w, rfl, hd w (List.mem_of_getElem? hwi), ?_, ?_, rfl⟩))))))
  ·rw [List.length_map, List.length_take]; omega
  ·rw [take_map hwi]
 rintro acc η ⟨rfl, rfl⟩
 have el : ((ws.drop 1).map PV.str).length = (ws.drop 1).length := List.length_map _
 rw [el, List.take_length]
 refine w_nil (q_tupl ?_)
 simp only [List.set_cons_zero, List.set_cons_succ]
 have a0 : atI (ws.map PV.str) (0 : Int) = some (.str (ws.getD 0 ("" : Str))) := by
  have := at_map (f := PV.str) (xs := ws) (j := 0) ("" : Str) (by decide) (by omega)
  rw [this]; rfl
 have w0 : (ws.getD 0 ("" : Str)).length ≤ 640 := by
  refine hw _ (List.mem_of_getElem? (i := 0) ?_)
  rw [List.getD_eq_getElem?_getD, List.getElem?_eq_getElem (by omega)]; rfl
 refine w_tryR (w_retX1 (w_newL rfl (w_cons (w_call (w_cons (w_op (w_var (x := .lst (ws.map .str)) rfl (w_con (q_ix a0 (w_nil ⟨_, rfl, w0, ?_⟩))))))))))
 refine w_cons (w_var (x := .tup ((ws.drop 1).map tripW)) rfl (w_nil ⟨_, _, rfl, rfl, kn_opt _, ⟨.inl rfl, fun xs z => ?_⟩, fun n rs hx hy n1 n2 hrw => ?_, fun hs => ?_, fun hs ht => ?_, fun xs hs hy hlt => ?_⟩))
 ·cases z
  exact ⟨by rw [List.length_map]; omega, fun x hx => by
   obtain ⟨w, hm, rfl⟩ := List.mem_map.mp hx
   exact knT_trip (hd w hm)⟩
 ·refine ⟨rfl, _, rfl, ?_⟩
  have hn : numW (ws.getD 0 ("" : Str)) = some n := by
   cases q : numW (ws.getD 0 ("" : Str)) with
   | none => rw [q] at hx; cases hx
   | some m => rw [q] at hx; cases hx; rfl
  have hy : (ws.drop 1).map tripW = rs.map rowP := PV.tup.inj (show PV.tup ((ws.drop 1).map tripW) = PV.tup (rs.map rowP) from hy)
  exact hok n rs hn hy n1 n2 hrw
 ·exact ⟨true, rf.e1, fun _ => w_var (x := .str row) rfl (hbad (.inl hs)), fun z => by cases z⟩
 ·cases ht
 ·cases hy
  exact ⟨true, rf.e2, fun _ => w_var (x := .str row) rfl (hbad (.inr (by rw [List.length_map] at hlt; exact hlt))), fun z => by cases z⟩
end
section
variable {X : Cx} {T : List (Addr × Str)} {k : Nat} {C g q : Addr} {mc : Value} {sp : SpX} {o e : Expr} {es : List Expr} {m : Str} {pos apos : Pos} {te ta : TEp} {t : TAp} {fd : FuncData} {ps ks : List Str} {kws : List Keyword} {E : XK} {pl : Sem Bool}
def tCMetK (C : Addr) (S : Sp) (E : XK) (ta : TE) (tk : TA) : TE := fun σ H Q => ta σ H fun x H1 => x = .ref C ∧ tk σ H1 fun zs H2 => S (.ref C :: zs) H2 Q E
theorem pe_cmetK {S : Sp} {ta : TE} {tk : TA} (he : PE X o ta) (r : ClX.CRead X.K C mc) (c : ClX.CMet X.K C mc m q g) (F : FnOk X.prog X.w X.K X.mg X.base (L2.CX X.prog X.w) k g fd ps S) (hr : Room k X.A) (hb : KBn X.K fd ps 1 ks (fun us ws => us ++ ws) (fun vs zs => vs ++ zs)) (hx : Passes (L2.CX X.prog X.w) X E) (hkw : PK X kws tk)
  (hpk : ps.length = 1 + ks.length) (hall : (backToKw pos (keywordEach kws X.env)).all (·.1.isSome) = true := by rfl) (hks : (backToKw pos (keywordEach kws X.env)).filterMap (·.1) = ks := by rfl)
  (hpl : ((backTo pos (starEach [] X.env)).any (·.1) || (backToKw pos (keywordEach kws X.env)).any (·.1.isNone)) = false := by rfl)
  (ht : eval (.Call (.Attribute o m apos) [] kws pos) X.env = (do
   let ov ← eval o X.env
   standAt apos.atName
   let (f, first) ← holding [ov] (getMethod ov m pl)
   callWith pos f first (backTo pos (starEach [] X.env)) (backToKw pos (keywordEach kws X.env))) := by rfl) :
  PE X (.Call (.Attribute o m apos) [] kws pos) (tCMetK C S E ta tk) := by
 constructor
 intro pins s σ H Q I h
 refine PySem.W.methodCall_KW (pl := pl) (thn (he.run pins s σ H _ I h) fun u s1 hq => ?_) ht
 obtain ⟨x, H1, I1, rx, ex, qq⟩ := hq
 subst ex
 obtain rfl : u = Value.ref C := rx
 refine ClX.getmethcm_ok I1 r c fun s2 I2 => ?_
 refine PySem.W.callWith_of hpl (PySem.W.keeps_M (self := .ref C) c.fi) (PyProof.Rows.evalArgs_kw2_nil hall (thn (hkw.run pos _ s2 σ H1 _ I2 qq) fun ws s3 hq3 => ?_))
 obtain ⟨zs, H2, I3, rz, q2⟩ := hq3
 refine ⟨⟨ClX.pin_at I3, I3.kIn⟩, ?_⟩
 rw [hks]
 have r2 : Vals (V.ref C :: zs) (Value.ref C :: ws) := .cons rfl rz
 have hl : ([Value.ref C] ++ ws).length = ps.length := by
  have e1 := r2.length
  rw [F.len _ _ _ _ q2] at e1
  exact e1.symm
 have z : wpAny (model X.prog X.w) X.A (call (.ref s1.heap.objs.size) [] (ks.zip ws)) (EP X ((s1.heap.objs.size, PySem.W.methodObj (.ref g) (.ref C)) :: pins) σ Q) X.xe s3 := by
  refine wpAny_call (PySem.W.method_call (ClX.pin_at I3) (codeAny_mono (F.run X.A X.stack s3 H2 ⟨[.ref C], ks.zip ws⟩ ([.ref C] ++ ws) (.ref C :: zs) Q E hr I3.env0 (hb.to s3 [.ref C] ws I3.kIn rfl (by rw [List.length_append, hpk] at hl; simpa using hl)) r2 q2) fun r s' hq => ?_))
  cases r with
  | error e => exact hx _ σ H2 s3 e s' I3 hq
  | ok fl =>
   cases fl with
   | ret u => exact I3.after hq
   | next => exact False.elim hq
   | brk => exact False.elim hq
   | cont => exact False.elim hq
 exact thn z fun _ _ y => ClX.unpinE y
theorem zx_cmetK (he : PE X o (up X.K T ta)) (r : ClX.CRead X.K C mc) (c : ClX.CMet X.K C mc m q g) (Fn : FnOk X.prog X.w X.K X.mg X.base (L2.CX X.prog X.w) k g fd ps (upSpX X.K T sp)) (hb : KBn X.K fd ps 1 ks (fun us ws => us ++ ws) (fun vs zs => vs ++ zs)) (tk : L2.Takes X (fun cls d _ H => E cls d H)) (hr : Room k X.A) (hkw : PK X kws (upA X.K T t))
  (hpk : ps.length = 1 + ks.length) (hall : (backToKw pos (keywordEach kws X.env)).all (·.1.isSome) = true := by rfl) (hks : (backToKw pos (keywordEach kws X.env)).filterMap (·.1) = ks := by rfl)
  (hpl : ((backTo pos (starEach [] X.env)).any (·.1) || (backToKw pos (keywordEach kws X.env)).any (·.1.isNone)) = false := by rfl)
  (ht : eval (.Call (.Attribute o m apos) [] kws pos) X.env = (do
   let ov ← eval o X.env
   standAt apos.atName
   let (f, first) ← holding [ov] (getMethod ov m pl)
   callWith pos f first (backTo pos (starEach [] X.env)) (backToKw pos (keywordEach kws X.env))) := by rfl) :
  PE X (.Call (.Attribute o m apos) [] kws pos) (upX X.K T (fun cls d _ H => E cls d H) (tCMetX C sp ta t)) := by
 refine PE.weak (pe_cmetK (E := E) he r c Fn hr hb (L2.passes_call tk fun _ _ _ _ h => h) hkw hpk hall hks hpl ht) fun σ H Q qq => ?_
 obtain ⟨F, η, P, Zw, R, h, k, kx⟩ := qq
 refine ⟨F, η, _, R, h, fun x η1 v H1 h1 e1 R1 r1 => ?_⟩
 obtain ⟨rfl, h1⟩ := h1
 refine ⟨r1.raw_, F, η1, _, R1, h1, fun args η2 vs H2 h2 e2 R2 r2 => ?_⟩
 have E2 := e1.trans e2
 refine ⟨Oof F σ η2, _, _, _, R2.trO, R2.tb, ?_, h2, fun z v H3 pz g tb rz => k z η2 v H3 pz (E2.trans g.ext) (R2.gr g tb) rz, fun C' fs d H3 z g tb xa => kx C' fs η2 d σ H3 z (E2.trans g.ext) (R2.gr g tb) xa⟩
 unfold Reps
 exact ⟨_, vs, rfl, by unfold Rep; rfl, r2⟩
def tIMetX (C : Addr) (m : Str) (sp : SpX) (ta : TEp) (t : TAp) : TXp := fun η P Zw => ta η fun x η1 => (∃ fs, x = .ins C fs ∧ fs.lookup m = none) ∧ t η1 fun args η2 => sp (.raw (.ref C) :: args) (fun z => P z η2) fun C' fs => Zw C' fs η2
theorem zx_imeth (he : PE X o (up X.K T ta)) (c : ClX.CInst X.K C m q g) (Fn : FnOk X.prog X.w X.K X.mg X.base (L2.CX X.prog X.w) k g fd ps (upSpX X.K T sp)) (hb : Binds X.K fd ps []) (tk : L2.Takes X (fun cls d _ H => E cls d H)) (hr : Room k X.A) (ha : PA X (e :: es) (upA X.K T t))
  (hst : starEach (e :: es) X.env = (false, eval e X.env) :: starEach es X.env := by rfl) (hpl : (backTo pos (starEach es X.env)).any (·.1) = false := by rfl)
  (ht : eval (.Call (.Attribute o m apos) (e :: es) [] pos) X.env = (do
   let ov ← eval o X.env
   standAt apos.atName
   let (f, first) ← holding [ov] (getMethod ov m pl)
   callWith pos f first (backTo pos (starEach (e :: es) X.env)) (backToKw pos (keywordEach [] X.env))) := by rfl) :
  PE X (.Call (.Attribute o m apos) (e :: es) [] pos) (upX X.K T (fun cls d _ H => E cls d H) (tIMetX C m sp ta t)) := by
 refine PE.weak (ClX.pe_imethD (E := E) he c (fnR_of Fn hb) hr (L2.passes_call tk fun _ _ _ _ h => h) ha hst hpl ht) fun σ H Q qq => ?_
 obtain ⟨F, η, P, Zw, R, h, k, kx⟩ := qq
 refine ⟨F, η, _, R, h, fun x η1 v H1 h1 e1 R1 r1 => ?_⟩
 obtain ⟨⟨fs, rfl, hm⟩, h1⟩ := h1
 obtain ⟨a, dx, ws, rfl, na, q, rr⟩ := r1.ins_
 refine ⟨a, dx, ws, rfl, q, (rr.look m).2 hm, F, η1, _, R1, h1, fun args η2 vs H2 h2 e2 R2 r2 => ?_⟩
 have E2 := e1.trans e2
 refine ⟨Oof F σ η2, _, _, _, R2.trO, R2.tb, ?_, h2, fun z v H3 pz g tb rz => k z η2 v H3 pz (E2.trans g.ext) (R2.gr g tb) rz, fun C' fs d H3 z g tb xa => kx C' fs η2 d σ H3 z (E2.trans g.ext) (R2.gr g tb) xa⟩
 unfold Reps
 exact ⟨_, vs, rfl, by unfold Rep; rfl, r2⟩
end
structure TxOk (row : Str) : Prop where
 l : row.length ≤ 60000
 w : ∀ w ∈ wordsW row, w.length ≤ 500
 a : ∀ c ∈ row.cps.toList, 10 ≤ c ∧ c < 127
def ReadL (row : Str) (n : Int) (rs : List Trip) : Prop := numW ((wordsW row).getD 0 ("" : Str)) = some n ∧ ((wordsW row).drop 1).map tripW = rs.map rowP ∧ 1 ≤ n ∧ n ≤ 20 ∧ Rw rs
def BadL (row : Str) : Prop := seatsB (optI (numW ((wordsW row).getD 0 ("" : Str)))) = false ∨ vNT (((wordsW row).drop 1).map tripW) < ((wordsW row).drop 1).length
structure TxF (K : PySem.W.Frag) (XC : Str → Addr) : Prop where
 rd : RdF K XC
 kd : KindF K XC (XC ("InvalidText" : Str)) 9
 xf : XfN K (XC ("InvalidText" : Str)) ("text" : Str)
 ex : PySem.W.exmAny K (.ref (XC ("InvalidText" : Str))) [.ref (XC ("SeatError" : Str)), .ref (XC ("StateError" : Str)), .ref (XC ("SizeError" : Str))] = some true
abbrev PrPX3 := PySem.W.Frag → Addr → (Str → Addr) → List PV → (PV → Prop) → Prop
abbrev PrRX3 := PySem.W.Frag → Addr → (Str → Addr) → Ow → List PV → (PV → Ow → Prop) → Prop
def NearB (rs : List Trip) : Prop := ∀ r ∈ rs, r.2.2 < 10 ^ 500
def sp_Line_strB : PrP := fun K C args P => ∃ n rs, args = [lineP C n rs] ∧ 1 ≤ n ∧ n ≤ 20 ∧ Rw rs ∧ NearB rs ∧ P (.str (textS n rs))
def sp_Line_reprB : PrP := fun K C args P => ∃ n rs, args = [lineP C n rs] ∧ 1 ≤ n ∧ n ≤ 20 ∧ Rw rs ∧ NearB rs ∧ P (.str (reprS n rs))
def sp_law_number : PrP := fun K _ args P => ∃ w, args = [.str w] ∧ w.length ≤ 640 ∧ P (.int ((numW w).getD (-1)))
def sp_law_text : PrP := fun K _ args P => ∃ n rs, args = [.int n, rowsP rs] ∧ 1 ≤ n ∧ n ≤ 20 ∧ Rw rs ∧ (∀ r ∈ rs, r.2.2 < 10 ^ 40) ∧ P (.str (textS n rs))
def sp_law_read : PrP := fun K _ args P => ∃ row, args = [.str row] ∧ TxOk row ∧ (∀ n rs, ReadL row n rs → P (.lst [.int n, rowsP rs])) ∧ (BadL row → P (.lst []))
def sp_law_text_right : PrPX3 := fun K C XC args P => ∃ row, args = [.str row] ∧ ClsT K C ∧ TxF K XC ∧ TxOk row ∧ P (.bl true)
def sp_law_bent : PrR := fun K _ o args P => ∃ n rs, Pool o ∧ args = [.str (textS n rs)] ∧ 1 ≤ n ∧ n ≤ 20 ∧ Rw rs ∧ (∀ r ∈ rs, r.2.2 < 10 ^ 40) ∧ ∀ row o', Pool o' → TxOk row → P (.str row) o'
def sp_law_right3 : PrRX3 := fun K C XC o args P => Pool o ∧ args = [] ∧ ClsT K C ∧ TxF K XC ∧ ∀ o', Pool o' → P (.bl true) o'
def sp_law3 : PrPX3 := fun K C XC args P => ∃ ns : List Int, args = [.scr ns] ∧ ns.length ≤ 63 ∧ ClsT K C ∧ TxF K XC ∧ P (.bl true)
def ts_Line_strB (K : PySem.W.Frag) (CLine : Addr) : TSp := tSeqP (tSetP 1 (tValP (tLcP (iTupP (tFldP CLine ("rows" : Str) (tVarP 0))) (gTupP 3 (gConsP (gNameP 2) (gConsP (gNameP 3) (gConsP (gNameP 4) (gNilP))))) (tYesP) (tJoinedP [tFmtP (tVarP 2), tConP (.str (":" : Str)), tFmtP (tVarP 3), tConP (.str ("-" : Str)), tFmtP (tVarP 4)]) [2, 3, 4]))) (tRetP (tJoinP (tConP (.str (" " : Str))) (tLstP (tConsP (tCBP rStr (tConsP (tFldP CLine ("seat_count" : Str) (tVarP 0)) (tNilP))) (tStarP (tVarP 1) (tNilP))))))
def ts_Line_reprB (K : PySem.W.Frag) (CLine : Addr) : TSp := tRetP (tJoinedP [tConP (.str ("Line('" : Str)), tFmtP (tStrOP CLine (sp_Line_strB K CLine) (tConsP (tVarP 0) (tNilP))), tConP (.str ("')" : Str))])
def ts_law_number (K : PySem.W.Frag) (CLine : Addr) : TSp := tSeqP (tSetP 1 (tValP (tLcP (iStrP (tVarP 0)) (gNameP 2) (tYesP) (tOpP (rInS false) (tVarP 2) (tConP (.str ("0123456789" : Str)))) [2]))) (tSeqP (tIfSP (tOrP (tBlP (tOpP (rEqP false) (tVarP 1) (tLstP (tNilP)))) (tOrP (tNotP (tBlP (tCBP rAllP (tConsP (tVarP 1) (tNilP))))) (tAndP (tBlP (tOpP (rEqI false) (tOpP rIxP (tVarP 0) (tConP (.int 0))) (tConP (.str ("0" : Str))))) (tBlP (tOpP (rEqI true) (tVarP 0) (tConP (.str ("0" : Str)))))))) (tRetP (tNegP (tConP (.int 1)))) (tNextP)) (tRetP (tCBP rIntS (tConsP (tVarP 0) (tNilP)))))
def ts_law_text (K : PySem.W.Frag) (CLine : Addr) : TSp := tSeqP (tSetP 2 (tValP (tLcP (iTupP (tVarP 1)) (gNameP 3) (tYesP) (tOpP rAdd (tOpP rAdd (tOpP rAdd (tOpP rAdd (tOpP rIxP (tVarP 3) (tConP (.int 0))) (tConP (.str (":" : Str)))) (tCBP rStr (tConsP (tOpP rIxP (tVarP 3) (tConP (.int 1))) (tNilP)))) (tConP (.str ("-" : Str)))) (tCBP rStr (tConsP (tOpP rIxP (tVarP 3) (tConP (.int 2))) (tNilP)))) [3]))) (tRetP (tJoinP (tConP (.str (" " : Str))) (tOpP rAdd (tLstP (tConsP (tCBP rStr (tConsP (tVarP 0) (tNilP))) (tNilP))) (tVarP 2))))
def ts_law_read (K : PySem.W.Frag) (CLine : Addr) : TSp := tSeqP (tSetP 1 (tSplitP (tVarP 0) (tConP (.str (" " : Str))))) (tSeqP (tParP [2, 3] (tConsV (tCallP (sp_law_number K CLine) [] (tConsP (tOpP rIxP (tVarP 1) (tConP (.int 0))) (tNilP))) (tConsF (tLstFP (tNilP)) (tNilAr)))) (tSeqP (tForP (iListP (tSliceP (tVarP 1) (tPartP (tConP (.int 1))) (tNoPartP))) (gNameP 4) (tSeqP (tAsgP (tPartiP (tVarP 4) (tConP (.str (":" : Str)))) (gTupP 3 (gConsP (gNameP 5) (gConsP (gNameP 6) (gConsP (gNameP 7) (gNilP)))))) (tSeqP (tAsgP (tPartiP (tVarP 7) (tConP (.str ("-" : Str)))) (gTupP 3 (gConsP (gNameP 8) (gConsP (gNameP 9) (gConsP (gNameP 10) (gNilP)))))) (tSeqP (tSetP 11 (tLstP (tConsP (tCallP (sp_law_number K CLine) [] (tConsP (tVarP 8) (tNilP))) (tConsP (tCallP (sp_law_number K CLine) [] (tConsP (tVarP 10) (tNilP))) (tNilP))))) (tSeqP (tSetP 12 (tValP (tLcP (iStrP (tVarP 5)) (gNameP 13) (tYesP) (tOpP (rInS false) (tVarP 13) (tConP (.str ("abcdefghijklmnopqrstuvwxyz" : Str)))) [13]))) (tSeqP (tIfSP (tOrP (tNotP (tBlP (tChainP rLt rLt (tConP (.int 0)) (tCBP rLen (tConsP (tVarP 12) (tNilP))) (tConP (.int 9))))) (tOrP (tNotP (tBlP (tCBP rAllP (tConsP (tVarP 12) (tNilP))))) (tNotP (tBlP (tChainP rLt rLt (tNegP (tConP (.int 1))) (tOpP rIxP (tVarP 11) (tConP (.int 0))) (tOpP rIxP (tVarP 11) (tConP (.int 1)))))))) (tRetP (tLstP (tNilP))) (tNextP)) (tSeqP (tIfSP (tOrP (tAndP (tBlP (tOpLP (rEqP true) 3 (tLstP (tNilP)))) (tBlP (tOpP rLe (tVarP 5) (tOpP rIxP (tIxOP 3 (tNegP (tConP (.int 1)))) (tConP (.int 0)))))) (tBlP (tOpP rGt (tCBBP rLen (tConsBb 3 tNilB)) (tConP (.int 23))))) (tRetP (tLstP (tNilP))) (tNextP)) (tAppP 3 (tTupP (tConsP (tVarP 5) (tConsP (tOpP rIxP (tVarP 11) (tConP (.int 0))) (tConsP (tOpP rIxP (tVarP 11) (tConP (.int 1))) (tNilP))))))))))))) (tRetP (tIfP (tBlP (tChainP rLt rLt (tConP (.int 0)) (tVarP 2) (tConP (.int 21)))) (tLstP (tConsP (tVarP 2) (tConsP (tCBP rTuple (tConsP (tVarP 3) (tNilP))) (tNilP)))) (tLstP (tNilP))))))
def ts_law_text_right (K : PySem.W.Frag) (CLine : Addr) (XC : Str → Addr) : TSp := tSeqP (tParP [1, 2] (tConsV (tCaughtP K [.ref (XC ("SeatError" : Str)), .ref (XC ("StateError" : Str)), .ref (XC ("SizeError" : Str))] ("returned" : Str) (tCMetX CLine (sp_Line_read K CLine XC) (tConP (.raw (.ref CLine))) (tConsP (tVarP 0) (tNilP))) (ts_law_caught K CLine XC)) (tConsV (tCallP (sp_law_read K CLine) [] (tConsP (tVarP 0) (tNilP))) (tNilAr)))) (tSeqP (tIfSP (tBlP (tOpP (rEqP false) (tVarP 2) (tLstP (tNilP)))) (tRetP (tOpP (rEqI false) (tCBP rRepr (tConsP (tVarP 1) (tNilP))) (tCBP rRepr (tConsP (tLstP (tConsP (tConP (.str ("text" : Str))) (tConsP (tVarP 0) (tNilP)))) (tNilP))))) (tNextP)) (tSeqP (tIfSP (tOrP (tBlP (tOpP (rEqI true) (tOpP rIxP (tVarP 1) (tConP (.int 0))) (tConP (.str ("returned" : Str))))) (tNotP (tBlP (tCBP (rIsI K) (tConsP (tOpP rIxP (tVarP 1) (tConP (.int 1))) (tConsP (tConP (.raw (.ref CLine))) (tNilP))))))) (tRetP (tConP (.bl false))) (tNextP)) (tRetP (tAndVP (tOpP (rEqI false) (tCBP rRepr (tConsP (tLstP (tConsP (tPropP CLine (sp_Line_capacity K CLine) (tOpP rIxP (tVarP 1) (tConP (.int 1)))) (tConsP (tPropP CLine (sp_Line_trips K CLine) (tOpP rIxP (tVarP 1) (tConP (.int 1)))) (tNilP)))) (tNilP))) (tCBP rRepr (tConsP (tVarP 2) (tNilP)))) (tOpP (rEqI false) (tStrOP CLine (sp_Line_strB K CLine) (tConsP (tOpP rIxP (tVarP 1) (tConP (.int 1))) (tNilP))) (tVarP 0))))))
def ts_law_bent (K : PySem.W.Frag) (CLine : Addr) : TSp := tSeqP (tParP [2, 3] (tConsV (tCallRP 0 (sp_law_draw K CLine) (tConsP (tOpP rAdd (tCBP rLen (tConsP (tVarP 1) (tNilP))) (tConP (.int 1))) (tNilP))) (tConsV (tCallRP 0 (sp_law_draw K CLine) (tConsP (tConP (.int 8)) (tNilP))) (tNilAr)))) (tSeqP (tSetP 4 (tOpP rIxP (tConP (.str (" :-0123456789abzAZ,.+\n" : Str))) (tCallRP 0 (sp_law_draw K CLine) (tConsP (tConP (.int 22)) (tNilP))))) (tSeqP (tSetP 5 (tLstP (tConsP (tOpP rAdd (tOpP rAdd (tSliceP (tVarP 1) (tNoPartP) (tPartP (tVarP 2))) (tVarP 4)) (tSliceP (tVarP 1) (tPartP (tVarP 2)) (tNoPartP))) (tConsP (tOpP rAdd (tOpP rAdd (tSliceP (tVarP 1) (tNoPartP) (tPartP (tVarP 2))) (tVarP 4)) (tSliceP (tVarP 1) (tPartP (tOpP rAdd (tVarP 2) (tConP (.int 1)))) (tNoPartP))) (tConsP (tOpP rAdd (tSliceP (tVarP 1) (tNoPartP) (tPartP (tVarP 2))) (tSliceP (tVarP 1) (tPartP (tOpP rAdd (tVarP 2) (tConP (.int 1)))) (tNoPartP))) (tConsP (tOpP rAdd (tOpP rAdd (tVarP 1) (tConP (.str (" " : Str)))) (tVarP 1)) (tNilP))))))) (tRetP (tOpP rIxP (tOpP rAdd (tVarP 5) (tLstP (tConsP (tJoinP (tConP (.str (" " : Str))) (tRevLP (tSplitP (tVarP 1) (tConP (.str (" " : Str)))))) (tConsP (tOpP rAdd (tConP (.str ("0" : Str))) (tVarP 1)) (tConsP (tSliceP (tVarP 1) (tPartP (tConP (.int 1))) (tNoPartP)) (tConsP (tOpP rAdd (tVarP 1) (tConP (.str ("\n" : Str)))) (tNilP))))))) (tVarP 3)))))
def ts_law_right3 (K : PySem.W.Frag) (CLine : Addr) (XC : Str → Addr) : TSp := tSeqP (tForP (iRng1P (tConP (.int 3))) (gNameP 1) (tSeqP (tParP [2, 3] (tConsV (tOpP rAdd (tConP (.int 1)) (tCallRP 0 (sp_law_draw K CLine) (tConsP (tConP (.int 20)) (tNilP)))) (tConsV (tCallRP 0 (sp_law_words K CLine) (tConsP (tCallRP 0 (sp_law_draw K CLine) (tConsP (tConP (.int 25)) (tNilP))) (tNilP))) (tNilAr)))) (tSeqP (tSetP 4 (tCallRP 0 (sp_law_rides K CLine) (tConsP (tVarP 3) (tConsP (tConP (.int 30)) (tNilP))))) (tSeqP (tAsgP (tTupP (tConsP (tNoX (tNewX CLine (sp_Line_initX K CLine XC) [] (tConsP (tVarP 2) (tConsP (tVarP 4) (tNilP))))) (tConsP (tCallP (sp_law_text K CLine) [] (tConsP (tVarP 2) (tConsP (tVarP 4) (tNilP)))) (tNilP)))) (gTupP 2 (gConsP (gNameP 5) (gConsP (gNameP 6) (gNilP))))) (tSeqP (tIfSP (tOrP (tBlP (tOpP (rEqI true) (tStrOP CLine (sp_Line_strB K CLine) (tConsP (tVarP 5) (tNilP))) (tVarP 6))) (tBlP (tOpP (rEqI true) (tStrOP CLine (sp_Line_reprB K CLine) (tConsP (tVarP 5) (tNilP))) (tOpP rAdd (tOpP rAdd (tConP (.str ("Line('" : Str))) (tVarP 6)) (tConP (.str ("')" : Str))))))) (tRetP (tConP (.bl false))) (tNextP)) (tSeqP (tForP (iListP (tLstP (tConsP (tNoX (tCMetX CLine (sp_Line_read K CLine XC) (tConP (.raw (.ref CLine))) (tConsP (tVarP 6) (tNilP)))) (tConsP (tNoX (tCMetX CLine (sp_Line_read K CLine XC) (tConP (.raw (.ref CLine))) (tConsP (tVarP 6) (tNilP)))) (tConsP (tNoX (tIMetX CLine ("read" : Str) (sp_Line_read K CLine XC) (tVarP 5) (tConsP (tVarP 6) (tNilP)))) (tNilP)))))) (gNameP 7) (tIfSP (tOrP (tNotP (tBlP (tCBP (rIsI K) (tConsP (tVarP 7) (tConsP (tConP (.raw (.ref CLine))) (tNilP)))))) (tOrP (tBlP (tEqOP K CLine (sp_Line_eq K CLine) true (tVarP 7) (tVarP 5))) (tBlP (tOpP (rEqI true) (tCBP rRepr (tConsP (tPropP CLine (sp_Line_trips K CLine) (tVarP 7)) (tNilP))) (tCBP rRepr (tConsP (tVarP 4) (tNilP))))))) (tRetP (tConP (.bl false))) (tNextP))) (tIfSP (tNotP (tBlP (tCBP rAllP (tConsP (tValP (tLcP (iRng1P (tConP (.int 8))) (gNameP 8) (tYesP) (tCallP (sp_law_text_right K CLine XC) [] (tConsP (tCallRP 0 (sp_law_bent K CLine) (tConsP (tVarP 6) (tNilP))) (tNilP))) [8])) (tNilP))))) (tRetP (tConP (.bl false))) (tNextP)))))))) (tRetP (tConP (.bl true)))
def ts_law3 (K : PySem.W.Frag) (CLine : Addr) (XC : Str → Addr) : TSp := tSeqP (tSetP 1 (tLstP (tConsP (tConP (.str ("" : Str))) (tConsP (tConP (.str (" " : Str))) (tConsP (tConP (.str ("0" : Str))) (tConsP (tConP (.str ("1" : Str))) (tConsP (tConP (.str ("20" : Str))) (tConsP (tConP (.str ("21" : Str))) (tConsP (tConP (.str ("01" : Str))) (tConsP (tConP (.str ("1 " : Str))) (tConsP (tConP (.str (" 1" : Str))) (tConsP (tConP (.str ("1 a:0-1" : Str))) (tConsP (tConP (.str ("1 a:1-1" : Str))) (tConsP (tConP (.str ("1 a:2-1" : Str))) (tConsP (tConP (.str ("1 a:0-01" : Str))) (tConsP (tConP (.str ("1 a:-0-1" : Str))) (tNilP))))))))))))))))) (tSeqP (tSetP 1 (tOpP rAdd (tVarP 1) (tLstP (tConsP (tConP (.str ("1 a:0-1 a:1-2" : Str))) (tConsP (tConP (.str ("1 b:0-1 a:1-2" : Str))) (tConsP (tConP (.str ("1 a:0-1  b:1-2" : Str))) (tConsP (tConP (.str ("1 A:0-1" : Str))) (tConsP (tConP (.str ("1 a:0" : Str))) (tConsP (tConP (.str ("1 a0-1" : Str))) (tConsP (tConP (.str ("1 :0-1" : Str))) (tConsP (tConP (.str ("a:0-1" : Str))) (tNilP)))))))))))) (tSeqP (tSetP 1 (tOpP rAdd (tVarP 1) (tLstP (tConsP (tConP (.str ("1 a:0-1-2" : Str))) (tConsP (tConP (.str ("1 a:b:0-1" : Str))) (tConsP (tConP (.str ("1 abcdefghi:0-1" : Str))) (tConsP (tOpP rAdd (tConP (.str ("1 a:0-" : Str))) (tOpP rMulA (tConP (.str ("9" : Str))) (tConP (.int 60)))) (tConsP (tConP (.str ("1 a:+0-1" : Str))) (tConsP (tConP (.str ("x a:0-1" : Str))) (tConsP (tConP (.str ("-1" : Str))) (tConsP (tConP (.str ("1\n" : Str))) (tNilP)))))))))))) (tSeqP (tSetP 2 (tJoinP (tConP (.str (" " : Str))) (tValP (tLcP (iStrP (tConP (.str ("abcdefghijklmnopqrstuvwxy" : Str)))) (gNameP 3) (tYesP) (tOpP rAdd (tVarP 3) (tConP (.str (":0-1" : Str)))) [3])))) (tSeqP (tIfSP (tNotP (tBlP (tCBP rAllP (tConsP (tValP (tLcP (iListP (tOpP rAdd (tVarP 1) (tLstP (tConsP (tOpP rAdd (tConP (.str ("3 " : Str))) (tVarP 2)) (tConsP (tOpP rAdd (tConP (.str ("3 " : Str))) (tSliceP (tVarP 2) (tNoPartP) (tPartP (tNegP (tConP (.int 6)))))) (tNilP)))))) (gNameP 4) (tYesP) (tCallP (sp_law_text_right K CLine XC) [] (tConsP (tVarP 4) (tNilP))) [4])) (tNilP))))) (tRetP (tConP (.bl false))) (tNextP)) (tRetP (tCBP rAllP (tConsP (tValP (tLcP (iRng1P (tCBP rMax2 (tConsP (tConP (.int 2)) (tConsP (tCBP rMin2 (tConsP (tCBP rLen (tConsP (tVarP 0) (tNilP))) (tConsP (tConP (.int 6)) (tNilP)))) (tNilP))))) (gNameP 5) (tYesP) (tCallRFP (tCallFP (sp_law_pool K CLine) (tConsP (tCallP (sp_law_cell K CLine) [] (tConsP (tVarP 0) (tConsP (tVarP 5) (tNilP)))) (tNilP))) (sp_law_right3 K CLine XC) (tNilP)) [5])) (tNilP))))))))
section
variable {K : PySem.W.Frag} {C : Addr} {XC : Str → Addr} {args : List PV} {P : PV → Prop} {PR : PV → Ow → Prop} {o : Ow}
theorem len_Line_strB (h : sp_Line_strB K C args P) : args.length = 1 := by obtain ⟨_, _, rfl, _⟩ := h; rfl
theorem len_Line_reprB (h : sp_Line_reprB K C args P) : args.length = 1 := by obtain ⟨_, _, rfl, _⟩ := h; rfl
theorem len_law_number (h : sp_law_number K C args P) : args.length = 1 := by obtain ⟨_, rfl, _⟩ := h; rfl
theorem len_law_text (h : sp_law_text K C args P) : args.length = 2 := by obtain ⟨_, _, rfl, _⟩ := h; rfl
theorem len_law_read (h : sp_law_read K C args P) : args.length = 1 := by obtain ⟨_, rfl, _⟩ := h; rfl
theorem len_law_text_right (h : sp_law_text_right K C XC args P) : args.length = 1 := by obtain ⟨_, rfl, _⟩ := h; rfl
theorem len_law_bent (h : sp_law_bent K C o args PR) : args.length = 1 := by obtain ⟨_, _, _, rfl, _⟩ := h; rfl
theorem len_law_right3 (h : sp_law_right3 K C XC o args PR) : args.length = 0 := by obtain ⟨_, rfl, _⟩ := h; rfl
theorem len_law3 (h : sp_law3 K C XC args P) : args.length = 1 := by obtain ⟨_, rfl, _⟩ := h; rfl
end
theorem int_shortB {i : Int} (h0 : 0 ≤ i) (h : i < 10 ^ 500) : ((toString i : String) : Str).length ≤ 501 := by
 have e := int_text_length_le10 (a := i) (k := 500) (by decide) (by
  obtain ⟨n, rfl⟩ := Int.eq_ofNat_of_zero_le h0
  have : n < 10 ^ 500 := by omega
  exact this)
 rw [PySem.ofString_length]
 exact e
theorem log_ofB {i : Int} (h0 : 0 ≤ i) (h : i < 10 ^ 500) : i.natAbs.log2 < 1920 := by
 obtain ⟨n, rfl⟩ := Int.eq_ofNat_of_zero_le h0
 show n.log2 < 1920
 by_cases z : n = 0
 ·rw [z]; decide
 ·refine (Nat.log2_lt z).mpr ?_
  have h1 : n < 10 ^ 500 := by omega
  exact Nat.lt_trans h1 (by decide +kernel)
structure ShortB (r : Trip) : Prop where
 l : r.1.length ≤ 8
 s0 : 0 ≤ r.2.1
 e0 : 0 ≤ r.2.2
 s : r.2.1 < 10 ^ 500
 e : r.2.2 < 10 ^ 500
theorem rw_shortB {rs : List Trip} (h : Rw rs) (hn : NearB rs) : ∀ r ∈ rs, ShortB r := fun r hr => by
 obtain ⟨h1, h2, h3⟩ := h.each r hr
 have h4 := hn r hr
 have e : (decide (1 ≤ r.1.length) && (decide (r.1.length ≤ 8) && r.1.cps.toList.all fun c => decide (c ∈ abc.cps.toList))) = true := h1
 exact ⟨of_decide_eq_true (Bool.and_eq_true_iff.mp (Bool.and_eq_true_iff.mp e).2).1, h2, by omega, by omega, h4⟩
theorem rowS_lenB {r : Trip} (h : ShortB r) : (rowS r).length ≤ 1012 := by
 have b1 := int_shortB h.s0 h.s
 have b2 := int_shortB h.e0 h.e
 have l := h.l
 have c1 : ((":" : String) : Str).length = 1 := rfl
 have c2 : (("-" : String) : Str).length = 1 := rfl
 have c0 : (Str.empty).length = 0 := rfl
 unfold rowS
 rw [len_app, len_app, len_app, len_app, len_app]
 omega
theorem textS_lenB {n : Int} {rs : List Trip} (h1 : 1 ≤ n) (h2 : n ≤ 20) (hs : ∀ r ∈ rs, ShortB r) (hl : rs.length ≤ 24) : (textS n rs).length ≤ 30000 := by
 have b0 := int_short (i := n) (by omega) (by have : (20 : Int) < 10 ^ 60 := by decide
                                              omega)
 unfold textS
 rw [TL.join_eq]
 have := joined_len (m := 1012) (k := 1) (sep := ((" " : String) : Str)) rfl (l := ((toString n : String) : Str) :: rs.map rowS) fun y hy => by
  rcases List.mem_cons.mp hy with rfl | hy
  ·omega
  ·obtain ⟨r, hr, rfl⟩ := List.mem_map.mp hy
   exact rowS_lenB (hs r hr)
 rw [List.length_cons, List.length_map] at this
 omega
section
variable {K : PySem.W.Frag} {C : Addr} {XC : Str → Addr} {args : List PV} {P : PV → Prop} {PR : PV → Ow → Prop} {o : Ow}
theorem rd_Line_strB (h : sp_Line_strB K C args P) : ts_Line_strB K C { nx := fun _ => P .non, rt := fun x _ => P x } (startP 5 args) := by
 obtain ⟨n, rs, rfl, h1, h2, hw, hn, hp⟩ := h
 have e : startP 5 [lineP C n rs] = [.va (lineP C n rs), .no, .no, .no, .no] := rfl
 rw [e]
 have hs := rw_shortB hw hn
 have hl := hw.len
 have sz : 16777216 ≤ sizeLine := by decide
 refine w_seq (w_set (w_val (w_lc (w_itup (w_fld (w_var rfl ⟨rfl, _, rfl, ?_⟩))))))
 refine ⟨fun i acc η => acc = ((rs.take i).map rowS).map .str ∧ η = [.va (lineP C n rs), .no, .no, .no, .no], ⟨rfl, rfl⟩, ?_, ?_⟩
 ·rintro i x acc η hi ⟨rfl, rfl⟩
  rw [List.getElem?_map] at hi
  obtain ⟨r, hr, rfl⟩ := Option.map_eq_some_iff.mp hi
  have hsr := hs r (List.mem_of_getElem? hr)
  have b1 := int_shortB hsr.s0 hsr.s
  have b2 := int_shortB hsr.e0 hsr.e
  have l := hsr.l
  have c1 : ((":" : String) : Str).length = 1 := rfl
  have c2 : (("-" : String) : Str).length = 1 := rfl
  have c0 : (Str.empty).length = 0 := rfl
  refine ⟨rfl, w_g3 (w_yes (q_iteT ?_))⟩
  refine w_js (w_js1 (w_fmt (w_var (x := .str r.1) rfl ⟨by omega, _, rfl, by rw [len_app]; omega, ?_⟩)))
  refine w_js1 (w_con ⟨_, rfl, by rw [len_app, len_app]; omega, ?_⟩)
  refine w_js1 (w_fmt (w_var (x := .int r.2.1) rfl ⟨log_ofB hsr.s0 hsr.s, _, rfl, by rw [len_app, len_app, len_app]; omega, ?_⟩))
  refine w_js1 (w_con ⟨_, rfl, by rw [len_app, len_app, len_app, len_app]; omega, ?_⟩)
  refine w_js1 (w_fmt (w_var (x := .int r.2.2) rfl ⟨log_ofB hsr.e0 hsr.e, _, rfl, by rw [len_app, len_app, len_app, len_app, len_app]; omega, ?_⟩))
  refine w_js0 ⟨by rw [List.length_map, List.length_map, List.length_take]; omega, ?_, rfl⟩
  rw [take_map hr, List.map_append]
  rfl
 ·rintro acc η ⟨rfl, rfl⟩
  rw [List.length_map, List.take_length]
  simp only [List.set_cons_zero, List.set_cons_succ]
  have h20 : (20 : Int) < 10 ^ 60 := by decide
  have b0 := int_short (i := n) (by omega) (by omega)
  refine w_ret (w_join (w_con ⟨⟨_, rfl⟩, ?_⟩))
  refine w_lst (w_cons (w_cb (w_cons (w_fld (w_var rfl ⟨rfl, _, rfl, w_nil ⟨log_of60 (by omega) (by omega), ?_⟩⟩)))))
  refine w_star (w_var rfl (w_nil ⟨by rw [List.length_cons, List.length_append, List.length_map, List.length_map, List.length_nil]; omega, ?_⟩))
  refine ⟨((toString n : String) : Str) :: rs.map rowS, ?_, ?_, hp⟩
  ·rw [List.append_nil, strsOf, strsOf_mapS]; rfl
  ·have hsum := sum_le (ys := rs.map rowS) fun y hy => by
    obtain ⟨r, hr, rfl⟩ := List.mem_map.mp hy
    have := rowS_lenB (hs r hr)
    omega
   rw [List.length_map] at hsum
   rw [List.map_cons, List.sum_cons, List.length_cons, List.length_map, show ((" " : String) : Str).length = 1 from rfl]
   omega
theorem rd_Line_reprB (h : sp_Line_reprB K C args P) : ts_Line_reprB K C { nx := fun _ => P .non, rt := fun x _ => P x } (startP 1 args) := by
 obtain ⟨n, rs, rfl, h1, h2, hw, hn, hp⟩ := h
 have e : startP 1 [lineP C n rs] = [.va (lineP C n rs)] := rfl
 rw [e]
 have hs := rw_shortB hw hn
 have tl := textS_lenB (n := n) (by omega) h2 hs hw.len
 have sz : 16777216 ≤ sizeLine := by decide
 have c1 : (("Line('" : String) : Str).length = 6 := rfl
 have c2 : (("')" : String) : Str).length = 2 := rfl
 have c0 : (Str.empty).length = 0 := rfl
 refine w_ret (w_js (w_js1 (w_con ⟨_, rfl, by rw [len_app]; omega, ?_⟩)))
 refine w_js1 (w_fmt (w_strO (w_cons (w_var rfl (w_nil ⟨_, rfl, n, rs, rfl, h1, h2, hw, hn, ⟨_, rfl⟩, ?_⟩)))))
 refine ⟨by omega, _, rfl, by rw [len_app, len_app]; omega, ?_⟩
 refine w_js1 (w_con ⟨_, rfl, by rw [len_app, len_app, len_app]; omega, ?_⟩)
 exact w_js0 hp
theorem q_eqNilB {bs : List Bool} {Q : PV → Prop} (h : Q (.bl (decide (bs = [])))) : rEqP false (.lst (bs.map .bl)) (.lst []) Q := by
 refine ⟨_, .list [], toD_bls bs, rfl, shaped_bls bs, rfl, ?_⟩
 have e : PyData.eqv (.list (bs.map .bool)) (.list []) = decide (bs = []) := by
  cases bs with
  | nil => rfl
  | cons b bs => rw [List.map_cons, PyData.eqv]; simp [PyData.eqvAll]
 rw [e]
 simpa using h
theorem q_neS0 {a b : Str} {Q : PV → Prop} (h : Q (.bl (!decide (a = b)))) : rEqI true (.str a) (.str b) Q := h
theorem rd_law_number (h : sp_law_number K C args P) : ts_law_number K C { nx := fun _ => P .non, rt := fun x _ => P x } (startP 3 args) := by
 obtain ⟨w, rfl, hl, hp⟩ := h
 have e : startP 3 [.str w] = [.va (.str w), .no, .no] := rfl
 rw [e]
 have sz : 1000 < sizeLine := by decide
 have wl : w.length = w.cps.toList.length := by simp [Str.length]
 refine w_seq (w_set (w_val (w_lc (show iStrP _ _ _ from w_var (x := .str w) rfl ?_))))
 show ∃ Inv : Nat → List PV → EP' → Prop, _
 refine ⟨fun i acc η => acc = ((w.cps.toList.take i).map fun c => decide (c ∈ digS.cps.toList)).map .bl ∧ η = [.va (.str w), .no, .no], ⟨rfl, rfl⟩, ?_, ?_⟩
 ·rintro i y acc η hi ⟨rfl, rfl⟩
  rw [List.getElem?_map] at hi
  obtain ⟨c, hc, rfl⟩ := Option.map_eq_some_iff.mp hi
  refine w_gname (w_yes (q_iteT (w_op (w_var rfl (w_con (q_inS ⟨?_, ?_, rfl⟩))))))
  ·rw [List.length_map, List.length_map, List.length_take]; omega
  ·rw [take_map hc, List.map_append]; rfl
 rintro acc η ⟨rfl, rfl⟩
 rw [List.length_map, List.take_length]
 simp only [List.set_cons_zero, List.set_cons_succ]
 obtain ⟨bs, hbs⟩ : ∃ bs, bs = w.cps.toList.map fun c => decide (c ∈ digS.cps.toList) := ⟨_, rfl⟩
 rw [← hbs]
 have ba : bs.all id = digB w := by rw [hbs]; unfold digB; rw [List.all_map]; rfl
 refine w_seq (w_if (w_or (w_bl (w_op (w_var (x := .lst (bs.map .bl)) rfl (w_lst (w_nil ⟨by show 0 ≤ sizeLine; omega, q_eqNilB ?_⟩)))))))
 by_cases c0 : bs = []
 ·rw [decide_eq_true c0]
  have : numW w = none := by
   unfold numW
   rw [if_pos (.inl (by rw [hbs] at c0; exact List.map_eq_nil_iff.mp c0))]
  rw [this] at hp
  exact q_iteT (w_ret (w_neg' (w_con hp)))
 rw [decide_eq_false c0]
 have ne : w.cps.toList ≠ [] := fun z => c0 (by rw [hbs, z]; rfl)
 refine q_iteF (w_or (w_not (w_bl (w_cb (w_cons (w_var (x := .lst (bs.map .bl)) rfl (w_nil (q_all (by rw [show ∀ l : List Bool, blsOf (l.map .bl) = some l from fun l => by simpa using blsOf_map (fun b => b) l]) ?_))))))))
 rw [ba]
 cases hd : digB w with
 | false =>
  have : numW w = none := by unfold numW; rw [if_pos (.inr hd)]
  rw [this] at hp
  exact q_iteT (w_ret (w_neg' (w_con hp)))
 | true =>
  obtain ⟨c, l, ecl⟩ : ∃ c l, w.cps.toList = c :: l := by
   cases q : w.cps.toList with
   | nil => exact absurd q ne
   | cons c l => exact ⟨c, l, rfl⟩
  have h0 : w.cps.toList[0]? = some c := by rw [ecl]; rfl
  refine q_iteF (w_and (w_bl (w_op (w_op (w_var (x := .str w) rfl (w_con (q_ixS (c := c) (by omega) (by rw [ecl]; exact atI_nat (xs := c :: l) (j := 0) rfl) (w_con (q_eqS0 ?_)))))))))
  have hp : P (.int ((if w.cps.toList[0]? = some 48 ∧ 1 < w.length then none else some ((NumText.digitsVal w.cps.toList : Nat) : Int)).getD (-1))) := by
   have e2 : numW w = if w.cps.toList[0]? = some 48 ∧ 1 < w.length then none else some ((NumText.digitsVal w.cps.toList : Nat) : Int) := by
    unfold numW
    rw [if_neg (by rintro (z | z); exact ne z; rw [hd] at z; cases z)]
   rw [← e2]; exact hp
  have last : ¬ (c = 48 ∧ 1 < w.length) → (tRetP (tCBP rIntS (tConsP (tVarP 0) tNilP))) { nx := fun _ => P .non, rt := fun x _ => P x } [.va (.str w), .va (.lst (bs.map .bl)), .no] := fun z => by
   rw [if_neg (by rw [h0]; rintro ⟨z1, z2⟩; exact z ⟨Option.some.inj z1, z2⟩)] at hp
   exact w_ret (w_cb (w_cons (w_var (x := .str w) rfl (w_nil (q_intS (intText_digits (digits_ok hd) ne (by omega)) hl hp)))))
  have e48 : ("0" : Str).cps.toList = [48] := by decide +kernel
  by_cases c1 : (⟨#[c]⟩ : Str) = ("0" : Str)
  ·rw [decide_eq_true c1]
   have c48 : c = 48 := by
    have := congrArg (fun z : Str => z.cps.toList) c1
    rw [e48] at this
    simpa using this
   refine q_iteT (w_bl (w_op (w_var (x := .str w) rfl (w_con (q_neS0 ?_)))))
   by_cases c2 : w = ("0" : Str)
   ·rw [decide_eq_true c2]
    refine q_iteF (w_next (last fun z => ?_))
    rw [wl, c2, e48] at z
    exact absurd z.2 (by decide)
   ·rw [decide_eq_false c2]
    have l1 : 1 < w.length := by
     rw [wl, ecl, List.length_cons]
     cases l with
     | nil => exact absurd (TL.ext_tl (by show w.cps.toList = ("0" : Str).cps.toList; rw [ecl, e48, c48])) c2
     | cons x l => rw [List.length_cons]; omega
    rw [if_pos ⟨by rw [h0, c48], l1⟩] at hp
    exact q_iteT (w_ret (w_neg' (w_con hp)))
  ·rw [decide_eq_false c1]
   exact q_iteF (q_iteF (w_next (last fun z => c1 (by rw [z.1]; decide +kernel))))
end
theorem empty_app (x : Str) : Str.empty ++ x = x := TL.ext_tl (by rw [TL.tl_append]; rfl)
theorem rowS_eq (r : Trip) : r.1 ++ (":" : Str) ++ ((toString r.2.1 : String) : Str) ++ ("-" : Str) ++ ((toString r.2.2 : String) : Str) = rowS r := by
 unfold rowS
 rw [empty_app]
theorem near_B {rs : List Trip} (h : ∀ r ∈ rs, r.2.2 < 10 ^ 40) : NearB rs := fun r hr => Int.lt_trans (h r hr) (by decide +kernel)
theorem q_strI {i : Int} {Q : PV → Prop} (h1 : i.natAbs.log2 < 1920) (h : Q (.str (toString i))) : rStr [.int i] Q := ⟨h1, h⟩
def ixMX (i : Nat) (y : PV) (η : EP') (Q : PV → EP' → Prop) : Prop := match η[i]? with
 | some (.ow (.l xs)) => ∃ kk v, y = .int kk ∧ atI xs kk = some v ∧ Q v η
 | _ => False
theorem w_ixOX {i : Nat} {ti : TEp} {η : EP'} {Q : PV → EP' → Prop} {o : Ow} (e : η[i]? = some (.ow o)) (h : ti η fun y η1 => ixMX i y η1 Q) : tIxOP i ti η Q := ⟨⟨o, e⟩, h⟩
theorem q_ixMX {i : Nat} {η : EP'} {Q : PV → EP' → Prop} {xs : List PV} {k : Int} {v : PV} (e : η[i]? = some (.ow (.l xs))) (ev : atI xs k = some v) (h : Q v η) : ixMX i (.int k) η Q := by unfold ixMX; rw [e]; exact ⟨k, v, rfl, ev, h⟩
theorem w_nilBX {η : EP'} {Q : List Ab → EP' → Prop} (h : Q [] η) : tNilB η Q := h
theorem w_bbX {i : Nat} {tB : TAbp} {η : EP'} {Q : List Ab → EP' → Prop} {o : Ow} (e : η[i]? = some (.ow o)) (h : tB η fun abs η1 => Q (.b i :: abs) η1) : tConsBb i tB η Q := ⟨⟨o, e⟩, h⟩
theorem at_lastX {L : List PV} {z : PV} : atI (L ++ [z]) (-1) = some z := by
 unfold atI ixN
 have hl : (L ++ [z]).length = L.length + 1 := by rw [List.length_append]; rfl
 rw [hl]
 split
 ·omega
 ·split
  ·have : (-1 + ((L.length + 1 : Nat) : Int)).toNat = L.length := by omega
   simp only [this]
   show (L ++ [z])[L.length]? = some z
   rw [List.getElem?_append_right (Nat.le_refl _), Nat.sub_self]; rfl
  ·omega
def lastN (rs : List Trip) : Str := match rs.getLast? with
 | some r => r.1
 | none => ("" : Str)
theorem lastN_snoc (rs : List Trip) (r : Trip) : lastN (rs ++ [r]) = r.1 := by unfold lastN; rw [List.getLast?_concat]
theorem q_neNilT {rs : List Trip} (hr : ∀ r ∈ rs, GoodR r) {Q : PV → Prop} (h : Q (.bl (!decide (rs = [])))) : rEqP true (.lst (rs.map rowP)) (.lst []) Q := by
 have e0 : toD (.lst (rs.map rowP)) = some (.list (rs.map rowE)) := by rw [toD, toDs_rows]; rfl
 have hs : SeqAt.shaped (.list (rs.map rowE)) = true := by
  have h1 := shaped_rows hr
  unfold SeqAt.shaped at h1 ⊢
  rw [Bool.and_eq_true] at h1 ⊢
  exact ⟨h1.1, h1.2⟩
 refine ⟨_, .list [], e0, rfl, hs, rfl, ?_⟩
 rw [if_pos rfl]
 cases rs with
 | nil => exact h
 | cons a l =>
  have e : PyData.eqv (.list ((a :: l).map rowE)) (.list []) = false := by
   rw [List.map_cons, PyData.eqv]
   simp [PyData.eqvAll]
  rw [e]; exact h
theorem w_opLX {r : R2p} {i : Nat} {te : TEp} {η : EP'} {Q : PV → EP' → Prop} {o : Ow} (e : η[i]? = some (.ow o)) (h : te η fun y η1 => ∃ o, η1[i]? = some (Sl.ow o) ∧ r (frz o) y fun z => ∃ b, z = .bl b ∧ Q (.bl b) η1) : tOpLP r i te η Q := ⟨⟨o, e⟩, h⟩
theorem numW_nn {w : Str} {i : Int} (h : numW w = some i) : 0 ≤ i := by
 unfold numW at h
 split at h
 ·cases h
 ·split at h
  ·cases h
  ·cases h; omega
theorem trip_look {w : Str} : isTripB (tripW w) = (isNm (.str (partN w)) && (decide (-1 < (numW (partS w)).getD (-1)) && decide ((numW (partS w)).getD (-1) < (numW (partE w)).getD (-1)))) := by
 unfold tripW isTripB
 dsimp only
 congr 1
 cases hs : numW (partS w) with
 | none => rfl
 | some a =>
  have a0 := numW_nn hs
  cases he : numW (partE w) with
  | none =>
   show (decide (0 ≤ a) && false) = (decide (-1 < a) && decide (a < -1))
   rw [decide_eq_false (show ¬ a < -1 by omega), Bool.and_false, Bool.and_false]
  | some b =>
   show (decide (0 ≤ a) && decide (a < b)) = (decide (-1 < a) && decide (a < b))
   rw [decide_eq_true a0, decide_eq_true (show -1 < a by omega)]
section
variable {K : PySem.W.Frag} {C : Addr} {XC : Str → Addr} {args : List PV} {P : PV → Prop} {PR : PV → Ow → Prop} {o : Ow}
theorem rd_law_text (h : sp_law_text K C args P) : ts_law_text K C { nx := fun _ => P .non, rt := fun x _ => P x } (startP 4 args) := by
 obtain ⟨n, rs, rfl, n1, n2, hw, hn, hp⟩ := h
 have e : startP 4 [.int n, rowsP rs] = [.va (.int n), .va (rowsP rs), .no, .no] := rfl
 rw [e]
 have hs := rw_shortB hw (near_B hn)
 have hl := hw.len
 have sz : 16777216 ≤ sizeLine := by decide
 refine w_seq (w_set (w_val (w_lc (w_itup (w_var (x := rowsP rs) rfl ?_)))))
 refine ⟨fun i acc η => acc = ((rs.take i).map rowS).map .str ∧ η = [.va (.int n), .va (rowsP rs), .no, .no], ⟨rfl, rfl⟩, ?_, ?_⟩
 ·rintro i x acc η hi ⟨rfl, rfl⟩
  rw [List.getElem?_map] at hi
  obtain ⟨r, hr, rfl⟩ := Option.map_eq_some_iff.mp hi
  have hsr := hs r (List.mem_of_getElem? hr)
  have b1 := int_shortB hsr.s0 hsr.s
  have b2 := int_shortB hsr.e0 hsr.e
  have l := hsr.l
  have c1 : (":" : Str).length = 1 := rfl
  have c2 : ("-" : Str).length = 1 := rfl
  refine w_gname (w_yes (q_iteT (w_op (w_op (w_op (w_op (w_op (w_var (x := rowP r) rfl (w_con (q_ixT (x := .str r.1) rfl ?_))))))))))
  refine w_con (q_addS (by omega) ?_)
  refine w_cb (w_cons (w_op (w_var (x := rowP r) rfl (w_con (q_ixT (x := .int r.2.1) rfl (w_nil (q_strI (log_ofB hsr.s0 hsr.s) (q_addS (by rw [len_app]; omega) ?_))))))))
  refine w_con (q_addS (by rw [len_app, len_app]; omega) ?_)
  refine w_cb (w_cons (w_op (w_var (x := rowP r) rfl (w_con (q_ixT (x := .int r.2.2) rfl (w_nil (q_strI (log_ofB hsr.e0 hsr.e) (q_addS (by rw [len_app, len_app, len_app]; omega) ?_))))))))
  rw [rowS_eq]
  refine ⟨by rw [List.length_map, List.length_map, List.length_take]; omega, ?_, rfl⟩
  rw [take_map hr, List.map_append]
  rfl
 rintro acc η ⟨rfl, rfl⟩
 rw [List.length_map, List.take_length]
 simp only [List.set_cons_zero, List.set_cons_succ]
 have h20 : (20 : Int) < 10 ^ 60 := by decide
 have b0 := int_short (i := n) (by omega) (by omega)
 refine w_ret (w_join (w_con ⟨⟨_, rfl⟩, ?_⟩))
 refine w_op (w_lst (w_cons (w_cb (w_cons (w_var (x := .int n) rfl (w_nil (q_strI (log_of60 (by omega) (by omega)) (w_nil ⟨sz1, ?_⟩))))))))
 refine w_var (x := .lst ((rs.map rowS).map .str)) rfl (q_addLL (by rw [List.length_map, List.length_map]; show 1 + rs.length ≤ sizeLine; omega) ?_)
 refine ⟨((toString n : String) : Str) :: rs.map rowS, ?_, ?_, hp⟩
 ·show strsOf (.str _ :: (rs.map rowS).map .str) = _
  rw [strsOf, strsOf_mapS]; rfl
 ·have hsum := sum_le (ys := rs.map rowS) fun y hy => by
   obtain ⟨r, hr, rfl⟩ := List.mem_map.mp hy
   have := rowS_lenB (hs r hr)
   omega
  rw [List.length_map] at hsum
  rw [List.map_cons, List.sum_cons, List.length_cons, List.length_map, show (" " : Str).length = 1 from rfl]
  omega
theorem rd_law_read (h : sp_law_read K C args P) : ts_law_read K C { nx := fun _ => P .non, rt := fun x _ => P x } (startP 14 args) := by
 obtain ⟨row, rfl, tx, hok, hbad⟩ := h
 have e : startP 14 [.str row] = [.va (.str row), .no, .no, .no, .no, .no, .no, .no, .no, .no, .no, .no, .no, .no] := rfl
 rw [e]
 have sz : 200000 < sizeLine := by decide
 have hrl := tx.l
 have hw := tx.w
 obtain ⟨wl1, wl2⟩ := words_len row
 refine w_seq (w_set (w_splitX (w_var (x := .str row) rfl ⟨⟨_, rfl⟩, w_con ⟨row, (" " : Str), rfl, rfl, by decide +kernel, by omega, ?_⟩⟩)))
 simp only [List.set_cons_zero, List.set_cons_succ]
 change tSeqP _ _ _ [.va (.str row), .va (.lst ((wordsW row).map .str)), .no, .no, .no, .no, .no, .no, .no, .no, .no, .no, .no, .no]
 unfold ReadL BadL at *
 generalize wordsW row = ws at *
 have a0 : atI (ws.map PV.str) (0 : Int) = some (.str (ws.getD 0 ("" : Str))) := by
  have := at_map (f := PV.str) (xs := ws) (j := 0) ("" : Str) (by decide) (by omega)
  rw [this]; rfl
 have w0 : (ws.getD 0 ("" : Str)).length ≤ 500 := by
  refine hw _ (List.mem_of_getElem? (i := 0) ?_)
  rw [List.getD_eq_getElem?_getD, List.getElem?_eq_getElem (by omega)]; rfl
 refine w_seq (w_par (w_arV (w_call (w_cons (w_op (w_var (x := .lst (ws.map .str)) rfl (w_con (q_ix a0 (w_nil ⟨_, rfl, by omega, ?_⟩)))))))))
 refine w_arF (w_lstF (w_nil ⟨Nat.zero_le _, w_arN ⟨rfl, ⟨by decide, by show 3 < 14; decide, trivial⟩, ?_⟩⟩))
 simp only [storesP, List.set_cons_zero, List.set_cons_succ]
 obtain ⟨W, hW⟩ : ∃ W, numW (ws.getD 0 ("" : Str)) = W := ⟨_, rfl⟩
 rw [hW] at hok hbad ⊢
 obtain ⟨ts, hts⟩ : ∃ ts, ts = ws.drop 1 := ⟨_, rfl⟩
 have tl : ts.length ≤ row.length := by rw [hts, List.length_drop]; omega
 have tw : ∀ w ∈ ts, w.length ≤ 500 := fun w hm => hw w (List.mem_of_mem_drop (by rw [← hts]; exact hm))
 rw [← hts] at hok hbad
 refine w_seq (w_for (w_lstP (w_slice (w_var (x := .lst (ws.map .str)) rfl (w_part (w_con (w_nop (q_slL ?_))))))))
 rw [cut_one, ← List.map_drop, ← hts]
 show ∃ Inv : Nat → EP' → Prop, _
 refine ⟨fun i η => ∃ (rs : List Trip) (s4 s5 s6 s7 s8 s9 s10 s11 s12 : Sl), (ts.take i).map tripW = rs.map rowP ∧ (∀ r ∈ rs, GoodR r) ∧ rs.length = i ∧ i ≤ 24 ∧ vGoT i (lastN rs) ((ts.drop i).map tripW) = vNT (ts.map tripW) ∧
  η = [.va (.str row), .va (.lst (ws.map .str)), .va (.int (W.getD (-1))), .ow (.l (rs.map rowP)), s4, s5, s6, s7, s8, s9, s10, s11, s12, .no], ⟨[], _, _, _, _, _, _, _, _, _, rfl, (fun _ z => (List.not_mem_nil z).elim), rfl, by decide, rfl, rfl⟩, ?_, ?_⟩
 ·rintro i y η hi ⟨rs, s4, s5, s6, s7, s8, s9, s10, s11, s12, hrs, hg, hlen, hi24, hv, rfl⟩
  have hi : (ts.map PV.str)[i]? = some y := hi
  rw [List.getElem?_map] at hi
  obtain ⟨w, hwi, rfl⟩ := Option.map_eq_some_iff.mp hi
  have hw5 := tw w (List.mem_of_getElem? hwi)
  have hil : i < ts.length := (List.getElem?_eq_some_iff.mp hwi).1
  have hd : ts.drop i = w :: ts.drop (i + 1) := by
   rw [List.drop_eq_getElem_cons hil]
   rw [List.getElem?_eq_getElem hil] at hwi
   cases hwi; rfl
  rw [hd, List.map_cons] at hv
  unfold vGoT at hv
  have l1 := part_len ey_colon w
  have l2 := part_len ey_dash (Txt.partition w (":" : Str)).2.2
  have ln : (partN w).length ≤ 500 := by unfold partN; omega
  have ls : (partS w).length ≤ 500 := by unfold partS; omega
  have le' : (partE w).length ≤ 500 := by unfold partE; omega
  have fail : (i = 24 ∨ isTripB (tripW w) = false ∨ ¬ (lastN rs).cps.toList < (nmOf (tripW w)).cps.toList) → P (.lst []) := fun z => by
   rw [if_pos z] at hv
   exact hbad (.inr (by rw [← hv]; exact hil))
  refine w_gname ?_
  simp only [List.set_cons_zero, List.set_cons_succ]
  refine w_seq (w_asg (show tPartiP _ _ _ _ from w_var (x := .str w) rfl ⟨⟨_, rfl⟩, w_con ⟨w, (":" : Str), rfl, rfl, by decide +kernel, by omega, ?_⟩⟩))
  refine ⟨rfl, w_g3 ?_⟩
  simp only [List.set_cons_zero, List.set_cons_succ]
  refine w_seq (w_asg (show tPartiP _ _ _ _ from w_var (x := .str (Txt.partition w (":" : Str)).2.2) rfl ⟨⟨_, rfl⟩, w_con ⟨_, ("-" : Str), rfl, rfl, by decide +kernel, by omega, ?_⟩⟩))
  refine ⟨rfl, w_g3 ?_⟩
  simp only [List.set_cons_zero, List.set_cons_succ]
  obtain ⟨p0, hp0⟩ : ∃ p0, (numW (partS w)).getD (-1) = p0 := ⟨_, rfl⟩
  obtain ⟨p1, hp1⟩ : ∃ p1, (numW (partE w)).getD (-1) = p1 := ⟨_, rfl⟩
  have look := trip_look (w := w)
  rw [hp0, hp1] at look
  refine w_seq (w_set (w_lst (w_cons (w_call (w_cons (w_var (x := .str (partS w)) rfl (w_nil ⟨partS w, rfl, by omega, ?_⟩)))))))
  rw [hp0]
  refine w_cons (w_call (w_cons (w_var (x := .str (partE w)) rfl (w_nil ⟨partE w, rfl, by omega, ?_⟩))))
  rw [hp1]
  refine w_nil ⟨sz2, ?_⟩
  simp only [List.set_cons_zero, List.set_cons_succ]
  obtain ⟨fr, hfr⟩ : ∃ fr, partN w = fr := ⟨_, rfl⟩
  have fl : fr.length = fr.cps.toList.length := by simp [Str.length]
  have nmw : nmOf (tripW w) = fr := hfr
  rw [nmw] at hv fail
  rw [hfr] at look ln
  refine w_seq (w_set (w_val (w_lc (show iStrP _ _ _ from w_var (x := .str fr) (by show some (Sl.va (.str (partN w))) = _; rw [hfr]) ?_))))
  show ∃ Inv : Nat → List PV → EP' → Prop, _
  obtain ⟨S, hS⟩ : ∃ S : List Sl, S = [.va (.str row), .va (.lst (ws.map .str)), .va (.int (W.getD (-1))), .ow (.l (rs.map rowP)), .va (.str w), .va (.str (Txt.partition w (":" : Str)).1), .va (.str (Txt.partition w (":" : Str)).2.1), .va (.str (Txt.partition w (":" : Str)).2.2), .va (.str (Txt.partition (Txt.partition w (":" : Str)).2.2 ("-" : Str)).1), .va (.str (Txt.partition (Txt.partition w (":" : Str)).2.2 ("-" : Str)).2.1), .va (.str (Txt.partition (Txt.partition w (":" : Str)).2.2 ("-" : Str)).2.2), .va (.lst [.int p0, .int p1]), s12, .no] := ⟨_, rfl⟩
  have g5 : (Txt.partition w (":" : Str)).1 = fr := hfr
  rw [g5]
  refine ⟨fun j acc η => acc = ((fr.cps.toList.take j).map fun c => decide (c ∈ abc.cps.toList)).map .bl ∧ η = [.va (.str row), .va (.lst (ws.map .str)), .va (.int (W.getD (-1))), .ow (.l (rs.map rowP)), .va (.str w), .va (.str fr), .va (.str (Txt.partition w (":" : Str)).2.1), .va (.str (Txt.partition w (":" : Str)).2.2), .va (.str (Txt.partition (Txt.partition w (":" : Str)).2.2 ("-" : Str)).1), .va (.str (Txt.partition (Txt.partition w (":" : Str)).2.2 ("-" : Str)).2.1), .va (.str (Txt.partition (Txt.partition w (":" : Str)).2.2 ("-" : Str)).2.2), .va (.lst [.int p0, .int p1]), s12, .no], ⟨rfl, rfl⟩, ?_, ?_⟩
  ·rintro j y acc η hj ⟨rfl, rfl⟩
   have hj : (fr.cps.toList.map fun c => PV.str ⟨#[c]⟩)[j]? = some y := hj
   rw [List.getElem?_map] at hj
   obtain ⟨c, hc, rfl⟩ := Option.map_eq_some_iff.mp hj
   refine w_gname (w_yes (q_iteT (w_op (w_var rfl (w_con (q_inS ⟨?_, ?_, rfl⟩))))))
   ·rw [List.length_map, List.length_map, List.length_take]; omega
   ·rw [take_map hc, List.map_append]; rfl
  rintro acc η ⟨rfl, rfl⟩
  have efl : (fr.cps.toList.map fun c => PV.str ⟨#[c]⟩).length = fr.cps.toList.length := List.length_map _
  rw [efl, List.take_length]
  simp only [List.set_cons_zero, List.set_cons_succ]
  obtain ⟨bs, hbs⟩ : ∃ bs, bs = fr.cps.toList.map fun c => decide (c ∈ abc.cps.toList) := ⟨_, rfl⟩
  rw [← hbs]
  have bl : bs.length = fr.length := by rw [hbs, List.length_map, fl]
  have nmB : isNm (.str fr) = (decide (1 ≤ fr.length) && (decide (fr.length ≤ 8) && bs.all id)) := by
   rw [hbs]
   unfold isNm
   dsimp only
   rw [List.all_map]; rfl
  rw [nmB] at look
  refine w_seq (w_if (w_or (w_not (w_bl (w_chain (w_con (w_cb (w_cons (w_var (x := .lst (bs.map .bl)) rfl (w_nil (q_len (q_lt ⟨_, rfl, ?_⟩))))))))))))
  rw [List.length_map, bl]
  have bad : isTripB (tripW w) = false → P (.lst []) := fun z => fail (.inr (.inl z))
  have z0 : 0 ≤ sizeLine := Nat.zero_le _
  by_cases c1 : ¬ (0 : Int) < (fr.length : Int)
  ·rw [decide_eq_false c1]
   have hb := bad (by rw [look, decide_eq_false (show ¬ 1 ≤ fr.length by omega)]; rfl)
   exact q_iteF (q_iteT (w_ret (w_lst (w_nil ⟨z0, hb⟩))))
  have c1 := Decidable.not_not.mp c1
  rw [decide_eq_true c1]
  refine q_iteT (w_con (q_lt ?_))
  by_cases c2 : ¬ (fr.length : Int) < 9
  ·rw [decide_eq_false c2]
   have hb := bad (by rw [look, decide_eq_false (show ¬ fr.length ≤ 8 by omega), Bool.false_and, Bool.and_false]; rfl)
   exact q_iteT (w_ret (w_lst (w_nil ⟨z0, hb⟩)))
  have c2 := Decidable.not_not.mp c2
  rw [decide_eq_true c2]
  refine q_iteF (w_or (w_not (w_bl (w_cb (w_cons (w_var (x := .lst (bs.map .bl)) rfl (w_nil (q_all (by rw [show ∀ l : List Bool, blsOf (l.map .bl) = some l from fun l => by simpa using blsOf_map (fun b => b) l]) ?_))))))))
  rw [decide_eq_true (show 1 ≤ fr.length by omega), decide_eq_true (show fr.length ≤ 8 by omega), Bool.true_and, Bool.true_and] at look
  cases hb : bs.all id with
  | false =>
   have hb := bad (by rw [look, hb]; rfl)
   exact q_iteT (w_ret (w_lst (w_nil ⟨z0, hb⟩)))
  | true =>
   rw [hb, Bool.true_and] at look
   refine q_iteF (w_not (w_bl (w_chain (w_neg' (w_con (w_op (w_var (x := .lst [.int p0, .int p1]) rfl (w_con (q_ix (x := .int p0) rfl (q_lt ⟨_, rfl, ?_⟩))))))))))
   by_cases c3 : ¬ (-1 : Int) < p0
   ·have e3 : decide (-1 < p0) = false := decide_eq_false c3
    rw [e3]
    have hb := bad (by rw [look, e3]; rfl)
    exact q_iteF (q_iteT (w_ret (w_lst (w_nil ⟨z0, hb⟩))))
   have c3 := Decidable.not_not.mp c3
   have e3 : decide (-1 < p0) = true := decide_eq_true c3
   rw [e3] at look ⊢
   refine q_iteT (w_op (w_var (x := .lst [.int p0, .int p1]) rfl (w_con (q_ix (x := .int p1) rfl (q_lt ?_)))))
   by_cases c4 : ¬ p0 < p1
   ·rw [decide_eq_false c4]
    have hb := bad (by rw [look, decide_eq_false c4]; rfl)
    exact q_iteT (w_ret (w_lst (w_nil ⟨z0, hb⟩)))
   have c4 := Decidable.not_not.mp c4
   rw [decide_eq_true c4] at look ⊢
   have ht : isTripB (tripW w) = true := look
   refine q_iteF (w_next ?_)
   dsimp only
   obtain ⟨r, hr, k1, k2, k3⟩ := trip_of ht
   obtain ⟨r1, r2, r3⟩ : r.1 = fr ∧ r.2.1 = p0 ∧ r.2.2 = p1 := by
    unfold tripW rowP at hr
    have hr := List.cons.inj (PV.tup.inj hr)
    have h1 := PV.str.inj hr.1
    have hr2 := List.cons.inj hr.2
    have h3 := (List.cons.inj hr2.2).1
    have h2 := hr2.1
    refine ⟨by rw [← h1, hfr], ?_, ?_⟩
    ·rw [← hp0]
     cases q : numW (partS w) with
     | none => rw [q] at h2; cases h2
     | some i => rw [q] at h2; exact (PV.int.inj h2).symm
    ·rw [← hp1]
     cases q : numW (partE w) with
     | none => rw [q] at h3; cases h3
     | some i => rw [q] at h3; exact (PV.int.inj h3).symm
   have gr : GoodR r := rw_good (rs := [r]) ⟨by show 1 ≤ 24; decide, fun q hq => by rw [List.mem_singleton.mp hq]; exact ⟨k1, k2, k3⟩, List.pairwise_singleton _ _⟩ r List.mem_cons_self
   have step : ¬ (i = 24 ∨ ¬ (lastN rs).cps.toList < fr.cps.toList) → tAppP 3 (tTupP (tConsP (tVarP 5) (tConsP (tOpP rIxP (tVarP 11) (tConP (.int 0))) (tConsP (tOpP rIxP (tVarP 11) (tConP (.int 1))) tNilP)))) { nx := fun η => (∃ (rs : List Trip) (s4 s5 s6 s7 s8 s9 s10 s11 s12 : Sl), (ts.take (i + 1)).map tripW = rs.map rowP ∧ (∀ r ∈ rs, GoodR r) ∧ rs.length = i + 1 ∧ i + 1 ≤ 24 ∧ vGoT (i + 1) (lastN rs) ((ts.drop (i + 1)).map tripW) = vNT (ts.map tripW) ∧ η = [.va (.str row), .va (.lst (ws.map .str)), .va (.int (W.getD (-1))), .ow (.l (rs.map rowP)), s4, s5, s6, s7, s8, s9, s10, s11, s12, .no]), rt := fun x _ => P x } [.va (.str row), .va (.lst (ws.map .str)), .va (.int (W.getD (-1))), .ow (.l (rs.map rowP)), .va (.str w), .va (.str fr), .va (.str (Txt.partition w (":" : Str)).2.1), .va (.str (Txt.partition w (":" : Str)).2.2), .va (.str (Txt.partition (Txt.partition w (":" : Str)).2.2 ("-" : Str)).1), .va (.str (Txt.partition (Txt.partition w (":" : Str)).2.2 ("-" : Str)).2.1), .va (.str (Txt.partition (Txt.partition w (":" : Str)).2.2 ("-" : Str)).2.2), .va (.lst [.int p0, .int p1]), .va (.lst (bs.map .bl)), .no] := fun hz => by
    rw [if_neg (by rintro (z | z | z); exact hz (.inl z); rw [ht] at z; cases z; exact hz (.inr z))] at hv
    refine w_app (xs := rs.map rowP) rfl (w_tup (w_cons (w_var (x := .str fr) rfl (w_cons (w_op (w_var (x := .lst [.int p0, .int p1]) rfl (w_con (q_ix (x := .int p0) rfl ?_))))))))
    refine w_cons (w_op (w_var (x := .lst [.int p0, .int p1]) rfl (w_con (q_ix (x := .int p1) rfl (w_nil ⟨sz3, q_appM rfl (by rw [List.length_map]; omega) ?_⟩)))))
    simp only [List.set_cons_zero, List.set_cons_succ]
    have er : PV.tup [.str fr, .int p0, .int p1] = rowP r := by rw [← r1, ← r2, ← r3]; rfl
    have em : rs.map rowP ++ [rowP r] = (rs ++ [r]).map rowP := by rw [List.map_append]; rfl
    rw [er, em]
    refine ⟨rs ++ [r], _, _, _, _, _, _, _, _, _, ?_, fun q hq => ?_, by rw [List.length_append, hlen]; rfl, by omega, ?_, rfl⟩
    ·rw [take_map hwi, hrs, hr, List.map_append]; rfl
    ·rcases List.mem_append.mp hq with hq | hq
     ·exact hg q hq
     ·rw [List.mem_singleton.mp hq]; exact gr
    ·rw [lastN_snoc, r1]; exact hv
   have lastf : (i = 24 ∨ ¬ (lastN rs).cps.toList < fr.cps.toList) → P (.lst []) := fun z => fail (z.imp id .inr)
   have second : ∀ {D : EndsP} {η : EP'}, True := trivial
   refine w_seq (w_if (w_or (w_and (w_bl (w_opLX rfl (w_lst (w_nil ⟨z0, ⟨_, rfl, q_neNilT hg ⟨_, rfl, ?_⟩⟩⟩)))))))
   by_cases c5 : rs = []
   ·rw [decide_eq_true c5]
    refine q_iteF (q_iteF (w_bl (w_op (w_cbb (w_bbX rfl (w_nilBX ⟨[.lst (rs.map rowP)], rfl, q_len ⟨rfl, w_con (q_gt ?_)⟩⟩))))))
    rw [List.length_map, hlen, decide_eq_false (show ¬ (23 : Int) < (i : Int) by rw [c5] at hlen; rw [← hlen]; decide)]
    refine q_iteF (w_next ?_)
    dsimp only
    refine step ?_
    rintro (z | z)
    ·rw [c5] at hlen; rw [z] at hlen; cases hlen
    ·refine z ?_
     rw [c5]
     have : fr.cps.toList ≠ [] := fun y => by rw [fl, y] at c1; exact absurd c1 (by decide)
     show ("" : Str).cps.toList < fr.cps.toList
     cases q : fr.cps.toList with
     | nil => exact absurd q this
     | cons a l => exact List.nil_lt_cons a l
   ·rw [decide_eq_false c5]
    obtain ⟨us, u, hu⟩ : ∃ us u, rs = us ++ [u] := ⟨rs.dropLast, rs.getLast c5, (List.dropLast_concat_getLast c5).symm⟩
    have hla : lastN rs = u.1 := by rw [hu, lastN_snoc]
    refine q_iteT (w_bl (w_op (w_var (x := .str fr) rfl (w_op (w_ixOX rfl (w_neg' (w_con (q_ixMX (xs := rs.map rowP) (v := rowP u) rfl ?_ ?_))))))))
    ·rw [hu, List.map_append]; exact at_lastX
    refine w_con (q_ixT (x := .str u.1) rfl (q_leS ?_))
    rw [hla] at step lastf
    by_cases c6 : u.1.cps.toList < fr.cps.toList
    ·rw [decide_eq_true c6]
     refine q_iteF (w_bl (w_op (w_cbb (w_bbX rfl (w_nilBX ⟨[.lst (rs.map rowP)], rfl, q_len ⟨rfl, w_con (q_gt ?_)⟩⟩)))))
     rw [List.length_map, hlen]
     by_cases c7 : (23 : Int) < (i : Int)
     ·rw [decide_eq_true c7]
      exact q_iteT (w_ret (w_lst (w_nil ⟨z0, lastf (.inl (by omega))⟩)))
     ·rw [decide_eq_false c7]
      refine q_iteF (w_next ?_)
      dsimp only
      exact step (by rintro (z | z); omega; exact z c6)
    ·rw [decide_eq_false c6]
     exact q_iteT (q_iteT (w_ret (w_lst (w_nil ⟨z0, lastf (.inr c6)⟩))))
 ·rintro η ⟨rs, s4, s5, s6, s7, s8, s9, s10, s11, s12, hrs, hg, hlen, hi24, hv, rfl⟩
  have el : (ts.map PV.str).length = ts.length := List.length_map _
  rw [el, List.drop_length] at hv
  rw [el, List.take_length] at hrs
  have hvl : vNT (ts.map tripW) = (ts.map tripW).length := by rw [List.length_map, ← hv]; rfl
  dsimp only
  refine w_ret (w_ife (w_bl (w_chain (w_con (w_var (x := .int (W.getD (-1))) rfl (q_lt ⟨_, rfl, ?_⟩))))))
  have fin : ∀ n, W = some n → 1 ≤ n → n ≤ 20 → P (.lst [.int n, .tup (rs.map rowP)]) := fun n e n1 n2 => by
   obtain ⟨rs', e1, hrw⟩ := valid_rw hvl
   have e2 : rs.map rowP = rs'.map rowP := hrs.symm.trans e1
   rw [e2]
   exact hok n rs' ⟨e, e1, n1, n2, hrw⟩
  have no : seatsB (optI W) = false → P (.lst []) := fun z => hbad (.inl z)
  have z0 : 0 ≤ sizeLine := Nat.zero_le _
  cases W with
  | none =>
   rw [decide_eq_false (show ¬ (0 : Int) < (none : Option Int).getD (-1) by decide)]
   exact q_iteF (q_iteF (w_lst (w_nil ⟨z0, no rfl⟩)))
  | some n =>
   simp only [Option.getD_some]
   by_cases c1 : ¬ (0 : Int) < n
   ·rw [decide_eq_false c1]
    refine q_iteF (q_iteF (w_lst (w_nil ⟨z0, no ?_⟩)))
    show (decide (1 ≤ n) && decide (n ≤ 20)) = false
    rw [decide_eq_false (show ¬ 1 ≤ n by omega)]; rfl
   have c1 := Decidable.not_not.mp c1
   rw [decide_eq_true c1]
   refine q_iteT (w_con (q_lt ?_))
   by_cases c2 : n < 21
   ·rw [decide_eq_true c2]
    refine q_iteT (w_lst (w_cons (w_var (x := .int n) rfl (w_cons (w_cb (w_cons (w_varO (o := .l (rs.map rowP)) rfl (w_nil (q_tupl (w_nil ⟨sz2, fin n rfl (by omega) (by omega)⟩))))))))))
   ·rw [decide_eq_false c2]
    refine q_iteF (w_lst (w_nil ⟨z0, no ?_⟩))
    show (decide (1 ≤ n) && decide (n ≤ 20)) = false
    rw [decide_eq_false (show ¬ n ≤ 20 by omega), Bool.and_false]
end
theorem snoc_indX {α : Type} {p : List α → Prop} (l : List α) (h0 : p []) (hs : ∀ l a, p l → p (l ++ [a])) : p l := by
 have h : ∀ r : List α, p r.reverse := fun r => by
  induction r with
  | nil => exact h0
  | cons a r ih => rw [List.reverse_cons]; exact hs _ _ ih
 have := h l.reverse
 rwa [List.reverse_reverse] at this
theorem val_snoc (l : List Nat) (c : Nat) : NumText.digitsVal (l ++ [c]) = NumText.digitsVal l * 10 + (c - 48) := by
 unfold NumText.digitsVal
 rw [List.foldl_append]; rfl
theorem val_pos : ∀ l : List Nat, (∀ c ∈ l, 48 ≤ c ∧ c ≤ 57) → l ≠ [] → l[0]? ≠ some 48 → 1 ≤ NumText.digitsVal l := fun l => by
 induction l using snoc_indX with
 | h0 => intro _ h; exact absurd rfl h
 | hs l c ih =>
  intro hd _ h0
  rw [val_snoc]
  by_cases e : l = []
  ·subst e
   have := hd c (by simp)
   have hc : c ≠ 48 := fun z => h0 (by rw [z]; rfl)
   show 1 ≤ 0 * 10 + (c - 48)
   omega
  ·have := ih (fun x hx => hd x (List.mem_append_left _ hx)) e (by
    intro z
    refine h0 ?_
    cases l with
    | nil => exact absurd rfl e
    | cons a l => exact z)
   omega
theorem canon_dig : ∀ l : List Nat, (∀ c ∈ l, 48 ≤ c ∧ c ≤ 57) → l ≠ [] → (l[0]? = some 48 → l.length ≤ 1) → TL.numL (NumText.digitsVal l) = l := fun l => by
 induction l using snoc_indX with
 | h0 => intro _ h; exact absurd rfl h
 | hs l c ih =>
  intro hd _ h0
  have hc := hd c (by simp)
  rw [val_snoc]
  by_cases e : l = []
  ·subst e
   have hz : NumText.digitsVal ([] : List Nat) = 0 := rfl
   rw [hz, Nat.zero_mul, Nat.zero_add, TL.numL_lt (by omega)]
   show [48 + (c - 48)] = [c]
   congr 1; omega
  ·have h1 : l[0]? ≠ some 48 := fun z => by
    have l1 := h0 (by
     cases l with
     | nil => exact absurd rfl e
     | cons a l => exact z)
    rw [List.length_append] at l1
    have l2 : l.length + 1 ≤ 1 := l1
    exact e (List.length_eq_zero_iff.mp (by omega))
   have p := val_pos l (fun x hx => hd x (List.mem_append_left _ hx)) e h1
   have ih := ih (fun x hx => hd x (List.mem_append_left _ hx)) e (fun z => absurd z h1)
   rw [TL.numL_step (by omega)]
   have e1 : (NumText.digitsVal l * 10 + (c - 48)) / 10 = NumText.digitsVal l := by omega
   have e2 : (NumText.digitsVal l * 10 + (c - 48)) % 10 = c - 48 := by omega
   rw [e1, e2, ih]
   congr 1
   show [48 + (c - 48)] = [c]
   congr 1; omega
theorem canonW {w : Str} {i : Int} (h : numW w = some i) : w = ((toString i : String) : Str) := by
 unfold numW at h
 split at h
 ·cases h
 ·rename_i hc
  split at h
  ·cases h
  ·rename_i h0
   have e := Option.some.inj h
   have ne : w.cps.toList ≠ [] := fun z => hc (.inl z)
   have hd : digB w = true := by
    cases q : digB w with
    | true => rfl
    | false => exact absurd (.inr q) hc
   refine TL.ext_tl ?_
   rw [← e]
   show w.cps.toList = TL.tl (Str.ofString (toString ((NumText.digitsVal w.cps.toList : Nat) : Int)))
   rw [TL.tl_num]
   refine (canon_dig _ (digits_ok hd) ne fun z => ?_).symm
   have wl : w.length = w.cps.toList.length := by simp [Str.length]
   have : ¬ 1 < w.length := fun y => h0 ⟨z, y⟩
   omega
theorem num_back {i : Int} (h0 : 0 ≤ i) : numW ((toString i : String) : Str) = some i := by
 obtain ⟨n, rfl⟩ := Int.eq_ofNat_of_zero_le h0
 have et : ((toString ((n : Nat) : Int) : String) : Str).cps.toList = TL.numL n := TL.tl_num n
 have dg := TL.numL_digits n
 have ne := TL.numL_ne n
 unfold numW
 rw [if_neg, if_neg, et, TL.numL_val]
 ·rintro ⟨z1, z2⟩
  rw [et] at z1
  have wl : ((toString ((n : Nat) : Int) : String) : Str).length = (TL.numL n).length := by rw [← et]; simp [Str.length]
  rw [wl] at z2
  -- a nought in front: the number is nought
  have key : ∀ m : Nat, (TL.numL m)[0]? = some 48 → (TL.numL m).length ≤ 1 := fun m => by
   induction m using Nat.strongRecOn with
   | _ m ih =>
    intro hz
    by_cases c : m < 10
    ·rw [TL.numL_lt c]; exact Nat.le_refl _
    ·exfalso
     rw [TL.numL_step (by omega)] at hz
     have nl := TL.numL_ne (m / 10)
     have hz2 : (TL.numL (m / 10))[0]? = some 48 := by
      cases q : TL.numL (m / 10) with
      | nil => exact absurd q nl
      | cons a l => rw [q] at hz; exact hz
     have l1 := ih (m / 10) (by omega) hz2
     -- then m / 10 is below ten and nought
     have small : m / 10 < 10 := by
      refine Classical.byContradiction fun y => ?_
      rw [TL.numL_step (by omega), List.length_append] at l1
      have := TL.numL_ne (m / 10 / 10)
      have : (TL.numL (m / 10 / 10)).length ≠ 0 := fun y => this (List.length_eq_zero_iff.mp y)
      have l2 : (TL.numL (m / 10 / 10)).length + 1 ≤ 1 := l1
      omega
     rw [TL.numL_lt small] at hz2
     have : 48 + m / 10 = 48 := by simpa using hz2
     omega
  have := key n z1
  omega
 ·rintro (z | z)
  ·rw [et] at z; exact ne z
  ·have : digB ((toString ((n : Nat) : Int) : String) : Str) = true := by
    unfold digB
    rw [et]
    refine List.all_eq_true.mpr fun c hc => decide_eq_true ?_
    have e : digS.cps.toList = [48, 49, 50, 51, 52, 53, 54, 55, 56, 57] := by decide +kernel
    rw [e]
    obtain ⟨h1, h2⟩ := dg c hc
    simp only [List.mem_cons, List.not_mem_nil, or_false]
    omega
   rw [this] at z; cases z
theorem joinL_cons {S p : List Nat} {ps : List (List Nat)} (h : ps ≠ []) : TL.joinL S (p :: ps) = p ++ (S ++ TL.joinL S ps) := by
 cases ps with
 | nil => exact absurd rfl h
 | cons q r => rfl
theorem join_spl (s : Nat) : ∀ (l acc : List Nat), TL.joinL [s] (TL.spl [s] 0 acc l) = acc ++ l
 | [], acc => by rw [TL.spl_nil, List.append_nil]; rfl
 | c :: l, acc => by
  rw [spl_one]
  split
  ·rename_i e
   rw [joinL_cons (fun z => by have := (spl_len s l []).1; rw [z] at this; exact absurd this (by decide)), join_spl s l [], e]
   simp
  ·rw [join_spl s l (acc ++ [c])]
   simp
theorem row_join (row : Str) : Txt.join (" " : Str) (wordsW row) = row := by
 refine TL.ext_tl ?_
 rw [TL.join_eq, TL.tl_join, words_tl, ey_space, join_spl, List.nil_append]
theorem num_empty : numW Str.empty = none := by unfold numW; rw [if_pos (.inl rfl)]
theorem part_empty : (Txt.partition Str.empty ("-" : Str)).1 = Str.empty := by
 rcases part_cases ey_dash Str.empty with ⟨a, b, e, _, _⟩ | ⟨_, e⟩
 ·have := congrArg (fun z : Str => (TL.tl z).length) e
  simp only [TL.tl_append, ey_dash, List.length_append] at this
  have h0 : (TL.tl Str.empty).length = 0 := rfl
  rw [h0] at this
  simp only [List.length_singleton] at this
  omega
 ·rw [e]
theorem trip_parts {w : Str} {r : Trip} (h : tripW w = rowP r) : partN w = r.1 ∧ numW (partS w) = some r.2.1 ∧ numW (partE w) = some r.2.2 := by
 unfold tripW rowP at h
 have h := List.cons.inj (PV.tup.inj h)
 have h1 := PV.str.inj h.1
 have h2 := List.cons.inj h.2
 have h3 := (List.cons.inj h2.2).1
 have h2 := h2.1
 refine ⟨h1, ?_, ?_⟩
 ·cases q : numW (partS w) with
  | none => rw [q] at h2; cases h2
  | some i => rw [q] at h2; rw [PV.int.inj h2]
 ·cases q : numW (partE w) with
  | none => rw [q] at h3; cases h3
  | some i => rw [q] at h3; rw [PV.int.inj h3]
theorem app_assoc (a b c : Str) : a ++ b ++ c = a ++ (b ++ c) := TL.ext_tl (by simp only [TL.tl_append, List.append_assoc])
theorem trip_text {w : Str} {r : Trip} (h : tripW w = rowP r) : rowS r = w := by
 obtain ⟨h1, h2, h3⟩ := trip_parts h
 rw [← rowS_eq, ← canonW h2, ← canonW h3, ← h1]
 unfold partS at h2 ⊢
 unfold partE at h3 ⊢
 unfold partN
 rcases part_cases ey_colon w with ⟨a, b, e1, _, e2⟩ | ⟨_, e2⟩
 ·rw [e2] at h2 h3 ⊢
  dsimp only at h2 h3 ⊢
  rcases part_cases ey_dash b with ⟨s, e, e3, _, e4⟩ | ⟨_, e4⟩
  ·rw [e4, e1, e3]
   dsimp only
   simp only [app_assoc]
  ·rw [e4] at h3
   rw [num_empty] at h3
   cases h3
 ·rw [e2] at h2
  dsimp only at h2
  rw [part_empty, num_empty] at h2
  cases h2
theorem map_text {ws : List Str} : ∀ {rs : List Trip}, ws.map tripW = rs.map rowP → ws = rs.map rowS := by
 induction ws with
 | nil => intro rs h; cases rs with
  | nil => rfl
  | cons r rs => cases h
 | cons w ws ih => intro rs h; cases rs with
  | nil => cases h
  | cons r rs =>
   rw [List.map_cons, List.map_cons] at h
   obtain ⟨h1, h2⟩ := List.cons.inj h
   rw [List.map_cons, trip_text h1, ← ih h2]
theorem words_ht (row : Str) : wordsW row = (wordsW row).getD 0 ("" : Str) :: (wordsW row).drop 1 := by
 have := (words_len row).1
 cases q : wordsW row with
 | nil => rw [q] at this; exact absurd this (by decide)
 | cons a l => rfl
theorem read_text {row : Str} {n : Int} {rs : List Trip} (h : ReadL row n rs) : textS n rs = row := by
 obtain ⟨h1, h2, _⟩ := h
 have e := row_join row
 rw [words_ht row, map_text h2, canonW h1] at e
 exact e
theorem rowX_inj {a b : Trip} (h : rowP a = rowP b) : a = b := by
 unfold rowP at h
 have h := List.cons.inj (PV.tup.inj h)
 have h2 := List.cons.inj h.2
 have h3 := (List.cons.inj h2.2).1
 exact Prod.ext (PV.str.inj h.1) (Prod.ext (PV.int.inj h2.1) (PV.int.inj h3))
theorem rowsX_inj : ∀ {a b : List Trip}, a.map rowP = b.map rowP → a = b
 | [], [], _ => rfl
 | [], _ :: _, h => by cases h
 | _ :: _, [], h => by cases h
 | a :: as, b :: bs, h => by
  rw [List.map_cons, List.map_cons] at h
  obtain ⟨h1, h2⟩ := List.cons.inj h
  rw [rowX_inj h1, rowsX_inj h2]
theorem read_uniq {row : Str} {n n' : Int} {rs rs' : List Trip} (h : ReadL row n rs) (h' : ReadL row n' rs') : n' = n ∧ rs' = rs := by
 obtain ⟨h1, h2, _⟩ := h
 obtain ⟨h1', h2', _⟩ := h'
 exact ⟨Option.some.inj (h1'.symm.trans h1), rowsX_inj (h2'.symm.trans h2)⟩
theorem read_notbad {row : Str} {n : Int} {rs : List Trip} (h : ReadL row n rs) : ¬ BadL row := by
 obtain ⟨h1, h2, n1, n2, hw⟩ := h
 unfold BadL
 rw [h1, h2]
 rintro (z | z)
 ·have : (decide (1 ≤ n) && decide (n ≤ 20)) = false := z
  rw [decide_eq_true n1, decide_eq_true n2] at this
  cases this
 ·have hv := valid_done rs 0 ("" : Str) (by have := hw.len; omega) (fun r hr => hw.each r hr) hw.asc (fun r hr => by
   have e : (decide (1 ≤ r.1.length) && (decide (r.1.length ≤ 8) && r.1.cps.toList.all fun c => decide (c ∈ abc.cps.toList))) = true := (hw.each r hr).1
   have h1 := of_decide_eq_true (Bool.and_eq_true_iff.mp e).1
   have rl : r.1.length = r.1.cps.toList.length := by simp [Str.length]
   show ("" : Str).cps.toList < r.1.cps.toList
   cases q : r.1.cps.toList with
   | nil => rw [rl, q] at h1; exact absurd h1 (by decide)
   | cons a l => exact List.nil_lt_cons a l)
  unfold vNT at z
  rw [hv] at z
  have hlen := congrArg List.length h2
  rw [List.length_map, List.length_map] at hlen
  omega
theorem val_lt : ∀ l : List Nat, (∀ c ∈ l, 48 ≤ c ∧ c ≤ 57) → NumText.digitsVal l < 10 ^ l.length := fun l => by
 induction l using snoc_indX with
 | h0 => intro _; decide
 | hs l c ih =>
  intro hd
  have hc := hd c (by simp)
  have := ih fun x hx => hd x (List.mem_append_left _ hx)
  rw [val_snoc, List.length_append]
  show _ < 10 ^ (l.length + 1)
  rw [Nat.pow_succ]
  omega
theorem num_lt {w : Str} {i : Int} {k : Nat} (h : numW w = some i) (hl : w.length ≤ k) : i < 10 ^ k := by
 unfold numW at h
 split at h
 ·cases h
 ·rename_i hc
  split at h
  ·cases h
  ·have e := Option.some.inj h
   have hd : digB w = true := by
    cases q : digB w with
    | true => rfl
    | false => exact absurd (.inr q) hc
   have wl : w.length = w.cps.toList.length := by simp [Str.length]
   have h1 := val_lt _ (digits_ok hd)
   have h2 : 10 ^ w.cps.toList.length ≤ 10 ^ k := Nat.pow_le_pow_right (by decide) (by omega)
   rw [← e]
   have h3 : NumText.digitsVal w.cps.toList < 10 ^ k := Nat.lt_of_lt_of_le h1 h2
   exact_mod_cast h3
theorem read_near {row : Str} {n : Int} {rs : List Trip} (tx : TxOk row) (h : ReadL row n rs) : NearB rs := fun r hr => by
 obtain ⟨_, h2, _⟩ := h
 have hm : rowP r ∈ ((wordsW row).drop 1).map tripW := by rw [h2]; exact List.mem_map.mpr ⟨r, hr, rfl⟩
 obtain ⟨w, hw, e⟩ := List.mem_map.mp hm
 obtain ⟨_, _, h3⟩ := trip_parts e
 have l1 := part_len ey_colon w
 have l2 := part_len ey_dash (Txt.partition w (":" : Str)).2.2
 have l3 := tx.w w (List.mem_of_mem_drop hw)
 exact num_lt h3 (by unfold partE; omega)
theorem q_reprG {x : PV} {d : PyData} {P : PV → Prop} (B : Nat) (hB : 8 ≤ B) (h1 : toD x = some d) (h2 : d.showable = true) (h3 : d.hasDict = false) (h4 : d.depth ≤ 60) (h5 : d.leavesShort B = true) (h6 : (B + 2) * d.bulk + B ≤ sizeLine) (h : P (.str d.shown)) : rRepr [x] P := ⟨d, h1, h2, h3, h4, Nat.le_trans (PyData.shown_le_bulk B hB d h5) h6, h⟩
def saidD (row : Str) : PyData := .list [.str ("text" : Str), .str row]
theorem q_reprSaid {row : Str} {P : PV → Prop} (tx : TxOk row) (h : P (.str (saidD row).shown)) : rRepr [.lst [.str ("text" : Str), .str row]] P := by
 have rl : row.cps.size ≤ 60000 := tx.l
 have tl : ("text" : Str).cps.size = 4 := by decide +kernel
 refine q_reprG 8 (Nat.le_refl _) (d := saidD row) rfl rfl rfl (by unfold saidD; simp [PyData.depth, PyData.depthAll]) ?_ ?_ h
 ·unfold saidD
  rw [PyData.leavesShort, PyData.leavesShortAll, PyData.leavesShortAll, PyData.leavesShortAll, leavesS (small_of _), leavesS fun c hc => by
   have := (tx.a c hc).2
   have : (127 : Nat) < 16 ^ 8 := by decide
   omega]
  rfl
 ·have e : (saidD row).bulk ≤ 60010 := by
   unfold saidD
   simp only [PyData.bulk, PyData.bulkAll]
   omega
  have : 10 * 60010 + 8 ≤ sizeLine := by decide
  omega
theorem leavesB {i : Int} (h0 : 0 ≤ i) (h : i < 10 ^ 500) : PyData.leavesShort 1921 (.int i) = true := by
 rw [PyData.leavesShort]
 refine decide_eq_true ?_
 rw [PyData.shown_int]
 have := int_shortB h0 h
 omega
theorem rowsB_facts : ∀ {rs : List Trip}, (∀ r ∈ rs, ShortB r) → (∀ r ∈ rs, GoodR r) → PyData.leavesShortAll 1921 (rs.map rowE) = true ∧ PyData.showableAll (rs.map rowE) = true ∧ PyData.hasDictAll (rs.map rowE) = false ∧ PyData.bulkAll (rs.map rowE) ≤ 12 * rs.length
 | [], _, _ => ⟨rfl, rfl, rfl, by simp [PyData.bulkAll]⟩
 | r :: rs, h, g => by
  obtain ⟨b1, b2, b3, b4⟩ := rowsB_facts (fun q hq => h q (List.mem_cons_of_mem _ hq)) fun q hq => g q (List.mem_cons_of_mem _ hq)
  have hr := h r List.mem_cons_self
  have l : r.1.cps.size ≤ 8 := hr.l
  have e1 : PyData.leavesShort 1921 (rowE r) = true := by
   unfold rowE
   rw [PyData.leavesShort, PyData.leavesShortAll, PyData.leavesShortAll, PyData.leavesShortAll, leavesB hr.s0 hr.s, leavesB hr.e0 hr.e, leavesS (small_name (g r List.mem_cons_self)), PyData.leavesShortAll]
   rfl
  have e2 : PyData.showable (rowE r) = true := by
   unfold rowE
   simp only [PyData.showable, PyData.showableAll, Bool.true_and, Bool.and_true, Bool.and_eq_true, decide_eq_true_eq]
   exact ⟨log_ofB hr.s0 hr.s, log_ofB hr.e0 hr.e⟩
  have e3 : PyData.hasDict (rowE r) = false := rfl
  have e4 : PyData.bulk (rowE r) ≤ 11 := by
   unfold rowE
   simp only [PyData.bulk, PyData.bulkAll]
   omega
  rw [List.map_cons, PyData.leavesShortAll, PyData.showableAll, PyData.hasDictAll, PyData.bulkAll, e1, e2, e3, b1, b2, b3, List.length_cons]
  exact ⟨rfl, rfl, rfl, by omega⟩
def toldD (n : Int) (rs : List Trip) : PyData := .list [.int n, .tuple (rs.map rowE)]
theorem q_reprTold {n : Int} {rs : List Trip} {P : PV → Prop} (n1 : 1 ≤ n) (n2 : n ≤ 20) (hw : Rw rs) (hn : NearB rs) (h : P (.str (toldD n rs).shown)) : rRepr [.lst [.int n, rowsP rs]] P := by
 have hs := rw_shortB hw hn
 obtain ⟨a1, a2, a3, a4⟩ := rowsB_facts hs (rw_good hw)
 have d1 := depth_rows rs
 have hl := hw.len
 have h20 : (20 : Int) < 10 ^ 60 := by decide
 refine ⟨toldD n rs, ?_, ?_, ?_, ?_, fit_shown (n := 400) ?_ ?_ (by decide), h⟩
 ·unfold toldD
  rw [toD, toDs, toDs, toDs, toD_rows]; rfl
 ·unfold toldD
  simp only [PyData.showable, PyData.showableAll, a2, Bool.and_true, decide_eq_true_eq]
  exact log_of60 (by omega) (by omega)
 ·unfold toldD
  simp only [PyData.hasDict, PyData.hasDictAll, a3]
  rfl
 ·unfold toldD
  simp only [PyData.depth, PyData.depthAll]
  omega
 ·unfold toldD
  have i1 : PyData.leavesShort 1921 (.int n) = true := by
   rw [PyData.leavesShort]
   refine decide_eq_true ?_
   rw [PyData.shown_int]
   have := int_short (i := n) (by omega) (by omega)
   omega
  rw [PyData.leavesShort, PyData.leavesShortAll, i1, PyData.leavesShortAll, PyData.leavesShort, a1]
  rfl
 ·unfold toldD
  simp only [PyData.bulk, PyData.bulkAll]
  omega
theorem w_caught {K : PySem.W.Frag} {cs : List Value} {ret : Str} {te : TXp} {tsu : Addr → Value → Option Addr → TSp} {η : EP'} {P : PV → EP' → Prop} (h : te (noOwn η) (fun x _ => P (.lst [.str ret, x]) η) fun C fs _ => PySem.W.exmAny K (.ref C) cs = some true ∧
 ∀ (f a : Addr) (d : Option Addr), (fs = [] ∨ d.isSome) → tsu a (.ref C) d { nx := fun _ => P .non η, rt := fun y _ => P y η } (ηZ f a d fs)) : tCaughtP K cs ret te tsu η P := h
theorem w_cmetX {C : Addr} {sp : SpX} {ta : TEp} {t : TAp} {η : EP'} {P : PV → EP' → Prop} {Zw : WZ} (h : ta η fun x η1 => x = .raw (.ref C) ∧ t η1 fun args η2 => sp (.raw (.ref C) :: args) (fun z => P z η2) fun C' fs => Zw C' fs η2) : tCMetX C sp ta t η P Zw := h
theorem isi_line {K : PySem.W.Frag} {C : Addr} {n : Int} {rs : List Trip} {Q : PV → Prop} (hC : ClsT K C) (h : Q (.bl true)) : rIsI K [lineP C n rs, .raw (.ref C)] Q := ⟨rfl, hC, h⟩
section
variable {K : PySem.W.Frag} {C : Addr} {XC : Str → Addr} {args : List PV} {P : PV → Prop} {PR : PV → Ow → Prop} {o : Ow}
theorem rd_law_text_right (h : sp_law_text_right K C XC args P) : ts_law_text_right K C XC { nx := fun _ => P .non, rt := fun x _ => P x } (startP 3 args) := by
 obtain ⟨row, rfl, hC, tf, tx, hp⟩ := h
 have e : startP 3 [.str row] = [.va (.str row), .no, .no] := rfl
 rw [e]
 have hl := tx.l
 refine w_seq (w_par (w_arV (w_caught (w_cmetX (w_con ⟨rfl, w_cons (w_var (x := .str row) rfl (w_nil ⟨row, rfl, tf.rd, by omega, fun w hw => by have := tx.w w hw; omega, fun n rs h1 h2 n1 n2 hw => ?_, fun hb => ⟨tf.ex, fun f a d hd => ?_⟩⟩))⟩)))))
 ·have hr : ReadL row n rs := ⟨h1, h2, n1, n2, hw⟩
  have hn := read_near tx hr
  refine w_arV (w_call (w_cons (w_var (x := .str row) rfl (w_nil ⟨row, rfl, tx, fun n' rs' h' => ?_, fun hb => absurd hb (read_notbad hr)⟩))))
  obtain ⟨rfl, rfl⟩ := read_uniq hr h'
  refine w_arN ⟨rfl, trivial, ?_⟩
  simp only [storesP, List.set_cons_zero, List.set_cons_succ]
  have td : toD (.lst [.int n', rowsP rs']) = some (toldD n' rs') := by
   unfold toldD
   rw [toD, toDs, toDs, toDs, toD_rows]; rfl
  have sd : SeqAt.shaped (toldD n' rs') = true := by
   have h1 := shaped_rows (rw_good hw)
   have h2 := depth_rows rs'
   unfold SeqAt.shaped at h1 ⊢
   rw [Bool.and_eq_true] at h1
   unfold toldD
   rw [PyData.canLay0, PyData.canLayAll0, PyData.canLayAll0, PyData.canLayAll0, h1.1]
   refine decide_eq_true ?_
   simp only [PyData.depth, PyData.depthAll]
   omega
  refine w_seq (w_if (w_bl (w_op (w_var (x := .lst [.int n', rowsP rs']) rfl (w_lst (w_nil ⟨Nat.zero_le _, ⟨_, .list [], td, rfl, sd, rfl, ?_⟩⟩))))))
  have ef : PyData.eqv (toldD n' rs') (.list []) = false := by
   unfold toldD
   rw [PyData.eqv]
   simp [PyData.eqvAll]
  rw [ef]
  refine q_iteF (w_next ?_)
  dsimp only
  refine w_seq (w_if (w_or (w_bl (w_op (w_op (w_var (x := .lst [.str ("returned" : Str), lineP C n' rs']) rfl (w_con (q_ix (x := .str ("returned" : Str)) rfl (w_con (q_neS0 ?_))))))))))
  rw [decide_eq_true rfl]
  refine q_iteF (w_not (w_bl (w_cb (w_cons (w_op (w_var (x := .lst [.str ("returned" : Str), lineP C n' rs']) rfl (w_con (q_ix (x := lineP C n' rs') rfl (w_cons (w_con (w_nil (isi_line hC (q_iteF (w_next ?_))))))))))))))
  dsimp only
  refine w_ret (w_andV (w_op (w_cb (w_cons (w_lst (w_cons (w_prop' (w_op (w_var (x := .lst [.str ("returned" : Str), lineP C n' rs']) rfl (w_con (q_ix (x := lineP C n' rs') rfl ⟨⟨_, rfl⟩, n', rs', rfl, ?_⟩)))))))))))
  refine w_cons (w_prop' (w_op (w_var (x := .lst [.str ("returned" : Str), lineP C n' rs']) rfl (w_con (q_ix (x := lineP C n' rs') rfl ⟨⟨_, rfl⟩, n', rs', rfl, w_nil ⟨sz2, w_nil (q_reprTold n1 n2 hw hn ?_)⟩⟩)))))
  refine w_cb (w_cons (w_var (x := .lst [.int n', rowsP rs']) rfl (w_nil (q_reprTold n1 n2 hw hn (q_eqS0 ?_)))))
  rw [decide_eq_true rfl]
  refine w_op (w_strO (w_cons (w_op (w_var (x := .lst [.str ("returned" : Str), lineP C n' rs']) rfl (w_con (q_ix (x := lineP C n' rs') rfl (w_nil ⟨_, rfl, n', rs', rfl, n1, n2, hw, hn, ⟨_, rfl⟩, ?_⟩)))))))
  rw [read_text hr]
  refine w_var (x := .str row) rfl (q_eqS0 ?_)
  rw [decide_eq_true rfl]
  exact hp
 ·refine caught_ok tf.kd (.inl ⟨("text" : Str), .str row, rfl, rfl, rfl, tf.xf, hd.resolve_left (by simp)⟩) (by show 1 ≤ 1000; decide) fun _ => ?_
  dsimp only
  have kw : kindW 9 = ("text" : Str) := rfl
  rw [kw]
  refine w_arV (w_call (w_cons (w_var (x := .str row) rfl (w_nil ⟨row, rfl, tx, fun n rs h => absurd hb (read_notbad h), fun _ => ?_⟩))))
  refine w_arN ⟨rfl, trivial, ?_⟩
  simp only [storesP, List.set_cons_zero, List.set_cons_succ]
  refine w_seq (w_if (w_bl (w_op (w_var (x := .lst []) rfl (w_lst (w_nil ⟨Nat.zero_le _, q_eqSame (d := .list []) rfl rfl (q_iteT ?_)⟩))))))
  refine w_ret (w_op (w_cb (w_cons (w_var (x := .lst [.str ("text" : Str), .str row]) rfl (w_nil (q_reprSaid tx ?_))))))
  refine w_cb (w_cons (w_lst (w_cons (w_con (w_cons (w_var (x := .str row) rfl (w_nil ⟨sz2, w_nil (q_reprSaid tx (q_eqS0 ?_))⟩)))))))
  rw [decide_eq_true rfl]
  exact hp
end
theorem w_revX {te : TEp} {η : EP'} {Q : PV → EP' → Prop} (h : te η fun x η1 => match x with
 | .lst xs => Q (.lst xs.reverse) η1
 | _ => False) : tRevLP te η Q := h
def RunsI (m : Nat) (l : List Nat) : Prop := ∀ i k, i + k ≤ l.length → (∀ j, i ≤ j → j < i + k → l[j]? ≠ some 32) → k ≤ m
theorem runs_mono {m n : Nat} {l : List Nat} (h : RunsI m l) (hm : m ≤ n) : RunsI n l := fun i k h1 h2 => Nat.le_trans (h i k h1 h2) hm
theorem runs_short {m : Nat} {l : List Nat} (h : l.length ≤ m) : RunsI m l := fun i k h1 _ => by omega
theorem runs_cat {m : Nat} {a b : List Nat} (ha : RunsI m a) (hb : RunsI m b) : RunsI m (a ++ 32 :: b) := fun i k h1 h2 => by
 rw [List.length_append, List.length_cons] at h1
 by_cases c1 : i + k ≤ a.length
 ·refine ha i k c1 fun j q1 q2 => ?_
  have := h2 j q1 q2
  rwa [List.getElem?_append_left (by omega)] at this
 ·by_cases c2 : a.length < i
  ·refine hb (i - a.length - 1) k (by omega) fun j q1 q2 => ?_
   have := h2 (j + a.length + 1) (by omega) (by omega)
   rw [List.getElem?_append_right (by omega)] at this
   have e : j + a.length + 1 - a.length = j + 1 := by omega
   rw [e] at this
   exact this
  ·exfalso
   have := h2 a.length (by omega) (by omega)
   rw [List.getElem?_append_right (Nat.le_refl _), Nat.sub_self] at this
   exact this rfl
theorem runs_del {m : Nat} {a b : List Nat} {c : Nat} (h : RunsI m (a ++ c :: b)) : RunsI (2 * m) (a ++ b) := fun i k h1 h2 => by
 rw [List.length_append] at h1
 have hl : (a ++ c :: b).length = a.length + b.length + 1 := by rw [List.length_append, List.length_cons]; omega
 have left : ∀ i k, i + k ≤ a.length → (∀ j, i ≤ j → j < i + k → (a ++ b)[j]? ≠ some 32) → k ≤ m := fun i k q h' => by
  refine h i k (by omega) fun j q1 q2 => ?_
  have := h' j q1 q2
  rw [List.getElem?_append_left (by omega)] at this ⊢
  exact this
 have right : ∀ i k, a.length ≤ i → i + k ≤ a.length + b.length → (∀ j, i ≤ j → j < i + k → (a ++ b)[j]? ≠ some 32) → k ≤ m := fun i k q q2 h' => by
  refine h (i + 1) k (by omega) fun j q1 q3 => ?_
  have := h' (j - 1) (by omega) (by omega)
  rw [List.getElem?_append_right (by omega)] at this ⊢
  have e : j - a.length = (j - 1 - a.length) + 1 := by omega
  rw [e]
  exact this
 by_cases c1 : i + k ≤ a.length
 ·have := left i k c1 h2; omega
 ·by_cases c2 : a.length ≤ i
  ·have := right i k c2 h1 h2; omega
  ·have := left i (a.length - i) (by omega) fun j q1 q2 => h2 j q1 (by omega)
   have := right a.length (i + k - a.length) (Nat.le_refl _) (by omega) fun j q1 q2 => h2 j (by omega) (by omega)
   omega
theorem runs_ins {m : Nat} {a b : List Nat} {c : Nat} (h : RunsI m (a ++ b)) : RunsI (2 * m + 1) (a ++ c :: b) := fun i k h1 h2 => by
 have hl : (a ++ c :: b).length = a.length + b.length + 1 := by rw [List.length_append, List.length_cons]; omega
 rw [hl] at h1
 have left : ∀ i k, i + k ≤ a.length → (∀ j, i ≤ j → j < i + k → (a ++ c :: b)[j]? ≠ some 32) → k ≤ m := fun i k q h' => by
  refine h i k (by rw [List.length_append]; omega) fun j q1 q2 => ?_
  have := h' j q1 q2
  rw [List.getElem?_append_left (by omega)] at this ⊢
  exact this
 have right : ∀ i k, a.length < i → i + k ≤ a.length + b.length + 1 → (∀ j, i ≤ j → j < i + k → (a ++ c :: b)[j]? ≠ some 32) → k ≤ m := fun i k q q2 h' => by
  refine h (i - 1) k (by rw [List.length_append]; omega) fun j q1 q3 => ?_
  have := h' (j + 1) (by omega) (by omega)
  rw [List.getElem?_append_right (by omega)] at this ⊢
  have e : j + 1 - a.length = (j - a.length) + 1 := by omega
  rw [e] at this
  exact this
 by_cases c1 : i + k ≤ a.length
 ·have := left i k c1 h2; omega
 ·by_cases c2 : a.length < i
  ·have := right i k c2 h1 h2; omega
  ·have := left i (a.length - i) (by omega) fun j q1 q2 => h2 j q1 (by omega)
   have := right (a.length + 1) (i + k - a.length - 1) (Nat.lt_succ_self _) (by omega) fun j q1 q2 => h2 j (by omega) (by omega)
   omega
theorem spl_infix (s : Nat) : ∀ (l acc : List Nat), s ∉ acc → ∀ p ∈ TL.spl [s] 0 acc l, s ∉ p ∧ ∃ x z, acc ++ l = x ++ p ++ z
 | [], acc, ha, p, hp => by
  rw [TL.spl_nil] at hp
  rw [List.mem_singleton.mp hp]
  exact ⟨ha, [], [], by simp⟩
 | c :: l, acc, ha, p, hp => by
  rw [spl_one] at hp
  split at hp
  ·rcases List.mem_cons.mp hp with rfl | hp
   ·exact ⟨ha, [], c :: l, by simp⟩
   ·obtain ⟨h1, x, z, e⟩ := spl_infix s l [] List.not_mem_nil p hp
    rw [List.nil_append] at e
    exact ⟨h1, acc ++ c :: x, z, by rw [e]; simp⟩
  ·rename_i hc
   obtain ⟨h1, x, z, e⟩ := spl_infix s l (acc ++ [c]) (fun q => by
    rcases List.mem_append.mp q with q | q
    ·exact ha q
    ·exact hc (List.mem_singleton.mp q).symm) p hp
   exact ⟨h1, x, z, by rw [← e]; simp⟩
theorem words_of_runs {m : Nat} {row : Str} (h : RunsI m (TL.tl row)) : ∀ w ∈ wordsW row, w.length ≤ m := fun w hw => by
 have hm : TL.tl w ∈ TL.spl [32] 0 [] (TL.tl row) := by rw [← words_tl]; exact List.mem_map.mpr ⟨w, hw, rfl⟩
 obtain ⟨h1, x, z, e⟩ := spl_infix 32 _ [] List.not_mem_nil _ hm
 rw [List.nil_append] at e
 have el := congrArg List.length e
 rw [List.length_append, List.length_append] at el
 rw [TL.len_tl]
 refine h x.length _ (by omega) fun j q1 q2 q => ?_
 rw [e, List.getElem?_append_left (by rw [List.length_append]; omega), List.getElem?_append_right q1] at q
 exact h1 (List.mem_of_getElem? q)
theorem runs_join {m : Nat} : ∀ ps : List (List Nat), (∀ p ∈ ps, p.length ≤ m) → RunsI m (TL.joinL [32] ps)
 | [], _ => runs_short (Nat.zero_le _)
 | [p], h => runs_short (h p List.mem_cons_self)
 | p :: q :: r, h => runs_cat (runs_short (h p List.mem_cons_self)) (runs_join (q :: r) fun x hx => h x (List.mem_cons_of_mem _ hx))
theorem runs_of_words {m : Nat} {row : Str} (h : ∀ w ∈ wordsW row, w.length ≤ m) : RunsI m (TL.tl row) := by
 have e := row_join row
 rw [← e, TL.join_eq, TL.tl_join, ey_space]
 refine runs_join _ fun p hp => ?_
 obtain ⟨w, hw, rfl⟩ := List.mem_map.mp hp
 rw [← TL.len_tl]
 exact h w hw
theorem int_short40 {i : Int} (h0 : 0 ≤ i) (h : i < 10 ^ 40) : ((toString i : String) : Str).length ≤ 41 := by
 have e := int_text_length_le10 (a := i) (k := 40) (by decide) (by
  obtain ⟨n, rfl⟩ := Int.eq_ofNat_of_zero_le h0
  have : n < 10 ^ 40 := by omega
  exact this)
 rw [PySem.ofString_length]
 exact e
theorem tl_int {i : Int} (h0 : 0 ≤ i) : ∃ m : Nat, TL.tl ((toString i : String) : Str) = TL.numL m := by
 obtain ⟨n, rfl⟩ := Int.eq_ofNat_of_zero_le h0
 exact ⟨n, TL.tl_num n⟩
theorem abc_range {c : Nat} (h : c ∈ abc.cps.toList) : 97 ≤ c ∧ c ≤ 122 := by
 have e : abc.cps.toList = (List.range 26).map (· + 97) := by decide +kernel
 rw [e] at h
 obtain ⟨k, hk, rfl⟩ := List.mem_map.mp h
 have := List.mem_range.mp hk
 omega
theorem nm_chars {w : Str} (h : isNm (.str w) = true) : ∀ c ∈ TL.tl w, 97 ≤ c ∧ c ≤ 122 := fun c hc => by
 have e : (decide (1 ≤ w.length) && (decide (w.length ≤ 8) && w.cps.toList.all fun c => decide (c ∈ abc.cps.toList))) = true := h
 exact abc_range (of_decide_eq_true (List.all_eq_true.mp (Bool.and_eq_true_iff.mp (Bool.and_eq_true_iff.mp e).2).2 c hc))
theorem tl_row (r : Trip) : TL.tl (rowS r) = TL.tl r.1 ++ [58] ++ TL.tl ((toString r.2.1 : String) : Str) ++ [45] ++ TL.tl ((toString r.2.2 : String) : Str) := by
 rw [← rowS_eq]
 simp only [TL.tl_append, ey_colon, ey_dash]
theorem row_chars {r : Trip} (h1 : isNm (.str r.1) = true) (h2 : 0 ≤ r.2.1) (h3 : 0 ≤ r.2.2) : ∀ c ∈ TL.tl (rowS r), 45 ≤ c ∧ c ≤ 122 := fun c hc => by
 obtain ⟨a, ea⟩ := tl_int h2
 obtain ⟨b, eb⟩ := tl_int h3
 rw [tl_row, ea, eb] at hc
 simp only [List.mem_append, List.mem_singleton] at hc
 rcases hc with (((z | z) | z) | z) | z
 ·have := nm_chars h1 c z; omega
 ·omega
 ·have := TL.numL_digits a c z; omega
 ·omega
 ·have := TL.numL_digits b c z; omega
theorem row_len40 {r : Trip} (h1 : isNm (.str r.1) = true) (h2 : 0 ≤ r.2.1) (h3 : r.2.1 < r.2.2) (h4 : r.2.2 < 10 ^ 40) : (rowS r).length ≤ 92 := by
 have b1 := int_short40 h2 (by omega)
 have b2 := int_short40 (i := r.2.2) (by omega) h4
 have e : (decide (1 ≤ r.1.length) && (decide (r.1.length ≤ 8) && r.1.cps.toList.all fun c => decide (c ∈ abc.cps.toList))) = true := h1
 have l := of_decide_eq_true (Bool.and_eq_true_iff.mp (Bool.and_eq_true_iff.mp e).2).1
 rw [TL.len_tl] at b1 b2 l ⊢
 rw [tl_row]
 simp only [List.length_append, List.length_singleton]
 omega
structure Base (row : Str) : Prop where
 l : row.length ≤ 3000
 r : RunsI 92 (TL.tl row)
 a : ∀ c ∈ TL.tl row, 10 ≤ c ∧ c < 127
theorem words_textS {n : Int} {rs : List Trip} (n1 : 1 ≤ n) (hw : Rw rs) : wordsW (textS n rs) = ((toString n : String) : Str) :: rs.map rowS := by
 refine TL.split_join ey_space (by decide +kernel) (by simp) fun p hp => ?_
 rcases List.mem_cons.mp hp with rfl | hp
 ·obtain ⟨m, e⟩ := tl_int (i := n) (by omega)
  rw [e]
  exact TL.numL_free (by decide)
 ·obtain ⟨r, hr, rfl⟩ := List.mem_map.mp hp
  obtain ⟨h1, h2, h3⟩ := hw.each r hr
  intro z
  have := row_chars h1 h2 (by omega) 32 z
  omega
theorem base_text {n : Int} {rs : List Trip} (n1 : 1 ≤ n) (n2 : n ≤ 20) (hw : Rw rs) (hn : ∀ r ∈ rs, r.2.2 < 10 ^ 40) : Base (textS n rs) := by
 have b0 := int_short40 (i := n) (by omega) (by have : (20 : Int) < 10 ^ 40 := by decide
                                                omega)
 have hs : ∀ y ∈ ((toString n : String) : Str) :: rs.map rowS, y.length ≤ 92 := fun y hy => by
  rcases List.mem_cons.mp hy with rfl | hy
  ·omega
  ·obtain ⟨r, hr, rfl⟩ := List.mem_map.mp hy
   obtain ⟨h1, h2, h3⟩ := hw.each r hr
   exact row_len40 h1 h2 h3 (hn r hr)
 have hl := hw.len
 refine ⟨?_, runs_of_words (by rw [words_textS n1 hw]; exact hs), fun c hc => ?_⟩
 ·unfold textS
  rw [TL.join_eq]
  have := joined_len (m := 92) (k := 1) (sep := ((" " : String) : Str)) rfl hs
  rw [List.length_cons, List.length_map] at this
  omega
 ·unfold textS at hc
  rw [TL.join_eq, TL.tl_join] at hc
  have all : ∀ (ps : List (List Nat)), (∀ p ∈ ps, ∀ c ∈ p, 10 ≤ c ∧ c < 127) → ∀ c ∈ TL.joinL [32] ps, 10 ≤ c ∧ c < 127 := fun ps => by
   induction ps with
   | nil => intro _ c hc; exact absurd hc List.not_mem_nil
   | cons p ps ih =>
    intro h c hc
    by_cases e : ps = []
    ·subst e
     exact h p List.mem_cons_self c hc
    ·rw [joinL_cons e] at hc
     simp only [List.mem_append, List.mem_singleton] at hc
     rcases hc with z | z | z
     ·exact h p List.mem_cons_self c z
     ·omega
     ·exact ih (fun q hq => h q (List.mem_cons_of_mem _ hq)) c z
  have es : TL.tl ((" " : String) : Str) = [32] := ey_space
  rw [es] at hc
  refine all _ (fun p hp c hc => ?_) c hc
  obtain ⟨y, hy, rfl⟩ := List.mem_map.mp hp
  rcases List.mem_cons.mp hy with rfl | hy
  ·obtain ⟨m, e⟩ := tl_int (i := n) (by omega)
   rw [e] at hc
   have := TL.numL_digits m c hc
   omega
  ·obtain ⟨r, hr, rfl⟩ := List.mem_map.mp hy
   obtain ⟨h1, h2, h3⟩ := hw.each r hr
   have := row_chars h1 h2 (by omega) c hc
   omega
theorem trip_back {r : Trip} (h1 : isNm (.str r.1) = true) (h2 : 0 ≤ r.2.1) (h3 : 0 ≤ r.2.2) : tripW (rowS r) = rowP r := by
 obtain ⟨a, ea⟩ := tl_int h2
 have e1 : rowS r = r.1 ++ (":" : Str) ++ (((toString r.2.1 : String) : Str) ++ ("-" : Str) ++ ((toString r.2.2 : String) : Str)) := by
  rw [← rowS_eq]; simp only [app_assoc]
 have p1 : Txt.partition (rowS r) (":" : Str) = (r.1, (":" : Str), ((toString r.2.1 : String) : Str) ++ ("-" : Str) ++ ((toString r.2.2 : String) : Str)) := by
  rw [e1]
  exact TL.partition_app ey_colon fun z => by have := nm_chars h1 58 z; omega
 have p2 : Txt.partition (((toString r.2.1 : String) : Str) ++ ("-" : Str) ++ ((toString r.2.2 : String) : Str)) ("-" : Str) = (((toString r.2.1 : String) : Str), ("-" : Str), ((toString r.2.2 : String) : Str)) :=
  TL.partition_app ey_dash (by rw [ea]; exact TL.numL_free (by decide))
 unfold tripW partN partS partE
 rw [p1]
 dsimp only
 rw [p2]
 dsimp only
 rw [num_back h2, num_back h3]
 rfl
theorem read_back {n : Int} {rs : List Trip} (n1 : 1 ≤ n) (n2 : n ≤ 20) (hw : Rw rs) : ReadL (textS n rs) n rs := by
 have e := words_textS n1 hw
 refine ⟨?_, ?_, n1, n2, hw⟩
 ·rw [e]
  exact num_back (by omega)
 ·rw [e]
  show (rs.map rowS).map tripW = rs.map rowP
  rw [List.map_map]
  refine List.map_congr_left fun r hr => ?_
  obtain ⟨h1, h2, h3⟩ := hw.each r hr
  exact trip_back h1 h2 (by omega)
theorem tx_of {row : Str} {m : Nat} (hl : row.length ≤ 60000) (hm : m ≤ 500) (h : RunsI m (TL.tl row)) (ha : ∀ c ∈ TL.tl row, 10 ≤ c ∧ c < 127) : TxOk row := ⟨hl, words_of_runs (runs_mono h hm), ha⟩
theorem cut_head {s : Str} {k : Nat} : TL.tl (cutS s none (some (k : Int))) = (TL.tl s).take k := by
 unfold cutS
 rw [HT.sIx_nat, HT.sIx_none, TL.len_tl]
 show ((((TL.tl s).drop 0).take (min k (TL.tl s).length - 0)).toArray).toList = _
 rw [List.drop_zero, Nat.sub_zero, List.toList_toArray]
 rcases Nat.le_total k (TL.tl s).length with h | h
 ·rw [Nat.min_eq_left h]
 ·rw [Nat.min_eq_right h, List.take_of_length_le (Nat.le_refl _), List.take_of_length_le h]
theorem cut_tail {s : Str} {k : Nat} : TL.tl (cutS s (some (k : Int)) none) = (TL.tl s).drop k := by
 unfold cutS
 rw [HT.sIx_nat, HT.sIx_none, TL.len_tl]
 show ((((TL.tl s).drop (min k (TL.tl s).length)).take ((TL.tl s).length - min k (TL.tl s).length)).toArray).toList = _
 rw [List.toList_toArray]
 rcases Nat.le_total k (TL.tl s).length with h | h
 ·rw [Nat.min_eq_left h, List.take_of_length_le (by rw [List.length_drop]; omega)]
 ·rw [Nat.min_eq_right h, List.drop_of_length_le (Nat.le_refl _), List.drop_of_length_le h, List.take_nil]
theorem okT {row : Str} {l : List Nat} (e : TL.tl row = l) {m : Nat} (hl : l.length ≤ 60000) (hm : m ≤ 500) (h : RunsI m l) (ha : ∀ c ∈ l, 10 ≤ c ∧ c < 127) : TxOk row := by
 subst e
 exact tx_of (by rw [TL.len_tl]; exact hl) hm h ha
theorem chars_app {a b : List Nat} (ha : ∀ c ∈ a, 10 ≤ c ∧ c < 127) (hb : ∀ c ∈ b, 10 ≤ c ∧ c < 127) : ∀ c ∈ a ++ b, 10 ≤ c ∧ c < 127 := fun c hc => (List.mem_append.mp hc).elim (ha c) (hb c)
theorem chars_one {c : Nat} (h : 10 ≤ c ∧ c < 127) : ∀ x ∈ [c], 10 ≤ x ∧ x < 127 := fun x hx => by rw [List.mem_singleton.mp hx]; exact h
theorem del_tail {m k : Nat} {l : List Nat} (h : RunsI m l) : RunsI (2 * m) (l.take k ++ l.drop (k + 1)) := by
 rcases Nat.lt_or_ge k l.length with c | c
 ·have e : l = l.take k ++ l[k] :: l.drop (k + 1) := by rw [← List.drop_eq_getElem_cons c, List.take_append_drop]
  have h2 := h
  rw [e] at h2
  exact runs_del h2
 ·rw [List.take_of_length_le c, List.drop_of_length_le (by omega), List.append_nil]
  exact runs_mono h (by omega)
theorem b_ins {row : Str} {p c : Nat} (hb : Base row) (hc : 10 ≤ c ∧ c < 127) {x : Str} (e : TL.tl x = (TL.tl row).take p ++ ([c] ++ (TL.tl row).drop p)) : TxOk x := by
 have hl := hb.l
 rw [TL.len_tl] at hl
 refine okT e (m := 185) ?_ (by decide) ?_ (chars_app (fun c h => hb.a c (List.mem_of_mem_take h)) (chars_app (chars_one hc) fun c h => hb.a c (List.mem_of_mem_drop h)))
 ·simp only [List.length_append, List.length_take, List.length_drop, List.length_singleton]; omega
 ·have h2 := hb.r
  rw [← List.take_append_drop p (TL.tl row)] at h2
  exact runs_ins (m := 92) h2
theorem b_set {row : Str} {p c : Nat} (hb : Base row) (hc : 10 ≤ c ∧ c < 127) {x : Str} (e : TL.tl x = (TL.tl row).take p ++ ([c] ++ (TL.tl row).drop (p + 1))) : TxOk x := by
 have hl := hb.l
 rw [TL.len_tl] at hl
 refine okT e (m := 369) ?_ (by decide) ?_ (chars_app (fun c h => hb.a c (List.mem_of_mem_take h)) (chars_app (chars_one hc) fun c h => hb.a c (List.mem_of_mem_drop h)))
 ·simp only [List.length_append, List.length_take, List.length_drop, List.length_singleton]; omega
 ·exact runs_ins (m := 184) (del_tail hb.r)
theorem b_del {row : Str} {p : Nat} (hb : Base row) {x : Str} (e : TL.tl x = (TL.tl row).take p ++ (TL.tl row).drop (p + 1)) : TxOk x := by
 have hl := hb.l
 rw [TL.len_tl] at hl
 refine okT e (m := 184) ?_ (by decide) (del_tail hb.r) (chars_app (fun c h => hb.a c (List.mem_of_mem_take h)) fun c h => hb.a c (List.mem_of_mem_drop h))
 simp only [List.length_append, List.length_take, List.length_drop]; omega
theorem b_two {row : Str} (hb : Base row) {x : Str} (e : TL.tl x = TL.tl row ++ ([32] ++ TL.tl row)) : TxOk x := by
 have hl := hb.l
 rw [TL.len_tl] at hl
 refine okT e (m := 92) ?_ (by decide) (runs_cat hb.r hb.r) (chars_app hb.a (chars_app (chars_one (by decide)) hb.a))
 simp only [List.length_append, List.length_singleton]; omega
theorem b_zero {row : Str} (hb : Base row) {x : Str} (e : TL.tl x = [48] ++ TL.tl row) : TxOk x := by
 have hl := hb.l
 rw [TL.len_tl] at hl
 refine okT e (m := 185) ?_ (by decide) (runs_ins (m := 92) (a := []) hb.r) (chars_app (chars_one (by decide)) hb.a)
 simp only [List.length_append, List.length_singleton]; omega
theorem b_one {row : Str} (hb : Base row) {x : Str} (e : TL.tl x = (TL.tl row).drop 1) : TxOk x := b_del (p := 0) hb (by rw [e]; rfl)
theorem b_nl {row : Str} (hb : Base row) {x : Str} (e : TL.tl x = TL.tl row ++ [10]) : TxOk x := by
 have hl := hb.l
 rw [TL.len_tl] at hl
 refine okT e (m := 185) ?_ (by decide) (runs_ins (m := 92) (b := []) (by rw [List.append_nil]; exact hb.r)) (chars_app hb.a (chars_one (by decide)))
 simp only [List.length_append, List.length_singleton]; omega
theorem chars_join : ∀ (ps : List (List Nat)), (∀ p ∈ ps, ∀ c ∈ p, 10 ≤ c ∧ c < 127) → ∀ c ∈ TL.joinL [32] ps, 10 ≤ c ∧ c < 127 := fun ps => by
 induction ps with
 | nil => intro _ c hc; exact absurd hc List.not_mem_nil
 | cons p ps ih =>
  intro h c hc
  by_cases e : ps = []
  ·subst e
   exact h p List.mem_cons_self c hc
  ·rw [joinL_cons e] at hc
   simp only [List.mem_append, List.mem_singleton] at hc
   rcases hc with z | z | z
   ·exact h p List.mem_cons_self c z
   ·omega
   ·exact ih (fun q hq => h q (List.mem_cons_of_mem _ hq)) c z
theorem words_chars {row w : Str} (hw : w ∈ wordsW row) {c : Nat} (hc : c ∈ TL.tl w) : c ∈ TL.tl row := by
 have hm : TL.tl w ∈ TL.spl [32] 0 [] (TL.tl row) := by rw [← words_tl]; exact List.mem_map.mpr ⟨w, hw, rfl⟩
 obtain ⟨h1, x, z, e⟩ := spl_infix 32 _ [] List.not_mem_nil _ hm
 rw [List.nil_append] at e
 rw [e]
 exact List.mem_append_left _ (List.mem_append_right _ hc)
theorem b_rev {n : Int} {rs : List Trip} (n1 : 1 ≤ n) (n2 : n ≤ 20) (hw : Rw rs) (hn : ∀ r ∈ rs, r.2.2 < 10 ^ 40) : TxOk (Txt.join (" " : Str) (wordsW (textS n rs)).reverse) := by
 have hb := base_text n1 n2 hw hn
 have hs : ∀ w ∈ (wordsW (textS n rs)).reverse, w.length ≤ 92 := fun w hwm => words_of_runs hb.r w (List.mem_reverse.mp hwm)
 have hlen : (wordsW (textS n rs)).reverse.length ≤ 25 := by
  have := hw.len
  rw [List.length_reverse, words_textS n1 hw, List.length_cons, List.length_map]; omega
 have hl := joined_len (m := 92) (k := 1) (sep := ((" " : String) : Str)) rfl hs
 rw [← TL.join_eq] at hl
 refine ⟨?_, ?_, ?_⟩
 ·refine Nat.le_trans hl ?_
  have : (92 + 1) * (wordsW (textS n rs)).reverse.length ≤ 93 * 25 := Nat.mul_le_mul (Nat.le_refl _) hlen
  omega
 ·refine fun w h => Nat.le_trans (words_of_runs (m := 92) ?_ w h) (by decide)
  rw [TL.join_eq, TL.tl_join, show TL.tl (" " : Str) = [32] from ey_space]
  refine runs_join _ fun p hp => ?_
  obtain ⟨w, hwm, rfl⟩ := List.mem_map.mp hp
  rw [← TL.len_tl]
  exact hs w hwm
 ·rw [show (Txt.join (" " : Str) (wordsW (textS n rs)).reverse).cps.toList = TL.tl (Txt.join (" " : Str) (wordsW (textS n rs)).reverse) from rfl, TL.join_eq, TL.tl_join, show TL.tl (" " : Str) = [32] from ey_space]
  refine chars_join _ fun p hp c hc => ?_
  obtain ⟨w, hwm, rfl⟩ := List.mem_map.mp hp
  exact hb.a c (words_chars (List.mem_reverse.mp hwm) hc)
def signS : Str := (" :-0123456789abzAZ,.+\n" : Str)
theorem sign_in : ∀ j < 22, 10 ≤ signS.cps.toList.getD j 0 ∧ signS.cps.toList.getD j 0 < 127 := by decide +kernel
section
variable {K : PySem.W.Frag} {C : Addr} {XC : Str → Addr} {args : List PV} {P : PV → Prop} {PR : PV → Ow → Prop} {o : Ow}
theorem rd_law_bent (h : sp_law_bent K C o args PR) : ts_law_bent K C { nx := fun η' => ∃ o', η'[0]? = some (Sl.ow o') ∧ PR .non o', rt := fun x η' => ∃ o', η'[0]? = some (Sl.ow o') ∧ PR x o' } (startR 6 o args) := by
 obtain ⟨n, rs, po, rfl, n1, n2, hw, hn, hp⟩ := h
 have hb := base_text n1 n2 hw hn
 have htr := b_rev n1 n2 hw hn
 have hwl : (wordsW (textS n rs)).length ≤ 25 := by
  have := hw.len
  rw [words_textS n1 hw, List.length_cons, List.length_map]; omega
 have hw92 : ∀ w ∈ (wordsW (textS n rs)).reverse, w.length ≤ 92 := fun w hwm => words_of_runs hb.r w (List.mem_reverse.mp hwm)
 generalize textS n rs = row at *
 have e : startR 6 o [.str row] = [.ow o, .va (.str row), .no, .no, .no, .no] := rfl
 rw [e]
 have hl := hb.l
 have sz : 16777216 ≤ sizeLine := by decide
 have z4 : 4 ≤ sizeLine := by decide
 have z8 : 8 ≤ sizeLine := by decide
 refine w_seq (w_par (w_arV (w_callR rfl (w_cons (w_op (w_cb (w_cons (w_var (x := .str row) rfl (w_nil (q_lenS (by omega) (w_con (q_add (w_nil (q_callM rfl ?_))))))))))))))
 refine ⟨_, po, rfl, by omega, ?_, fun o1 pI p1 pi0 pi1 => ?_⟩
 ·have : (3001 : Int) < 10 ^ 40 := by decide +kernel
  omega
 obtain ⟨p, rfl⟩ := Int.eq_ofNat_of_zero_le pi0
 simp only [List.set_cons_zero, List.set_cons_succ]
 refine w_arV (q_draw rfl rfl p1 (by decide) (by decide) fun o2 wy p2 wy0 wy1 => ?_)
 refine w_arN ⟨rfl, trivial, ?_⟩
 simp only [storesP, List.set_cons_zero, List.set_cons_succ]
 refine w_seq (w_set (w_op (w_con (q_draw rfl rfl p2 (by decide) (by decide) fun o3 sg p3 sg0 sg1 => ?_))))
 refine q_ixS (a := signS) (by decide) (at_get 0 sg0 (by show _ < ((22 : Nat) : Int); omega)) ?_
 simp only [List.set_cons_zero, List.set_cons_succ]
 have hc := sign_in sg.toNat (by omega)
 generalize signS.cps.toList.getD sg.toNat 0 = c at hc ⊢
 have t1 : TL.tl (⟨#[c]⟩ : Str) = [c] := rfl
 have l1 : (⟨#[c]⟩ : Str).length = 1 := rfl
 have la := cutS_length row none (some (p : Int))
 have lb := cutS_length row (some (p : Int)) none
 have lc := cutS_length row (some ((p : Int) + 1)) none
 have ld := cutS_length row (some 1) none
 have ep : ((p : Int) + 1) = ((p + 1 : Nat) : Int) := by omega
 have pl : ∀ {Q : PV → EP' → Prop} {te : TEp} {η : EP'}, te η Q → te η Q := fun h => h
 refine w_seq (w_set (w_lst ?_))
 refine w_cons (w_op (w_op (w_slice (w_var (x := .str row) rfl (w_nop (w_part (w_var (x := .int p) rfl (q_slS (by omega) (w_var (x := .str ⟨#[c]⟩) rfl (q_addS (by omega) ?_))))))))))
 refine w_slice (w_var (x := .str row) rfl (w_part (w_var (x := .int p) rfl (w_nop (q_slS (by omega) (q_addS (by rw [len_app]; omega) ?_))))))
 refine w_cons (w_op (w_op (w_slice (w_var (x := .str row) rfl (w_nop (w_part (w_var (x := .int p) rfl (q_slS (by omega) (w_var (x := .str ⟨#[c]⟩) rfl (q_addS (by omega) ?_))))))))))
 refine w_slice (w_var (x := .str row) rfl (w_part (w_op (w_var (x := .int p) rfl (w_con (q_add (w_nop (q_slS (by omega) (q_addS (by rw [len_app]; omega) ?_)))))))))
 refine w_cons (w_op (w_slice (w_var (x := .str row) rfl (w_nop (w_part (w_var (x := .int p) rfl (q_slS (by omega) ?_)))))))
 refine w_slice (w_var (x := .str row) rfl (w_part (w_op (w_var (x := .int p) rfl (w_con (q_add (w_nop (q_slS (by omega) (q_addS (by omega) ?_)))))))))
 refine w_cons (w_op (w_op (w_var (x := .str row) rfl (w_con (q_addS (by show _ + 1 ≤ _; omega) (w_var (x := .str row) rfl (q_addS (by rw [len_app]; show _ + 1 + _ ≤ _; omega) ?_)))))))
 refine w_nil ⟨z4, ?_⟩
 simp only [List.set_cons_zero, List.set_cons_succ]
 rw [ep]
 have k0 : TxOk (cutS row none (some (p : Int)) ++ ⟨#[c]⟩ ++ cutS row (some (p : Int)) none) := b_ins (p := p) hb hc (by rw [TL.tl_append, TL.tl_append, cut_head, cut_tail, t1, List.append_assoc])
 have k1 : TxOk (cutS row none (some (p : Int)) ++ ⟨#[c]⟩ ++ cutS row (some ((p + 1 : Nat) : Int)) none) := b_set (p := p) hb hc (by rw [TL.tl_append, TL.tl_append, cut_head, cut_tail, t1, List.append_assoc])
 have k2 : TxOk (cutS row none (some (p : Int)) ++ cutS row (some ((p + 1 : Nat) : Int)) none) := b_del (p := p) hb (by rw [TL.tl_append, cut_head, cut_tail])
 have k3 : TxOk (row ++ (" " : Str) ++ row) := b_two hb (by rw [TL.tl_append, TL.tl_append, show TL.tl (" " : Str) = [32] from ey_space, List.append_assoc])
 have k5 : TxOk (("0" : Str) ++ row) := b_zero hb (by rw [TL.tl_append]; rfl)
 have k6 : TxOk (cutS row (some 1) none) := b_one hb (cut_tail (k := 1))
 have k7 : TxOk (row ++ ("\n" : Str)) := b_nl hb (by rw [TL.tl_append]; rfl)
 generalize cutS row none (some (p : Int)) ++ ⟨#[c]⟩ ++ cutS row (some (p : Int)) none = r0 at *
 generalize cutS row none (some (p : Int)) ++ ⟨#[c]⟩ ++ cutS row (some ((p + 1 : Nat) : Int)) none = r1 at *
 generalize cutS row none (some (p : Int)) ++ cutS row (some ((p + 1 : Nat) : Int)) none = r2 at *
 generalize row ++ (" " : Str) ++ row = r3 at *
 refine w_ret (w_op (w_op (w_var (x := .lst [.str r0, .str r1, .str r2, .str r3]) rfl (w_lst ?_))))
 refine w_cons (w_join (w_con ⟨⟨_, rfl⟩, w_revX (w_splitX (w_var (x := .str row) rfl ⟨⟨_, rfl⟩, w_con ⟨row, (" " : Str), rfl, rfl, by decide +kernel, by omega, ?_⟩⟩))⟩))
 dsimp only
 rw [← List.map_reverse]
 refine ⟨(wordsW row).reverse, strsOf_mapS _, ?_, ?_⟩
 ·have := sum_le (ys := (wordsW row).reverse) fun y hy => by
   have := hw92 y hy
   omega
  have e1 : (" " : Str).length = 1 := rfl
  rw [e1]
  rw [List.length_reverse] at this ⊢
  omega
 refine w_cons (w_op (w_con (w_var (x := .str row) rfl (q_addS (by show 1 + _ ≤ _; omega) ?_))))
 refine w_cons (w_slice (w_var (x := .str row) rfl (w_part (w_con (w_nop (q_slS (by omega) ?_))))))
 refine w_cons (w_op (w_var (x := .str row) rfl (w_con (q_addS (by show _ + 1 ≤ _; omega) (w_nil ⟨z4, ?_⟩)))))
 refine q_addLL z8 (w_var (x := .int wy) rfl ?_)
 have fin : ∀ (ks : List Str) (k : Nat), (∀ x ∈ ks, TxOk x) → k < ks.length → ∃ v, (ks.map PV.str)[k]? = some v ∧ ∃ o', ([.ow o3, .va (.str row), .va (.int p), .va (.int wy), .va (.str ⟨#[c]⟩), .va (.lst [.str r0, .str r1, .str r2, .str r3])] : EP')[0]? = some (Sl.ow o') ∧ PR v o' := fun ks k hk hlt => by
  refine ⟨.str ks[k], by rw [List.getElem?_map, List.getElem?_eq_getElem hlt]; rfl, o3, rfl, hp _ o3 p3 (hk _ (List.getElem_mem hlt))⟩
 obtain ⟨v, hv, o', ho, hq⟩ := fin [r0, r1, r2, r3, Txt.join (" " : Str) (wordsW row).reverse, ("0" : Str) ++ row, cutS row (some 1) none, row ++ ("\n" : Str)] wy.toNat (fun x hx => by
  simp only [List.mem_cons, List.not_mem_nil, or_false] at hx
  rcases hx with rfl | rfl | rfl | rfl | rfl | rfl | rfl | rfl <;> assumption) (by show _ < 8; omega)
 refine q_ix (x := v) ?_ ⟨o', ho, hq⟩
 have := atI_nat hv
 rwa [Int.toNat_of_nonneg wy0] at this
end
theorem q_reprRowsB {rs : List Trip} {P : PV → Prop} (hw : Rw rs) (hn : NearB rs) (h : P (.str (PyData.tuple (rs.map rowE)).shown)) : rRepr [rowsP rs] P := by
 have hs := rw_shortB hw hn
 obtain ⟨a1, a2, a3, a4⟩ := rowsB_facts hs (rw_good hw)
 have d1 := depth_rows rs
 have hl := hw.len
 refine ⟨.tuple (rs.map rowE), toD_rows rs, ?_, ?_, ?_, fit_shown (n := 400) ?_ ?_ (by decide), h⟩
 ·simp only [PyData.showable, a2]
 ·simp only [PyData.hasDict, a3]
 ·simp only [PyData.depth] at d1 ⊢
  omega
 ·rw [PyData.leavesShort, a1]
 ·simp only [PyData.bulk]
  omega
theorem all_trueX : ∀ n : Nat, blsOf (List.replicate n (.bl true)) = some (List.replicate n true)
 | 0 => rfl
 | n + 1 => by rw [List.replicate_succ, List.replicate_succ, blsOf, all_trueX n]; rfl
theorem vNT_rows {rs : List Trip} (hw : Rw rs) : vNT (rs.map rowP) = rs.length := by
 have hv := valid_done rs 0 ("" : Str) (by have := hw.len; omega) (fun r hr => hw.each r hr) hw.asc (fun r hr => by
  have e : (decide (1 ≤ r.1.length) && (decide (r.1.length ≤ 8) && r.1.cps.toList.all fun c => decide (c ∈ abc.cps.toList))) = true := (hw.each r hr).1
  have h1 := of_decide_eq_true (Bool.and_eq_true_iff.mp e).1
  have rl : r.1.length = r.1.cps.toList.length := by simp [Str.length]
  show ("" : Str).cps.toList < r.1.cps.toList
  cases q : r.1.cps.toList with
  | nil => rw [rl, q] at h1; exact absurd h1 (by decide)
  | cons a l => exact List.nil_lt_cons a l)
 unfold vNT
 rw [hv]
 omega
section
variable {K : PySem.W.Frag} {C : Addr} {XC : Str → Addr} {args : List PV} {P : PV → Prop} {PR : PV → Ow → Prop} {o : Ow}
theorem w_noNew {sr : SpRX} {dps : List PV} {t : TAp} {η : EP'} {Q : PV → EP' → Prop} (h : t η fun args η1 => sr (.o C []) (args ++ dps) (fun r o' => r = .non ∧ ∃ fs, o' = .o C fs ∧ Q (.ins C fs) η1) fun _ _ => False) : tNoX (tNewX C sr dps t) η Q := h
theorem w_noCM {sp : SpX} {ta : TEp} {t : TAp} {η : EP'} {Q : PV → EP' → Prop} (h : ta η fun x η1 => x = .raw (.ref C) ∧ t η1 fun args η2 => sp (.raw (.ref C) :: args) (fun z => Q z η2) fun _ _ => False) : tNoX (tCMetX C sp ta t) η Q := h
theorem w_noIM {m : Str} {sp : SpX} {ta : TEp} {t : TAp} {η : EP'} {Q : PV → EP' → Prop} (h : ta η fun x η1 => (∃ fs, x = .ins C fs ∧ fs.lookup m = none) ∧ t η1 fun args η2 => sp (.raw (.ref C) :: args) (fun z => Q z η2) fun _ _ => False) : tNoX (tIMetX C m sp ta t) η Q := h
theorem knR_rows {rs : List Trip} (hw : Rw rs) : KnR K (rowsP rs) := by
 have hl := hw.len
 have sz : 100 < sizeLine := by decide
 refine ⟨.inl rfl, fun xs z => ?_⟩
 have z : PV.tup (rs.map rowP) = .tup xs := z
 cases z
 refine ⟨by rw [List.length_map]; omega, fun x hx => ?_⟩
 obtain ⟨r, hr, rfl⟩ := List.mem_map.mp hx
 refine ⟨.inl rfl, fun n s e z => ?_⟩
 have z : PV.tup [.str r.1, .int r.2.1, .int r.2.2] = .tup [n, s, e] := z
 cases z
 refine ⟨.inl rfl, .inl rfl, .inl rfl, fun w q => ?_⟩
 cases q
 have e : (decide (1 ≤ r.1.length) && (decide (r.1.length ≤ 8) && r.1.cps.toList.all fun c => decide (c ∈ abc.cps.toList))) = true := (hw.each r hr).1
 have := of_decide_eq_true (Bool.and_eq_true_iff.mp (Bool.and_eq_true_iff.mp e).2).1
 omega
theorem made_ok {n : Int} {rs : List Trip} (n1 : 1 ≤ n) (n2 : n ≤ 20) (hw : Rw rs) {P : PV → Ow → Prop} {Zw : WC} (h : P .non (.o C (lineF n rs))) : sp_Line_initX K C XC (.o C []) [.int n, rowsP rs] P Zw := by
 have hsb : seatsB (.int n) = true := by show (decide (1 ≤ n) && decide (n ≤ 20)) = true; rw [decide_eq_true n1, decide_eq_true n2]; rfl
 refine ⟨_, _, rfl, rfl, .inl rfl, knR_rows hw, fun m us e1 e2 _ _ _ => ?_, fun z => ?_, fun _ z => ?_, fun xs _ e z => ?_⟩
 ·cases e1
  have e2 : PV.tup (rs.map rowP) = .tup (us.map rowP) := e2
  have e3 : rs = us := rowsX_inj (PV.tup.inj e2)
  subst e3
  exact h
 ·rw [hsb] at z; cases z
 ·cases z
 ·have e : PV.tup (rs.map rowP) = .tup xs := e
  cases e
  rw [vNT_rows hw, List.length_map] at z
  omega
theorem read_ok {n : Int} {rs : List Trip} (rf : RdF K XC) (n1 : 1 ≤ n) (n2 : n ≤ 20) (hw : Rw rs) (hn : ∀ r ∈ rs, r.2.2 < 10 ^ 40) {P : PV → Prop} {Zw : WC} (h : P (lineP C n rs)) : sp_Line_read K C XC [.raw (.ref C), .str (textS n rs)] P Zw := by
 have hr := read_back n1 n2 hw
 have hb := base_text n1 n2 hw hn
 have hl := hb.l
 refine ⟨_, rfl, rf, by omega, fun w hwm => by have := words_of_runs hb.r w hwm; omega, fun m us h1 h2 m1 m2 hu => ?_, fun z => absurd z (read_notbad hr)⟩
 obtain ⟨rfl, rfl⟩ := read_uniq hr ⟨h1, h2, m1, m2, hu⟩
 exact h
theorem rd_law_right3 (h : sp_law_right3 K C XC o args PR) : ts_law_right3 K C XC { nx := fun η' => ∃ o', η'[0]? = some (Sl.ow o') ∧ PR .non o', rt := fun x η' => ∃ o', η'[0]? = some (Sl.ow o') ∧ PR x o' } (startR 9 o args) := by
 obtain ⟨po, rfl, hC, tf, hp⟩ := h
 have e : startR 9 o [] = [.ow o, .no, .no, .no, .no, .no, .no, .no, .no] := rfl
 rw [e]
 have sz : 1000000 < sizeLine := by decide
 have z3 : 3 ≤ sizeLine := by omega
 refine w_seq (w_for (w_rng1 (w_con ⟨by omega, by omega, ?_⟩)))
 refine ⟨fun i η => ∃ (o' : Ow) (s1 s2 s3 s4 s5 s6 s7 : Sl), Pool o' ∧ η = [.ow o', s1, s2, s3, s4, s5, s6, s7, .no], ⟨o, _, _, _, _, _, _, _, po, rfl⟩, ?_, ?_⟩
 ·rintro i x η hi ⟨o', s1, s2, s3, s4, s5, s6, s7, p', rfl⟩
  refine w_gname ?_
  simp only [List.set_cons_zero, List.set_cons_succ]
  refine w_seq (w_par (w_arV (w_op (w_con (q_draw rfl rfl p' (by decide) (by decide) fun o2 wd p2 w0 w1 => q_add ?_)))))
  refine w_arV (w_callR rfl (w_cons (q_draw rfl rfl p2 (by decide) (by decide) fun o3 m p3 m0 m1 => w_nil (q_callM rfl ⟨m, p3, rfl, m0, by omega, fun o4 ws p4 wl wn => ?_⟩))))
  refine w_arN ⟨rfl, trivial, ?_⟩
  simp only [storesP, List.set_cons_zero, List.set_cons_succ]
  have n1 : 1 ≤ 1 + wd := by omega
  have n2 : 1 + wd ≤ 20 := by omega
  generalize 1 + wd = n at n1 n2 ⊢
  refine w_seq (w_set (w_callR rfl (w_cons (w_var (x := .lst (ws.map .str)) rfl (w_cons (w_con (w_nil (q_callM rfl ⟨ws, 30, p4, rfl, wn, by omega, by decide, by decide, fun o5 rs p5 hw hl hb => ?_⟩))))))))
  have hn : ∀ r ∈ rs, r.2.2 < 10 ^ 40 := fun r hr => (hb r hr).2
  have hnB := near_B hn
  have bt := base_text n1 n2 hw hn
  have btl := bt.l
  simp only [List.set_cons_zero, List.set_cons_succ]
  refine w_seq (w_asg (w_tup (w_cons (w_noNew (w_cons (w_var (x := .int n) rfl (w_cons (w_var (x := rowsP rs) rfl (w_nil (made_ok n1 n2 hw ⟨rfl, _, rfl, ?_⟩)))))))))) 
  refine w_cons (w_call (w_cons (w_var (x := .int n) rfl (w_cons (w_var (x := rowsP rs) rfl (w_nil ⟨n, rs, rfl, n1, n2, hw, hn, w_nil ⟨sz2, rfl, rfl, ?_⟩⟩))))))
  simp only [List.set_cons_zero, List.set_cons_succ]
  refine w_seq (w_if (w_or (w_bl (w_op (w_strO (w_cons (w_var (x := lineP C n rs) rfl (w_nil ⟨_, rfl, n, rs, rfl, n1, n2, hw, hnB, ⟨_, rfl⟩, ?_⟩))))))))
  refine w_var (x := .str (textS n rs)) rfl (q_neS0 ?_)
  rw [decide_eq_true rfl]
  refine q_iteF (w_bl (w_op (w_strO (w_cons (w_var (x := lineP C n rs) rfl (w_nil ⟨_, rfl, n, rs, rfl, n1, n2, hw, hnB, ⟨_, rfl⟩, ?_⟩))))))
  refine w_op (w_op (w_con (w_var (x := .str (textS n rs)) rfl (q_addS (by show 6 + _ ≤ _; omega) (w_con (q_addS (by rw [len_app]; show 6 + _ + 2 ≤ _; omega) (q_neS0 ?_)))))))
  rw [decide_eq_true (show reprS n rs = ("Line('" : Str) ++ textS n rs ++ ("')" : Str) by unfold reprS; rw [empty_app])]
  refine q_iteF (w_next ?_)
  dsimp only
  refine w_seq (w_for (w_lstP (w_lst ?_)))
  refine w_cons (w_noCM (w_con ⟨rfl, w_cons (w_var (x := .str (textS n rs)) rfl (w_nil (read_ok tf.rd n1 n2 hw hn ?_)))⟩))
  refine w_cons (w_noCM (w_con ⟨rfl, w_cons (w_var (x := .str (textS n rs)) rfl (w_nil (read_ok tf.rd n1 n2 hw hn ?_)))⟩))
  refine w_cons (w_noIM (w_var (x := lineP C n rs) rfl ⟨⟨_, rfl, rfl⟩, w_cons (w_var (x := .str (textS n rs)) rfl (w_nil (read_ok tf.rd n1 n2 hw hn ?_)))⟩))
  refine w_nil ⟨z3, ?_⟩
  show ∃ Inv : Nat → EP' → Prop, _
  refine ⟨fun i η => ∃ s7 : Sl, η = [.ow o5, .va x, .va (.int n), .va (.lst (ws.map .str)), .va (rowsP rs), .va (lineP C n rs), .va (.str (textS n rs)), s7, .no], ⟨s7, rfl⟩, ?_, ?_⟩
  ·rintro j y η hj ⟨s7', rfl⟩
   obtain rfl : y = lineP C n rs := by
    have : y ∈ [lineP C n rs, lineP C n rs, lineP C n rs] := List.mem_of_getElem? hj
    simpa using this
   refine w_gname ?_
   simp only [List.set_cons_zero, List.set_cons_succ]
   refine w_if (w_or (w_not (w_bl (w_cb (w_cons (w_var (x := lineP C n rs) rfl (w_cons (w_con (w_nil (isi_line hC (q_iteF ?_))))))))))) 
   refine w_or (w_bl (w_eqO (w_var (x := lineP C n rs) rfl (w_var (x := lineP C n rs) rfl ⟨⟨_, rfl⟩, eqTy_line, n, rs, _, rfl, hC, rw_good hw, .inr ⟨n, rs, rfl, rw_good hw, _, rfl, ?_⟩⟩))))
   rw [decide_eq_true (⟨rfl, rfl⟩ : n = n ∧ rs = rs)]
   refine q_iteF (w_bl (w_op (w_cb (w_cons (w_prop' (w_var (x := lineP C n rs) rfl ⟨⟨_, rfl⟩, n, rs, rfl, w_nil (q_reprRowsB hw hnB ?_)⟩)))))) 
   refine w_cb (w_cons (w_var (x := rowsP rs) rfl (w_nil (q_reprRowsB hw hnB (q_neS0 ?_)))))
   rw [decide_eq_true rfl]
   exact q_iteF (w_next ⟨_, rfl⟩)
  rintro η ⟨s7', rfl⟩
  dsimp only
  refine w_if (w_not (w_bl (w_cb (w_cons (w_val (w_lc (w_rng1 (w_con ⟨by omega, by omega, ?_⟩))))))))
  refine ⟨fun j acc η => acc = List.replicate j (.bl true) ∧ ∃ o6, Pool o6 ∧ η = [.ow o6, .va x, .va (.int n), .va (.lst (ws.map .str)), .va (rowsP rs), .va (lineP C n rs), .va (.str (textS n rs)), s7', .no], ⟨rfl, o5, p5, rfl⟩, ?_, ?_⟩
  ·rintro j y acc η hj ⟨rfl, o6, p6, rfl⟩
   obtain ⟨hj8, rfl⟩ := rangeP_get hj
   have hj8' : j < 8 := hj8
   refine w_gname (w_yes (q_iteT (w_call (w_cons (w_callR rfl (w_cons (w_var (x := .str (textS n rs)) rfl (w_nil (q_callM rfl ⟨n, rs, p6, rfl, n1, n2, hw, hn, fun row o7 p7 tx => ?_⟩)))))))))
   refine w_nil ⟨row, rfl, hC, tf, tx, ?_⟩
   exact ⟨by rw [List.length_replicate]; omega, by rw [List.replicate_succ'], o7, p7, rfl⟩
  rintro acc η ⟨rfl, o6, p6, rfl⟩
  rw [rangeP_len]
  refine w_nil (q_all (all_trueX _) ?_)
  rw [show ∀ n : Nat, (List.replicate n true).all id = true from fun n => by simp]
  exact q_iteF (w_next ⟨o6, _, _, _, _, _, _, _, p6, rfl⟩)
 ·rintro η ⟨o', s1, s2, s3, s4, s5, s6, s7, p', rfl⟩
  dsimp only
  refine w_ret (w_con ?_)
  exact ⟨o', rfl, hp o' p'⟩
end
def given1 : List Str := [("" : Str), (" " : Str), ("0" : Str), ("1" : Str), ("20" : Str), ("21" : Str), ("01" : Str), ("1 " : Str), (" 1" : Str), ("1 a:0-1" : Str), ("1 a:1-1" : Str), ("1 a:2-1" : Str), ("1 a:0-01" : Str), ("1 a:-0-1" : Str)]
def given2 : List Str := [("1 a:0-1 a:1-2" : Str), ("1 b:0-1 a:1-2" : Str), ("1 a:0-1  b:1-2" : Str), ("1 A:0-1" : Str), ("1 a:0" : Str), ("1 a0-1" : Str), ("1 :0-1" : Str), ("a:0-1" : Str)]
def given3 : List Str := [("1 a:0-1-2" : Str), ("1 a:b:0-1" : Str), ("1 abcdefghi:0-1" : Str), ("1 a:0-" : Str) ++ strRep ("9" : Str) 60, ("1 a:+0-1" : Str), ("x a:0-1" : Str), ("-1" : Str), ("1\n" : Str)]
def azS : Str := ("abcdefghijklmnopqrstuvwxy" : Str)
def manyL : List Str := azS.cps.toList.map fun c => (⟨#[c]⟩ : Str) ++ (":0-1" : Str)
def manyS : Str := Txt.join (" " : Str) manyL
def given4 : List Str := [("3 " : Str) ++ manyS, ("3 " : Str) ++ cutS manyS none (some (-6))]
def givenA : List Str := given1 ++ given2 ++ given3 ++ given4
def txB (row : Str) : Bool := decide (row.length ≤ 60000) && ((wordsW row).all fun w => decide (w.length ≤ 500)) && (row.cps.toList.all fun c => decide (10 ≤ c ∧ c < 127))
theorem tx_ofB {row : Str} (h : txB row = true) : TxOk row := by
 unfold txB at h
 obtain ⟨h, h3⟩ := Bool.and_eq_true_iff.mp h
 obtain ⟨h1, h2⟩ := Bool.and_eq_true_iff.mp h
 exact ⟨of_decide_eq_true h1, fun w hw => of_decide_eq_true (List.all_eq_true.mp h2 w hw), fun c hc => of_decide_eq_true (List.all_eq_true.mp h3 c hc)⟩
theorem given_ok : givenA.all txB = true := by decide +kernel
theorem many_len : manyS.length ≤ 1000 := by decide +kernel
theorem manyL_sum : (manyL.map (·.length)).sum + manyL.length * 1 ≤ 16777216 := by decide +kernel
section
variable {K : PySem.W.Frag} {C : Addr} {XC : Str → Addr} {args : List PV} {P : PV → Prop} {PR : PV → Ow → Prop} {o : Ow}
theorem rd_law3 (h : sp_law3 K C XC args P) : ts_law3 K C XC { nx := fun _ => P .non, rt := fun x _ => P x } (startP 6 args) := by
 obtain ⟨ns, rfl, hns, hC, tf, hp⟩ := h
 have e : startP 6 [.scr ns] = [.va (.scr ns), .no, .no, .no, .no, .no] := rfl
 rw [e]
 have sz : 10000 < sizeLine := by decide
 have z8 : 8 ≤ sizeLine := by omega
 have z2 : 2 ≤ sizeLine := by omega
 refine w_seq (w_set (w_lst (w_strs (ws := given1) ⟨by decide, ?_⟩)))
 dsimp only
 refine w_seq (w_set (w_op (w_var rfl (w_lst (w_strs (ws := given2) ⟨by decide, q_addL (by decide) ?_⟩)))))
 dsimp only
 rw [← List.map_append]
 refine w_seq (w_set (w_op (w_var (x := .lst ((given1 ++ given2).map .str)) rfl (w_lst ?_))))
 refine w_cons (w_con (w_cons (w_con (w_cons (w_con (w_cons (w_op (w_con (w_op (w_con (w_con (q_mulS (by decide) (by decide) (by decide) (q_addS (by decide +kernel) ?_)))))))))))))
 refine w_cons (w_con (w_cons (w_con (w_cons (w_con (w_cons (w_con (w_nil ⟨z8, ?_⟩))))))))
 refine q_addLL (by rw [List.length_map]; decide +kernel) ?_
 simp only [List.set_cons_zero, List.set_cons_succ]
 refine w_seq (w_set (w_join (w_con ⟨⟨_, rfl⟩, w_val (w_lc (show iStrP _ _ _ from w_con ?_))⟩)))
 simp only [List.set_cons_zero, List.set_cons_succ]
 have body : (tSeqP (tIfSP (tNotP (tBlP (tCBP rAllP (tConsP (tValP (tLcP (iListP (tOpP rAdd (tVarP 1) (tLstP (tConsP (tOpP rAdd (tConP (.str ("3 " : Str))) (tVarP 2)) (tConsP (tOpP rAdd (tConP (.str ("3 " : Str))) (tSliceP (tVarP 2) (tNoPartP) (tPartP (tNegP (tConP (.int 6)))))) (tNilP)))))) (gNameP 4) (tYesP) (tCallP (sp_law_text_right K C XC) [] (tConsP (tVarP 4) (tNilP))) [4])) (tNilP))))) (tRetP (tConP (.bl false))) (tNextP)) (tRetP (tCBP rAllP (tConsP (tValP (tLcP (iRng1P (tCBP rMax2 (tConsP (tConP (.int 2)) (tConsP (tCBP rMin2 (tConsP (tCBP rLen (tConsP (tVarP 0) (tNilP))) (tConsP (tConP (.int 6)) (tNilP)))) (tNilP))))) (gNameP 5) (tYesP) (tCallRFP (tCallFP (sp_law_pool K C) (tConsP (tCallP (sp_law_cell K C) [] (tConsP (tVarP 0) (tConsP (tVarP 5) (tNilP)))) (tNilP))) (sp_law_right3 K C XC) (tNilP)) [5])) (tNilP))))) { nx := fun _ => P .non, rt := fun x _ => P x } [.va (.scr ns), .va (.lst ((given1 ++ given2 ++ given3).map .str)), .va (.str manyS), .no, .no, .no] := by
  have ml := many_len
  have cl := cutS_length manyS none (some (-6))
  refine w_seq (w_if (w_not (w_bl (w_cb (w_cons (w_val (w_lc (w_lstP (w_op (w_var (x := .lst ((given1 ++ given2 ++ given3).map .str)) rfl (w_lst ?_)))))))))))
  refine w_cons (w_op (w_con (w_var (x := .str manyS) rfl (q_addS (by show 2 + _ ≤ _; omega) ?_))))
  refine w_cons (w_op (w_con (w_slice (w_var (x := .str manyS) rfl (w_nop (w_part (w_neg' (w_con (q_slS (by omega) (q_addS (by show 2 + _ ≤ _; omega) ?_)))))))))) 
  refine w_nil ⟨z2, q_addLL (by rw [List.length_map]; decide +kernel) ?_⟩
  have eA : ((given1 ++ given2 ++ given3).map PV.str ++ [PV.str (("3 " : Str) ++ manyS), PV.str (("3 " : Str) ++ cutS manyS none (some (-6)))]) = givenA.map .str := by
   unfold givenA
   rw [List.map_append (l₁ := given1 ++ given2 ++ given3)]
   rfl
  show ∃ Inv : Nat → List PV → EP' → Prop, _
  have lenA : givenA.length = 32 := by decide +kernel
  refine ⟨fun i acc η => acc = List.replicate i (.bl true) ∧ η = [.va (.scr ns), .va (.lst ((given1 ++ given2 ++ given3).map .str)), .va (.str manyS), .no, .no, .no], ⟨rfl, rfl⟩, ?_, ?_⟩
  ·rintro i x acc η hi ⟨rfl, rfl⟩
   have hi : ((given1 ++ given2 ++ given3).map PV.str ++ [PV.str (("3 " : Str) ++ manyS), PV.str (("3 " : Str) ++ cutS manyS none (some (-6)))])[i]? = some x := hi
   rw [eA, List.getElem?_map] at hi
   obtain ⟨row, hr, rfl⟩ := Option.map_eq_some_iff.mp hi
   have il := (List.getElem?_eq_some_iff.mp hr).1
   have tx := tx_ofB (List.all_eq_true.mp given_ok row (List.mem_of_getElem? hr))
   refine w_gname (w_yes (q_iteT (w_call (w_cons (w_var (x := .str row) rfl (w_nil ⟨row, rfl, hC, tf, tx, ?_⟩))))))
   exact ⟨by rw [List.length_replicate]; omega, by rw [List.replicate_succ'], rfl⟩
  rintro acc η ⟨rfl, rfl⟩
  refine w_nil (q_all (all_trueX _) ?_)
  rw [show ∀ n : Nat, (List.replicate n true).all id = true from fun n => by simp]
  refine q_iteF (w_next ?_)
  dsimp only
  refine w_ret (w_cb (w_cons (w_val (w_lc (w_rng1 (w_cb (w_cons (w_con (w_cons (w_cb (w_cons (w_cb (w_cons (w_var (x := .scr ns) rfl (w_nil (q_lenC (w_cons (w_con (w_nil (q_min ?_))))))))))))))))))))
  refine w_nil (q_max ?_)
  obtain ⟨N, hN, N0, N6⟩ : ∃ N : Int, (if (if (6 : Int) < (ns.length : Int) then (6 : Int) else (ns.length : Int)) > 2 then (if (6 : Int) < (ns.length : Int) then (6 : Int) else (ns.length : Int)) else 2) = N ∧ 0 ≤ N ∧ N ≤ 6 := ⟨_, rfl, by split <;> (first | split | skip) <;> omega, by split <;> (first | split | skip) <;> omega⟩
  rw [hN]
  refine ⟨by omega, by omega, fun i acc η => acc = List.replicate i (.bl true) ∧ η = [.va (.scr ns), .va (.lst ((given1 ++ given2 ++ given3).map .str)), .va (.str manyS), .no, .no, .no], ⟨rfl, rfl⟩, ?_, ?_⟩
  ·rintro i x acc η hi ⟨rfl, rfl⟩
   obtain ⟨hn, rfl⟩ := rangeP_get hi
   refine w_gname (w_yes (q_iteT ?_))
   refine w_callRF' (w_callF' (w_cons (w_call (w_cons (w_var (x := .scr ns) rfl (w_cons (w_var rfl (w_nil ⟨ns, _, rfl, by omega, by omega, fun c => ?_⟩))))))))
   refine w_nil ⟨c, rfl, fun s d s0 s1 d0 => w_nil ⟨⟨s, d, 0, rfl, s0, s1, d0⟩, rfl, hC, tf, fun o' p' => ?_⟩⟩
   exact ⟨by rw [List.length_replicate]; omega, by rw [List.replicate_succ'], rfl⟩
  ·rintro acc η ⟨rfl, rfl⟩
   rw [rangeP_len]
   refine w_nil (q_all (all_trueX _) ?_)
   rw [show ∀ n : Nat, (List.replicate n true).all id = true from fun n => by simp]
   exact hp
 refine ⟨fun i acc η => acc = (manyL.take i).map .str ∧ η = [.va (.scr ns), .va (.lst ((given1 ++ given2 ++ given3).map .str)), .no, .no, .no, .no], ⟨rfl, ?_⟩, ?_, ?_⟩
 ·rfl
 ·rintro i x acc η hi ⟨rfl, rfl⟩
  have hi : (azS.cps.toList.map fun c => PV.str ⟨#[c]⟩)[i]? = some x := hi
  rw [List.getElem?_map] at hi
  obtain ⟨c, hc, rfl⟩ := Option.map_eq_some_iff.mp hi
  have il := (List.getElem?_eq_some_iff.mp hc).1
  have i25 : azS.cps.toList.length = 25 := by decide +kernel
  have hm : manyL[i]? = some ((⟨#[c]⟩ : Str) ++ (":0-1" : Str)) := by unfold manyL; rw [List.getElem?_map, hc]; rfl
  refine w_gname (w_yes (q_iteT (w_op (w_var (x := .str ⟨#[c]⟩) rfl (w_con (q_addS (by show 1 + 4 ≤ _; omega) ?_))))))
  refine ⟨by rw [List.length_map, List.length_take]; omega, ?_, rfl⟩
  rw [take_map hm]
 rintro acc η ⟨rfl, rfl⟩
 have ll : (azS.cps.toList.map fun c => PV.str ⟨#[c]⟩).length = manyL.length := by unfold manyL; rw [List.length_map, List.length_map]
 refine ⟨manyL, ?_, ?_, ?_⟩
 ·show strsOf ((manyL.take (azS.cps.toList.map fun c => PV.str ⟨#[c]⟩).length).map PV.str) = _
  rw [ll, List.take_length]
  exact strsOf_mapS _
 ·exact manyL_sum
 exact body
end
structure FunC (K : PySem.W.Frag) (x qual : Str) (st : Stmt) (c f : Addr) (fd : FuncData) : Prop where
 ex : ∃ (oc : Value) (od : Option Addr) (kV doc pm : Value) (an : Option Addr) (ct : Value) (osl : Array (Option Value)),
  fd = PySem.W.fnOf x qual (defArgs st) (defBody st) (defScope st) .none kV doc pm an (.ref c) ct ∧ K.lookup f = some ⟨oc, od, .func fd, osl⟩ ∧ PySem.W.codeIn K (.ref c) qual = true
 kp : PySem.W.keepIn K (.ref f) = true
section
variable {P : Program} {w : World} {K : PySem.W.Frag} {mg : Str → Option Value} {base : Heap} {T : List (Addr × Str)}
theorem FunC.fn {x qual : Str} {st : Stmt} {c f : Addr} {fd : FuncData} (F : FunC K x qual st c f fd) : Fun K x qual st f fd := by
 obtain ⟨oc, od, kV, doc, pm, an, ct, osl, h1, h2, h3⟩ := F.ex
 exact ⟨⟨oc, od, kV, doc, pm, an, .ref c, ct, osl, h1, h2, h3⟩, F.kp⟩
theorem okGPC {x qual : Str} {st : Stmt} {c f : Addr} {fd : FuncData} {N ps : List Str} {k : Nat} {sp : SpP} (Fn : FunC K x qual st c f fd) (S : FnScope N ps (defScope st)) (hl : ∀ args P, sp args P → args.length = ps.length) (hn : ps.length ≤ N.length)
  (hbody : ∀ (A : Around) (outer : List Env) (s : Shared) (H : Hp) (E : XK), A.guards = some [] → Room k (A.deeper (envOfC qual (defScope st) s.heap.objs.size f (.ref c))) →
   ∃ ts, PSs (cxOf CX0 P w K mg base N qual (defScope st) f (.ref c) A outer s H E).nox (defBody st) (upS K T ts) ∧ ∀ args P, sp args P → ts { nx := fun _ => P .non, rt := fun x _ => P x } (startP N.length args)) :
  FnG P w K mg base (k + 1) f fd ps (upSp K T sp) := by
 obtain ⟨oc, od, kV, doc, pm, an, ct, osl, rfl, lk, hcd⟩ := Fn.ex
 refine ⟨len_sp hl, fun A outer s H args us vs Q E hg hr e0 hb rv hs => ?_⟩
 refine LamX.run_ofS lk hcd S hr e0 hb rv (len_sp hl _ _ _ _ hs) fun hr' => ?_
 obtain ⟨ts, d, rd⟩ := hbody A outer s H E hg hr'
 exact ⟨_, d.nox, body_sp hs (fun args P hs => by rw [hl _ _ hs]; exact hn) rd⟩
end
def kindB (K : PySem.W.Frag) (C : Addr) (cs : List Addr) (sS sT sZ : Addr) (n : Nat) : Bool :=
 decide (n < 22) && ((cs.zip (List.range 22)).all (fun p => decide (PySem.W.kitOne K (.ref C) (.ref p.1) = some (decide (p.2 = n)))) && (decide (PySem.W.kitOne K (.ref C) (.ref sS) = some (decide (n < 13))) && (decide (PySem.W.kitOne K (.ref C) (.ref sT) = some (decide (12 < n) && decide (n < 19))) && (decide (PySem.W.kitOne K (.ref C) (.ref sZ) = some (decide (18 < n))) &&
 (decide (PySem.W.kitOne K (.ref C) (.type "ValueError") = some (decide (n < 13))) && (decide (PySem.W.kitOne K (.ref C) (.type "LookupError") = some (decide (12 < n) && decide (n < 19))) && decide (PySem.W.kitOne K (.ref C) (.type "ArithmeticError") = some (decide (18 < n)))))))))
theorem kindF_of {K : PySem.W.Frag} {XC : Str → Addr} {C : Addr} {cs : List Addr} {sS sT sZ : Addr} {n : Nat} (h : kindB K C cs sS sT sZ n = true) (e : L2.ExcC K C) (hx : kindNames.map XC = cs) (h1 : XC ("SeatError" : Str) = sS) (h2 : XC ("StateError" : Str) = sT) (h3 : XC ("SizeError" : Str) = sZ) : KindF K XC C n := by
 unfold kindB at h
 simp only [Bool.and_eq_true, decide_eq_true_eq] at h
 obtain ⟨a1, a2, a3, a4, a5, a6, a7, a8⟩ := h
 subst hx h1 h2 h3
 refine ⟨e, a1, fun j s hj => ?_, a3, a4, a5, a6, a7, a8⟩
 have jl : j < 22 := (List.getElem?_eq_some_iff.mp hj).1
 have hm : (XC s, j) ∈ (kindNames.map XC).zip (List.range 22) := by
  refine List.mem_of_getElem? (i := j) ?_
  rw [List.getElem?_zip_eq_some]
  exact ⟨by rw [List.getElem?_map, hj]; rfl, by rw [List.getElem?_range jl]⟩
 have := List.all_eq_true.mp a2 _ hm
 exact of_decide_eq_true this
end Z
namespace Z
end Z
set_option maxHeartbeats 4000000
namespace ZK
open PySem PySem.Spec L2 Z
open PyProof.Rows hiding St
def top (i : Nat) : Stmt := PySem.Challenge.pw_seatchains_k03_texts_of_lines.main.body.getD i (.Pass ⟨0, 0, 0, 0⟩)
abbrev s_law_cell : Stmt := top 47
abbrev N_law_cell : List Str := [("_law_script" : Str), ("_law_k" : Str), ("_law_state" : Str), ("_law_cell_here" : Str)]
theorem sc_law_cell : FnScope N_law_cell [("_law_script" : Str), ("_law_k" : Str)] (defScope s_law_cell) := ⟨rfl, rfl, rfl, by decide +kernel, rfl, by decide +kernel, by decide +kernel⟩
abbrev s_law_pool : Stmt := top 48
abbrev N_law_pool : List Str := [("_law_cell_here" : Str), ("_law_digits" : Str)]
theorem sc_law_pool : FnScope N_law_pool [("_law_cell_here" : Str)] (defScope s_law_pool) := ⟨rfl, rfl, rfl, by decide +kernel, rfl, by decide +kernel, by decide +kernel⟩
abbrev s_is_integer : Stmt := top 31
abbrev N_is_integer : List Str := [("thing" : Str)]
theorem sc_is_integer : FnScope N_is_integer [("thing" : Str)] (defScope s_is_integer) := ⟨rfl, rfl, rfl, by decide +kernel, rfl, by decide +kernel, by decide +kernel⟩
abbrev s_check_seatsX : Stmt := top 41
abbrev N_check_seatsX : List Str := [("seats" : Str)]
theorem sc_check_seatsX : FnScope N_check_seatsX [("seats" : Str)] (defScope s_check_seatsX) := ⟨rfl, rfl, rfl, by decide +kernel, rfl, by decide +kernel, by decide +kernel⟩
abbrev s_is_later : Stmt := top 33
abbrev N_is_later : List Str := [("thing" : Str), ("start" : Str)]
theorem sc_is_later : FnScope N_is_later [("thing" : Str), ("start" : Str)] (defScope s_is_later) := ⟨rfl, rfl, rfl, by decide +kernel, rfl, by decide +kernel, by decide +kernel⟩
abbrev s_is_station : Stmt := top 32
abbrev N_is_station : List Str := [("thing" : Str)]
theorem sc_is_station : FnScope N_is_station [("thing" : Str)] (defScope s_is_station) := ⟨rfl, rfl, rfl, by decide +kernel, rfl, by decide +kernel, by decide +kernel⟩
abbrev s_is_trip_name : Stmt := top 34
abbrev N_is_trip_name : List Str := [("thing" : Str), ("letter" : Str)]
theorem sc_is_trip_name : FnScope N_is_trip_name [("thing" : Str)] (defScope s_is_trip_name) := ⟨rfl, rfl, rfl, by decide +kernel, rfl, by decide +kernel, by decide +kernel⟩
abbrev s_is_tripE : Stmt := top 35
abbrev N_is_tripE : List Str := [("thing" : Str), ("name" : Str), ("start" : Str), ("end" : Str)]
theorem sc_is_tripE : FnScope N_is_tripE [("thing" : Str)] (defScope s_is_tripE) := ⟨rfl, rfl, rfl, by decide +kernel, rfl, by decide +kernel, by decide +kernel⟩
abbrev s_valid_beginningE : Stmt := top 42
abbrev N_valid_beginningE : List Str := [("trips" : Str), ("before" : Str), ("at" : Str), ("thing" : Str)]
theorem sc_valid_beginningE : FnScope N_valid_beginningE [("trips" : Str)] (defScope s_valid_beginningE) := ⟨rfl, rfl, rfl, by decide +kernel, rfl, by decide +kernel, by decide +kernel⟩
abbrev s_Line_capacity : Stmt := inClass (top 40) 10
abbrev N_Line_capacity : List Str := [("self" : Str)]
theorem sc_Line_capacity : FnScope N_Line_capacity [("self" : Str)] (defScope s_Line_capacity) := ⟨rfl, rfl, rfl, by decide +kernel, rfl, by decide +kernel, by decide +kernel⟩
abbrev s_Line_trips : Stmt := inClass (top 40) 11
abbrev N_Line_trips : List Str := [("self" : Str)]
theorem sc_Line_trips : FnScope N_Line_trips [("self" : Str)] (defScope s_Line_trips) := ⟨rfl, rfl, rfl, by decide +kernel, rfl, by decide +kernel, by decide +kernel⟩
abbrev s_Line_len : Stmt := inClass (top 40) 4
abbrev s_Line_eq : Stmt := inClass (top 40) 3
abbrev N_Line_eq : List Str := [("self" : Str), ("other" : Str)]
theorem sc_Line_eq : FnScope N_Line_eq [("self" : Str), ("other" : Str)] (defScope s_Line_eq) := ⟨rfl, rfl, rfl, by decide +kernel, rfl, by decide +kernel, by decide +kernel⟩
abbrev s_Line_strB : Stmt := inClass (top 40) 5
abbrev N_Line_strB : List Str := [("self" : Str), ("words" : Str), ("name" : Str), ("start" : Str), ("end" : Str)]
theorem sc_Line_strB : FnScope N_Line_strB [("self" : Str)] (defScope s_Line_strB) := ⟨rfl, rfl, rfl, by decide +kernel, rfl, by decide +kernel, by decide +kernel⟩
abbrev s_Line_reprB : Stmt := inClass (top 40) 6
abbrev N_Line_reprB : List Str := [("self" : Str)]
theorem sc_Line_reprB : FnScope N_Line_reprB [("self" : Str)] (defScope s_Line_reprB) := ⟨rfl, rfl, rfl, by decide +kernel, rfl, by decide +kernel, by decide +kernel⟩
abbrev s_Line_initX : Stmt := inClass (top 40) 2
abbrev N_Line_initX : List Str := [("self" : Str), ("seats" : Str), ("trips" : Str), ("valid" : Str)]
theorem sc_Line_initX : FnScope N_Line_initX [("self" : Str), ("seats" : Str), ("trips" : Str)] (defScope s_Line_initX) := ⟨rfl, rfl, rfl, by decide +kernel, rfl, by decide +kernel, by decide +kernel⟩
abbrev s_number_written : Stmt := top 36
abbrev N_number_written : List Str := [("word" : Str), ("digit" : Str)]
theorem sc_number_written : FnScope N_number_written [("word" : Str)] (defScope s_number_written) := ⟨rfl, rfl, rfl, by decide +kernel, rfl, by decide +kernel, by decide +kernel⟩
abbrev s_trip_written : Stmt := top 45
abbrev N_trip_written : List Str := [("word" : Str), ("name" : Str), ("colon" : Str), ("stations" : Str), ("start" : Str), ("dash" : Str), ("end" : Str)]
theorem sc_trip_written : FnScope N_trip_written [("word" : Str)] (defScope s_trip_written) := ⟨rfl, rfl, rfl, by decide +kernel, rfl, by decide +kernel, by decide +kernel⟩
abbrev s_Line_read : Stmt := inClass (top 40) 8
abbrev N_Line_read : List Str := [("cls" : Str), ("text" : Str), ("words" : Str), ("trips" : Str), ("word" : Str)]
theorem sc_Line_read : FnScope N_Line_read [("cls" : Str), ("text" : Str)] (defScope s_Line_read) := ⟨rfl, rfl, rfl, by decide +kernel, rfl, by decide +kernel, by decide +kernel⟩
abbrev s_law_draw : Stmt := top 49
abbrev N_law_draw : List Str := [("_law_pool_here" : Str), ("_law_many" : Str), ("_law_state" : Str), ("_law_digit" : Str)]
theorem sc_law_draw : FnScope N_law_draw [("_law_pool_here" : Str), ("_law_many" : Str)] (defScope s_law_draw) := ⟨rfl, rfl, rfl, by decide +kernel, rfl, by decide +kernel, by decide +kernel⟩
abbrev s_law_bent : Stmt := top 61
abbrev N_law_bent : List Str := [("_law_pool_here" : Str), ("_law_row" : Str), ("_law_at" : Str), ("_law_way" : Str), ("_law_sign" : Str), ("_law_some" : Str)]
theorem sc_law_bent : FnScope N_law_bent [("_law_pool_here" : Str), ("_law_row" : Str)] (defScope s_law_bent) := ⟨rfl, rfl, rfl, by decide +kernel, rfl, by decide +kernel, by decide +kernel⟩
abbrev s_law_far : Stmt := top 51
abbrev N_law_far : List Str := [("_law_pool_here" : Str), ("_law_high" : Str), ("_law_found" : Str), ("_law_here" : Str), ("_law_way" : Str), ("_law_k" : Str)]
theorem sc_law_far : FnScope N_law_far [("_law_pool_here" : Str), ("_law_high" : Str)] (defScope s_law_far) := ⟨rfl, rfl, rfl, by decide +kernel, rfl, by decide +kernel, by decide +kernel⟩
abbrev s_law_rides : Stmt := top 52
abbrev N_law_rides : List Str := [("_law_pool_here" : Str), ("_law_words_here" : Str), ("_law_high" : Str), ("_law_places" : Str), ("_law_found" : Str), ("_law_last" : Str), ("_law_word" : Str), ("_law_way" : Str), ("_law_begin" : Str)]
theorem sc_law_rides : FnScope N_law_rides [("_law_pool_here" : Str), ("_law_words_here" : Str), ("_law_high" : Str)] (defScope s_law_rides) := ⟨rfl, rfl, rfl, by decide +kernel, rfl, by decide +kernel, by decide +kernel⟩
abbrev s_law_text : Stmt := top 57
abbrev N_law_text : List Str := [("_law_width" : Str), ("_law_rides_here" : Str), ("_law_words_here" : Str), ("_law_ride" : Str)]
theorem sc_law_text : FnScope N_law_text [("_law_width" : Str), ("_law_rides_here" : Str)] (defScope s_law_text) := ⟨rfl, rfl, rfl, by decide +kernel, rfl, by decide +kernel, by decide +kernel⟩
abbrev s_law_other_fields : Stmt := top 55
abbrev N_law_other_fields : List Str := [("_law_e" : Str)]
theorem sc_law_other_fields : FnScope N_law_other_fields [("_law_e" : Str)] (defScope s_law_other_fields) := ⟨rfl, rfl, rfl, by decide +kernel, rfl, by decide +kernel, by decide +kernel⟩
abbrev s_law_fields : Stmt := top 54
abbrev N_law_fields : List Str := [("_law_e" : Str)]
theorem sc_law_fields : FnScope N_law_fields [("_law_e" : Str)] (defScope s_law_fields) := ⟨rfl, rfl, rfl, by decide +kernel, rfl, by decide +kernel, by decide +kernel⟩
abbrev s_law_kind : Stmt := top 53
abbrev N_law_kind : List Str := [("_law_e" : Str), ("_law_kinds" : Str), ("_law_bases" : Str), ("_law_own" : Str), ("_law_at" : Str), ("_law_words_here" : Str)]
theorem sc_law_kind : FnScope N_law_kind [("_law_e" : Str)] (defScope s_law_kind) := ⟨rfl, rfl, rfl, by decide +kernel, rfl, by decide +kernel, by decide +kernel⟩
abbrev s_law_caught : Stmt := top 56
abbrev N_law_caught : List Str := [("_law_call" : Str), ("_law_e" : Str)]
theorem sc_law_caught : FnScope N_law_caught [("_law_call" : Str)] (defScope s_law_caught) := ⟨rfl, rfl, rfl, by decide +kernel, rfl, by decide +kernel, by decide +kernel⟩
abbrev s_law_number : Stmt := top 58
abbrev N_law_number : List Str := [("_law_digits" : Str), ("_law_figures" : Str), ("_law_sign" : Str)]
theorem sc_law_number : FnScope N_law_number [("_law_digits" : Str)] (defScope s_law_number) := ⟨rfl, rfl, rfl, by decide +kernel, rfl, by decide +kernel, by decide +kernel⟩
abbrev s_law_read : Stmt := top 59
abbrev N_law_read : List Str := [("_law_row" : Str), ("_law_words_here" : Str), ("_law_width" : Str), ("_law_rides_here" : Str), ("_law_word" : Str), ("_law_front" : Str), ("_law_colon" : Str), ("_law_rest" : Str), ("_law_begin" : Str), ("_law_hyphen" : Str), ("_law_end_here" : Str), ("_law_places" : Str), ("_law_letters" : Str), ("_law_sign" : Str)]
theorem sc_law_read : FnScope N_law_read [("_law_row" : Str)] (defScope s_law_read) := ⟨rfl, rfl, rfl, by decide +kernel, rfl, by decide +kernel, by decide +kernel⟩
abbrev s_law_text_right : Stmt := top 60
abbrev N_law_text_right : List Str := [("_law_row" : Str), ("_law_told" : Str), ("_law_due" : Str)]
theorem sc_law_text_right : FnScope N_law_text_right [("_law_row" : Str)] (defScope s_law_text_right) := ⟨rfl, rfl, rfl, by decide +kernel, rfl, by decide +kernel, by decide +kernel⟩
abbrev s_law_words : Stmt := top 50
abbrev N_law_words : List Str := [("_law_pool_here" : Str), ("_law_many" : Str), ("_law_letters" : Str), ("_law_menu" : Str), ("_law_way" : Str), ("_law_begin" : Str), ("_law_stem" : Str), ("_law_at" : Str), ("_law_k" : Str)]
theorem sc_law_words : FnScope N_law_words [("_law_pool_here" : Str), ("_law_many" : Str)] (defScope s_law_words) := ⟨rfl, rfl, rfl, by decide +kernel, rfl, by decide +kernel, by decide +kernel⟩
abbrev s_law_right3 : Stmt := top 62
abbrev N_law_right3 : List Str := [("_law_pool_here" : Str), ("_law_turn" : Str), ("_law_width" : Str), ("_law_words_here" : Str), ("_law_rides_here" : Str), ("_law_made" : Str), ("_law_row" : Str), ("_law_told" : Str), ("_law_k" : Str)]
theorem sc_law_right3 : FnScope N_law_right3 [("_law_pool_here" : Str)] (defScope s_law_right3) := ⟨rfl, rfl, rfl, by decide +kernel, rfl, by decide +kernel, by decide +kernel⟩
abbrev s_law3 : Stmt := top 63
abbrev N_law3 : List Str := [("_law_script" : Str), ("_law_some" : Str), ("_law_many" : Str), ("_law_word" : Str), ("_law_row" : Str), ("_law_k" : Str)]
theorem sc_law3 : FnScope N_law3 [("_law_script" : Str)] (defScope s_law3) := ⟨rfl, rfl, rfl, by decide +kernel, rfl, by decide +kernel, by decide +kernel⟩
abbrev x_InvalidSeats : Stmt := inClass (top 3) 0
theorem xt_InvalidSeats : XTxt x_InvalidSeats "InvalidSeats.__init__" "value" where
 ex := ⟨_, _, _, _, _, _, _, _, _, _, _, _, _, rfl, rfl, rfl, fun _ _ _ _ => rfl, fun _ _ _ _ => ⟨_, rfl⟩, fun _ _ _ _ => rfl, fun _ _ _ _ => rfl⟩
 n1 := rfl
 n2 := rfl
 n3 := rfl
 n4 := rfl
 n5 := rfl
 n6 := rfl
 n7 := rfl
 n8 := by decide +kernel
 b := fun _ _ _ _ _ _ _ _ _ => rfl
abbrev x_InvalidText : Stmt := inClass (top 12) 0
theorem xt_InvalidText : XTxt x_InvalidText "InvalidText.__init__" "text" where
 ex := ⟨_, _, _, _, _, _, _, _, _, _, _, _, _, rfl, rfl, rfl, fun _ _ _ _ => rfl, fun _ _ _ _ => ⟨_, rfl⟩, fun _ _ _ _ => rfl, fun _ _ _ _ => rfl⟩
 n1 := rfl
 n2 := rfl
 n3 := rfl
 n4 := rfl
 n5 := rfl
 n6 := rfl
 n7 := rfl
 n8 := by decide +kernel
 b := fun _ _ _ _ _ _ _ _ _ => rfl
abbrev x_InvalidTrips : Stmt := inClass (top 4) 0
theorem xt_InvalidTrips : XTxt x_InvalidTrips "InvalidTrips.__init__" "index" where
 ex := ⟨_, _, _, _, _, _, _, _, _, _, _, _, _, rfl, rfl, rfl, fun _ _ _ _ => rfl, fun _ _ _ _ => ⟨_, rfl⟩, fun _ _ _ _ => rfl, fun _ _ _ _ => rfl⟩
 n1 := rfl
 n2 := rfl
 n3 := rfl
 n4 := rfl
 n5 := rfl
 n6 := rfl
 n7 := rfl
 n8 := by decide +kernel
 b := fun _ _ _ _ _ _ _ _ _ => rfl
structure Ad where
 CLine : Addr
 cL : Addr
 tL : Addr
 eL : Addr
 mL : Value
 XC : Str → Addr
 pS : Addr
 qT : Addr
 qC : Addr
 cT : Addr
 tT : Addr
 qc_read : Addr
 f_law_cell : Addr
 d_law_cell : FuncData
 f_law_pool : Addr
 d_law_pool : FuncData
 f_is_integer : Addr
 d_is_integer : FuncData
 f_check_seatsX : Addr
 d_check_seatsX : FuncData
 f_is_later : Addr
 d_is_later : FuncData
 f_is_station : Addr
 d_is_station : FuncData
 f_is_trip_name : Addr
 d_is_trip_name : FuncData
 f_is_tripE : Addr
 d_is_tripE : FuncData
 f_valid_beginningE : Addr
 d_valid_beginningE : FuncData
 f_Line_capacity : Addr
 d_Line_capacity : FuncData
 f_Line_trips : Addr
 d_Line_trips : FuncData
 f_Line_len : Addr
 d_Line_len : FuncData
 f_Line_eq : Addr
 d_Line_eq : FuncData
 f_Line_strB : Addr
 d_Line_strB : FuncData
 f_Line_reprB : Addr
 d_Line_reprB : FuncData
 f_Line_initX : Addr
 d_Line_initX : FuncData
 f_number_written : Addr
 d_number_written : FuncData
 f_trip_written : Addr
 d_trip_written : FuncData
 f_Line_read : Addr
 d_Line_read : FuncData
 f_law_draw : Addr
 d_law_draw : FuncData
 f_law_bent : Addr
 d_law_bent : FuncData
 f_law_far : Addr
 d_law_far : FuncData
 f_law_rides : Addr
 d_law_rides : FuncData
 f_law_text : Addr
 d_law_text : FuncData
 f_law_other_fields : Addr
 d_law_other_fields : FuncData
 f_law_fields : Addr
 d_law_fields : FuncData
 f_law_kind : Addr
 d_law_kind : FuncData
 f_law_caught : Addr
 d_law_caught : FuncData
 f_law_number : Addr
 d_law_number : FuncData
 f_law_read : Addr
 d_law_read : FuncData
 f_law_text_right : Addr
 d_law_text_right : FuncData
 f_law_words : Addr
 d_law_words : FuncData
 f_law_right3 : Addr
 d_law_right3 : FuncData
 f_law3 : Addr
 d_law3 : FuncData
structure Tx (P : Program) (w : World) (K : PySem.W.Frag) (mg : Str → Option Value) (a : Ad) : Prop where
 cl : Cls K a.CLine
 clt : ClsT K a.CLine
 g_Line : mg "Line" = some (.ref a.CLine)
 mkL : Mk K a.CLine a.f_Line_initX
 dfl : ∀ {O H}, Reps K O H [.tup []] [.ref a.eL]
 cr : ClX.CRead K a.CLine a.mL
 tne : a.tL ≠ a.tT
 cm_read : ClX.CMet K a.CLine a.mL "read" a.qc_read a.f_Line_read
 ci_read : ClX.CInst K a.CLine "read" a.qc_read a.f_Line_read
 p_trips : PropOf K a.CLine "trips" a.qT a.f_Line_trips
 p_capacity : PropOf K a.CLine "capacity" a.qC a.f_Line_capacity
 rp : PySem.W.findIn K (.ref a.CLine) "__repr__" = some (some (.ref a.f_Line_reprB))
 rpf : PySem.W.isFn K (.ref a.f_Line_reprB) = true
 ow : OwnC K a.CLine a.f_Line_eq a.f_Line_len a.f_Line_strB
 g_Busy : mg "Busy" = some (.ref (a.XC "Busy"))
 g_Full : mg "Full" = some (.ref (a.XC "Full"))
 g_InvalidAction : mg "InvalidAction" = some (.ref (a.XC "InvalidAction"))
 g_InvalidCommand : mg "InvalidCommand" = some (.ref (a.XC "InvalidCommand"))
 g_InvalidExchange : mg "InvalidExchange" = some (.ref (a.XC "InvalidExchange"))
 g_InvalidFixed : mg "InvalidFixed" = some (.ref (a.XC "InvalidFixed"))
 g_InvalidName : mg "InvalidName" = some (.ref (a.XC "InvalidName"))
 g_InvalidNumber : mg "InvalidNumber" = some (.ref (a.XC "InvalidNumber"))
 g_InvalidPlan : mg "InvalidPlan" = some (.ref (a.XC "InvalidPlan"))
 g_InvalidSeat : mg "InvalidSeat" = some (.ref (a.XC "InvalidSeat"))
 g_InvalidSeats : mg "InvalidSeats" = some (.ref (a.XC "InvalidSeats"))
 g_InvalidStation : mg "InvalidStation" = some (.ref (a.XC "InvalidStation"))
 g_InvalidText : mg "InvalidText" = some (.ref (a.XC "InvalidText"))
 g_InvalidTrips : mg "InvalidTrips" = some (.ref (a.XC "InvalidTrips"))
 g_NameTaken : mg "NameTaken" = some (.ref (a.XC "NameTaken"))
 g_NotALine : mg "NotALine" = some (.ref (a.XC "NotALine"))
 g_NotFree : mg "NotFree" = some (.ref (a.XC "NotFree"))
 g_NothingToUndo : mg "NothingToUndo" = some (.ref (a.XC "NothingToUndo"))
 g_Overfull : mg "Overfull" = some (.ref (a.XC "Overfull"))
 g_SeatError : mg "SeatError" = some (.ref (a.XC "SeatError"))
 g_SizeError : mg "SizeError" = some (.ref (a.XC "SizeError"))
 g_StateError : mg "StateError" = some (.ref (a.XC "StateError"))
 g_TooManyEntries : mg "TooManyEntries" = some (.ref (a.XC "TooManyEntries"))
 g_TooManyPlans : mg "TooManyPlans" = some (.ref (a.XC "TooManyPlans"))
 g_TooManyTrips : mg "TooManyTrips" = some (.ref (a.XC "TooManyTrips"))
 xa_InvalidSeats : XAll P K mg "InvalidSeats" (a.XC "InvalidSeats") "value"
 xa_InvalidText : XAll P K mg "InvalidText" (a.XC "InvalidText") "text"
 xa_InvalidTrips : XAll P K mg "InvalidTrips" (a.XC "InvalidTrips") "index"
 n_seat_count : NoAttr K a.CLine "seat_count"
 n_rows : NoAttr K a.CLine "rows"
 n_queue : NoAttr K a.CLine "queue"
 F_law_cell : Fun K "_law_cell" "_law_cell" s_law_cell a.f_law_cell a.d_law_cell
 g__law_cell : mg "_law_cell" = some (.ref a.f_law_cell)
 k__law_cell : PySem.W.keepIn K (.ref a.f_law_cell) = true
 F_law_pool : Fun K "_law_pool" "_law_pool" s_law_pool a.f_law_pool a.d_law_pool
 g__law_pool : mg "_law_pool" = some (.ref a.f_law_pool)
 k__law_pool : PySem.W.keepIn K (.ref a.f_law_pool) = true
 F_is_integer : Fun K "is_integer" "is_integer" s_is_integer a.f_is_integer a.d_is_integer
 g_is_integer : mg "is_integer" = some (.ref a.f_is_integer)
 k_is_integer : PySem.W.keepIn K (.ref a.f_is_integer) = true
 F_check_seatsX : Fun K "check_seats" "check_seats" s_check_seatsX a.f_check_seatsX a.d_check_seatsX
 g_check_seats : mg "check_seats" = some (.ref a.f_check_seatsX)
 k_check_seats : PySem.W.keepIn K (.ref a.f_check_seatsX) = true
 F_is_later : Fun K "is_later" "is_later" s_is_later a.f_is_later a.d_is_later
 g_is_later : mg "is_later" = some (.ref a.f_is_later)
 k_is_later : PySem.W.keepIn K (.ref a.f_is_later) = true
 F_is_station : Fun K "is_station" "is_station" s_is_station a.f_is_station a.d_is_station
 g_is_station : mg "is_station" = some (.ref a.f_is_station)
 k_is_station : PySem.W.keepIn K (.ref a.f_is_station) = true
 F_is_trip_name : Fun K "is_trip_name" "is_trip_name" s_is_trip_name a.f_is_trip_name a.d_is_trip_name
 g_is_trip_name : mg "is_trip_name" = some (.ref a.f_is_trip_name)
 k_is_trip_name : PySem.W.keepIn K (.ref a.f_is_trip_name) = true
 F_is_tripE : Fun K "is_trip" "is_trip" s_is_tripE a.f_is_tripE a.d_is_tripE
 g_is_trip : mg "is_trip" = some (.ref a.f_is_tripE)
 k_is_trip : PySem.W.keepIn K (.ref a.f_is_tripE) = true
 F_valid_beginningE : Fun K "valid_beginning" "valid_beginning" s_valid_beginningE a.f_valid_beginningE a.d_valid_beginningE
 g_valid_beginning : mg "valid_beginning" = some (.ref a.f_valid_beginningE)
 k_valid_beginning : PySem.W.keepIn K (.ref a.f_valid_beginningE) = true
 F_Line_capacity : Fun K "capacity" "Line.capacity" s_Line_capacity a.f_Line_capacity a.d_Line_capacity
 F_Line_trips : Fun K "trips" "Line.trips" s_Line_trips a.f_Line_trips a.d_Line_trips
 F_Line_len : Fun K "__len__" "Line.__len__" s_Line_len a.f_Line_len a.d_Line_len
 F_Line_eq : Fun K "__eq__" "Line.__eq__" s_Line_eq a.f_Line_eq a.d_Line_eq
 F_Line_strB : Fun K "__str__" "Line.__str__" s_Line_strB a.f_Line_strB a.d_Line_strB
 F_Line_reprB : Fun K "__repr__" "Line.__repr__" s_Line_reprB a.f_Line_reprB a.d_Line_reprB
 F_Line_initX : FunX K "__init__" "Line.__init__" s_Line_initX [.ref a.eL] a.cL a.f_Line_initX a.d_Line_initX
 F_number_written : Fun K "number_written" "number_written" s_number_written a.f_number_written a.d_number_written
 g_number_written : mg "number_written" = some (.ref a.f_number_written)
 k_number_written : PySem.W.keepIn K (.ref a.f_number_written) = true
 F_trip_written : Fun K "trip_written" "trip_written" s_trip_written a.f_trip_written a.d_trip_written
 g_trip_written : mg "trip_written" = some (.ref a.f_trip_written)
 k_trip_written : PySem.W.keepIn K (.ref a.f_trip_written) = true
 F_Line_read : Fun K "read" "Line.read" s_Line_read a.f_Line_read a.d_Line_read
 F_law_draw : Fun K "_law_draw" "_law_draw" s_law_draw a.f_law_draw a.d_law_draw
 g__law_draw : mg "_law_draw" = some (.ref a.f_law_draw)
 k__law_draw : PySem.W.keepIn K (.ref a.f_law_draw) = true
 F_law_bent : Fun K "_law_bent" "_law_bent" s_law_bent a.f_law_bent a.d_law_bent
 g__law_bent : mg "_law_bent" = some (.ref a.f_law_bent)
 k__law_bent : PySem.W.keepIn K (.ref a.f_law_bent) = true
 F_law_far : Fun K "_law_far" "_law_far" s_law_far a.f_law_far a.d_law_far
 g__law_far : mg "_law_far" = some (.ref a.f_law_far)
 k__law_far : PySem.W.keepIn K (.ref a.f_law_far) = true
 F_law_rides : Fun K "_law_rides" "_law_rides" s_law_rides a.f_law_rides a.d_law_rides
 g__law_rides : mg "_law_rides" = some (.ref a.f_law_rides)
 k__law_rides : PySem.W.keepIn K (.ref a.f_law_rides) = true
 F_law_text : Fun K "_law_text" "_law_text" s_law_text a.f_law_text a.d_law_text
 g__law_text : mg "_law_text" = some (.ref a.f_law_text)
 k__law_text : PySem.W.keepIn K (.ref a.f_law_text) = true
 F_law_other_fields : Fun K "_law_other_fields" "_law_other_fields" s_law_other_fields a.f_law_other_fields a.d_law_other_fields
 g__law_other_fields : mg "_law_other_fields" = some (.ref a.f_law_other_fields)
 k__law_other_fields : PySem.W.keepIn K (.ref a.f_law_other_fields) = true
 F_law_fields : Fun K "_law_fields" "_law_fields" s_law_fields a.f_law_fields a.d_law_fields
 g__law_fields : mg "_law_fields" = some (.ref a.f_law_fields)
 k__law_fields : PySem.W.keepIn K (.ref a.f_law_fields) = true
 F_law_kind : Fun K "_law_kind" "_law_kind" s_law_kind a.f_law_kind a.d_law_kind
 g__law_kind : mg "_law_kind" = some (.ref a.f_law_kind)
 k__law_kind : PySem.W.keepIn K (.ref a.f_law_kind) = true
 F_law_caught : Fun K "_law_caught" "_law_caught" s_law_caught a.f_law_caught a.d_law_caught
 g__law_caught : mg "_law_caught" = some (.ref a.f_law_caught)
 k__law_caught : PySem.W.keepIn K (.ref a.f_law_caught) = true
 F_law_number : Fun K "_law_number" "_law_number" s_law_number a.f_law_number a.d_law_number
 g__law_number : mg "_law_number" = some (.ref a.f_law_number)
 k__law_number : PySem.W.keepIn K (.ref a.f_law_number) = true
 F_law_read : Fun K "_law_read" "_law_read" s_law_read a.f_law_read a.d_law_read
 g__law_read : mg "_law_read" = some (.ref a.f_law_read)
 k__law_read : PySem.W.keepIn K (.ref a.f_law_read) = true
 F_law_text_right : FunC K "_law_text_right" "_law_text_right" s_law_text_right a.cT a.f_law_text_right a.d_law_text_right
 g__law_text_right : mg "_law_text_right" = some (.ref a.f_law_text_right)
 k__law_text_right : PySem.W.keepIn K (.ref a.f_law_text_right) = true
 F_law_words : Fun K "_law_words" "_law_words" s_law_words a.f_law_words a.d_law_words
 g__law_words : mg "_law_words" = some (.ref a.f_law_words)
 k__law_words : PySem.W.keepIn K (.ref a.f_law_words) = true
 F_law_right3 : Fun K "_law_right" "_law_right" s_law_right3 a.f_law_right3 a.d_law_right3
 g__law_right : mg "_law_right" = some (.ref a.f_law_right3)
 k__law_right : PySem.W.keepIn K (.ref a.f_law_right3) = true
 F_law3 : Fun K "law" "law" s_law3 a.f_law3 a.d_law3
 g_law : mg "law" = some (.ref a.f_law3)
 k_law : PySem.W.keepIn K (.ref a.f_law3) = true
 b_ArithmeticError : mg "ArithmeticError" = none
 v_DIGITS : ∃ u, mg "DIGITS" = some u ∧ RelV (.str ("0123456789" : Str)) u
 v_LETTERS : ∃ u, mg "LETTERS" = some u ∧ RelV (.str ("abcdefghijklmnopqrstuvwxyz" : Str)) u
 v_LONGEST_NAME : ∃ u, mg "LONGEST_NAME" = some u ∧ RelV (.int 8) u
 b_LookupError : mg "LookupError" = none
 v_MAX_SEATS : ∃ u, mg "MAX_SEATS" = some u ∧ RelV (.int 20) u
 v_MAX_TRIPS : ∃ u, mg "MAX_TRIPS" = some u ∧ RelV (.int 24) u
 b_ValueError : mg "ValueError" = none
 b_abs : mg "abs" = none
 b_all : mg "all" = none
 b_bool : mg "bool" = none
 b_divmod : mg "divmod" = none
 b_enumerate : mg "enumerate" = none
 b_int : mg "int" = none
 b_isinstance : mg "isinstance" = none
 b_len : mg "len" = none
 b_max : mg "max" = none
 b_min : mg "min" = none
 b_range : mg "range" = none
 b_repr : mg "repr" = none
 b_sorted : mg "sorted" = none
 b_str : mg "str" = none
 b_super : mg "super" = none
 b_tuple : mg "tuple" = none
section
variable {P : Program} {w : World} {K : PySem.W.Frag} {mg : Str → Option Value} {base : Heap} {a : Ad}
abbrev TT (a : Ad) : List (Addr × Str) := [(a.tL, ("Line.__init__.<locals>.<lambda>" : Str)), (a.tT, ("_law_text_right.<locals>.<lambda>" : Str))]
structure TB2 (base : Heap) (mg : Str → Option Value) (a : Ad) : Prop where
 t1 : LamX.TabB base mg a.cL a.tL
 t2 : LamX.TabB base mg a.cT a.tT
theorem TT_mem_t1 (a : Ad) : (a.tL, ("Line.__init__.<locals>.<lambda>" : Str)) ∈ TT a := List.mem_cons_self
theorem TT_mem_t2 (a : Ad) : (a.tT, ("_law_text_right.<locals>.<lambda>" : Str)) ∈ TT a := List.mem_cons_of_mem _ List.mem_cons_self
theorem TT_one_t1 (t : Tx P w K mg a) : ∀ q ∈ TT a, q.1 = a.tL → q.2 = ("Line.__init__.<locals>.<lambda>" : Str) := fun q hq e => by
 rcases List.mem_cons.mp hq with rfl | hq
 ·rfl
 ·rw [List.mem_singleton.mp hq] at e
  exact absurd e.symm t.tne
theorem TT_one_t2 (t : Tx P w K mg a) : ∀ q ∈ TT a, q.1 = a.tT → q.2 = ("_law_text_right.<locals>.<lambda>" : Str) := fun q hq e => by
 rcases List.mem_cons.mp hq with rfl | hq
 ·exact absurd e t.tne
 ·rw [List.mem_singleton.mp hq]
theorem bd_law_cell (t : Tx P w K mg a) : Binds K a.d_law_cell [("_law_script" : Str), ("_law_k" : Str)] [] := t.F_law_cell.binds fun _ _ _ _ _ _ us hl => match us, hl with | [_, _], _ => rfl
theorem ok_law_cell (t : Tx P w K mg a) (tb : TB2 base mg a) : FnOk P w K mg base CX0 1 a.f_law_cell a.d_law_cell [("_law_script" : Str), ("_law_k" : Str)] (upSp K (TT a) (sp_law_cell K a.CLine)) :=
 okP t.F_law_cell sc_law_cell (fun _ _ h => len_law_cell h) (by decide) fun cdv A outer s H E hr => ⟨ts_law_cell K a.CLine, zs_cons (z_if (zt_cmp zo_lt (zv 1) (z_callB zc_len (by rfl) t.b_len (by decide +kernel) (za_cons (zv 0) (za_nil)))) (zs_one (z_ret (z_ix (zv 0) (zv 1)))) (zs_nil)) (zs_cons (z_set (i := 2) sc_law_cell.nd rfl (Or.inl rfl) (z_op zo_mod (z_op zo_mulA (z_int) (z_op zo_add (z_op zo_add (z_op zo_mulA (zv 1) (zv 1)) (z_op zo_mulA (z_int) (zv 1))) (z_int))) (z_int))) (zs_cons (z_for PassesOwn.never rfl (zi_list (z_slice (zv 0) (zp_none) (zp_some (z_int)))) (zg_name (i := 3) sc_law_cell.nd rfl (Or.inl rfl)) (zs_one (z_set (i := 2) sc_law_cell.nd rfl (Or.inl rfl) (z_op zo_mod (z_op zo_add (z_op zo_mulA (zv 2) (z_int)) (zv 3)) (z_int))))) (zs_one (z_ret (zv 2))))), fun _ _ h => rd_law_cell h⟩
theorem bd_law_pool (t : Tx P w K mg a) : Binds K a.d_law_pool [("_law_cell_here" : Str)] [] := t.F_law_pool.binds fun _ _ _ _ _ _ us hl => match us, hl with | [_], _ => rfl
theorem ok_law_pool (t : Tx P w K mg a) (tb : TB2 base mg a) : FnOk P w K mg base CX0 1 a.f_law_pool a.d_law_pool [("_law_cell_here" : Str)] (upSpF K (TT a) (sp_law_pool K a.CLine)) :=
 okF t.F_law_pool sc_law_pool (fun _ _ h => len_law_pool h) (by decide) fun cdv A outer s H E hr => ⟨ts_law_pool K a.CLine, zsf_cons (z_set (i := 1) sc_law_pool.nd rfl (Or.inl rfl) (z_int)) (zsf_cons (z_if ((zw_or (zt_cmp zo_lt (zv 0) (z_int)) (zw_or1 (zt_cmp zo_ge (zv 0) (z_op zo_pow (z_int) (z_int))))).pt) (zs_one (z_set (i := 1) sc_law_pool.nd rfl (Or.inl rfl) (z_callB zc_abs (by rfl) t.b_abs (by decide +kernel) (za_cons (zv 0) (za_nil))))) (zs_nil)) (zsf_ret (zf_lst (za_cons (z_op zo_mod (zv 0) (z_int)) (za_cons (zv 1) (za_cons (z_int) (za_nil))))))), fun _ _ h => rd_law_pool h⟩
theorem bd_is_integer (t : Tx P w K mg a) : Binds K a.d_is_integer [("thing" : Str)] [] := t.F_is_integer.binds fun _ _ _ _ _ _ us hl => match us, hl with | [_], _ => rfl
theorem ok_is_integer (t : Tx P w K mg a) (tb : TB2 base mg a) : FnOk P w K mg base CX0 1 a.f_is_integer a.d_is_integer [("thing" : Str)] (upSp K (TT a) (sp_is_integer K a.CLine)) :=
 okP t.F_is_integer sc_is_integer (fun _ _ h => len_is_integer h) (by decide) fun cdv A outer s H E hr => ⟨ts_is_integer K a.CLine, zs_one (z_ret (z_and (z_callB zc_isi (by rfl) t.b_isinstance (by decide +kernel) (za_cons (zv 0) (za_cons (z_ty (by rfl) t.b_int (by decide +kernel)) (za_nil)))) (z_one (z_not (z_callB zc_isi (by rfl) t.b_isinstance (by decide +kernel) (za_cons (zv 0) (za_cons (z_ty (by rfl) t.b_bool (by decide +kernel)) (za_nil)))))))), fun _ _ h => rd_is_integer h⟩
theorem bd_check_seatsX (t : Tx P w K mg a) : Binds K a.d_check_seatsX [("seats" : Str)] [] := t.F_check_seatsX.binds fun _ _ _ _ _ _ us hl => match us, hl with | [_], _ => rfl
theorem okx_check_seatsX (t : Tx P w K mg a) (tb : TB2 base mg a) : FnOk P w K mg base (L2N.CX P w) 2 a.f_check_seatsX a.d_check_seatsX [("seats" : Str)] (upSpX K (TT a) (sp_check_seatsX K a.CLine a.XC)) :=
 okXP t.F_check_seatsX sc_check_seatsX (fun _ _ _ h => len_check_seatsX h) (by decide) fun cdv A outer s H E hr tk hp => ⟨ts_check_seatsX K a.CLine a.XC, zxs_one (zx_if ((zw_or (zt_not (zt_val (z_call (ok_is_integer t tb) (hr.mono (by decide)) (by rfl) t.g_is_integer t.k_is_integer (bd_is_integer t) .nil (fun _ _ => .nil) (za_cons (zv 0) (za_nil))))) (zw_or1 (zt_not (zt_chain zo_le zo_le (z_int) (zv 0) (z_gi (by rfl) t.v_MAX_SEATS))))).pt) (zxs_one (zx_raise t.xa_InvalidSeats.ok t.b_super tk rfl (L2H.roomH_of (hr.mono (by decide))) (by rfl) (zv 0))) (zxs_pl (zs_nil))), fun _ _ _ h => rd_check_seatsX h⟩
theorem bd_is_later (t : Tx P w K mg a) : Binds K a.d_is_later [("thing" : Str), ("start" : Str)] [] := t.F_is_later.binds fun _ _ _ _ _ _ us hl => match us, hl with | [_, _], _ => rfl
theorem ok_is_later (t : Tx P w K mg a) (tb : TB2 base mg a) : FnOk P w K mg base CX0 2 a.f_is_later a.d_is_later [("thing" : Str), ("start" : Str)] (upSp K (TT a) (sp_is_later K a.CLine)) :=
 okP t.F_is_later sc_is_later (fun _ _ h => len_is_later h) (by decide) fun cdv A outer s H E hr => ⟨ts_is_later K a.CLine, zs_one (z_ret (z_and (z_call (ok_is_integer t tb) (hr.mono (by decide)) (by rfl) t.g_is_integer t.k_is_integer (bd_is_integer t) .nil (fun _ _ => .nil) (za_cons (zv 0) (za_nil))) (z_one (z_cmp zo_gt (zv 0) (zv 1))))), fun _ _ h => rd_is_later h⟩
theorem bd_is_station (t : Tx P w K mg a) : Binds K a.d_is_station [("thing" : Str)] [] := t.F_is_station.binds fun _ _ _ _ _ _ us hl => match us, hl with | [_], _ => rfl
theorem ok_is_station (t : Tx P w K mg a) (tb : TB2 base mg a) : FnOk P w K mg base CX0 2 a.f_is_station a.d_is_station [("thing" : Str)] (upSp K (TT a) (sp_is_station K a.CLine)) :=
 okP t.F_is_station sc_is_station (fun _ _ h => len_is_station h) (by decide) fun cdv A outer s H E hr => ⟨ts_is_station K a.CLine, zs_one (z_ret (z_and (z_call (ok_is_integer t tb) (hr.mono (by decide)) (by rfl) t.g_is_integer t.k_is_integer (bd_is_integer t) .nil (fun _ _ => .nil) (za_cons (zv 0) (za_nil))) (z_one (z_cmp zo_ge (zv 0) (z_int))))), fun _ _ h => rd_is_station h⟩
theorem bd_is_trip_name (t : Tx P w K mg a) : Binds K a.d_is_trip_name [("thing" : Str)] [] := t.F_is_trip_name.binds fun _ _ _ _ _ _ us hl => match us, hl with | [_], _ => rfl
theorem ok_is_trip_name (t : Tx P w K mg a) (tb : TB2 base mg a) : FnOk P w K mg base CX0 1 a.f_is_trip_name a.d_is_trip_name [("thing" : Str)] (upSp K (TT a) (sp_is_trip_name K a.CLine)) :=
 okP t.F_is_trip_name sc_is_trip_name (fun _ _ h => len_is_trip_name h) (by decide) fun cdv A outer s H E hr => ⟨ts_is_trip_name K a.CLine, zs_cons (z_if ((zw_or (zt_not (zt_val (z_callB zc_isi (by rfl) t.b_isinstance (by decide +kernel) (za_cons (zv 0) (za_cons (z_ty (by rfl) t.b_str (by decide +kernel)) (za_nil)))))) (zw_or1 (zt_not (zt_chain zo_le zo_le (z_int) (z_callB zc_len (by rfl) t.b_len (by decide +kernel) (za_cons (zv 0) (za_nil))) (z_gi (by rfl) t.v_LONGEST_NAME))))).pt) (zs_one (z_ret (z_bl))) (zs_nil)) (zs_one (z_ret (z_callB (zc_all rfl) (by rfl) t.b_all (by decide +kernel) (za_cons (z_val (zf_lc (own := [(("letter" : Str), 1)]) (pe_lc (own := [(("letter" : Str), 1)]) rfl sc_is_trip_name.nd (zi_str (zv 0)) (blkOk_by (own := [(("letter" : Str), 1)]) (N := N_is_trip_name) (sc := defScope s_is_trip_name) (by decide +kernel)) (fun _ _ _ _ _ => zgw_name (by decide) (pg_name (i := 1) sc_is_trip_name.nd rfl (Or.inl rfl))) (fun _ _ _ _ _ => zts_nil) (fun _ _ _ _ _ => z_cmp zo_in (zv 1) (z_gs (by rfl) t.v_LETTERS))))) (za_nil))))), fun _ _ h => rd_is_trip_name h⟩
theorem bd_is_tripE (t : Tx P w K mg a) : Binds K a.d_is_tripE [("thing" : Str)] [] := t.F_is_tripE.binds fun _ _ _ _ _ _ us hl => match us, hl with | [_], _ => rfl
theorem ok_is_tripE (t : Tx P w K mg a) (tb : TB2 base mg a) : FnOk P w K mg base CX0 3 a.f_is_tripE a.d_is_tripE [("thing" : Str)] (upSp K (TT a) (sp_is_tripE K a.CLine)) :=
 okP t.F_is_tripE sc_is_tripE (fun _ _ h => len_is_tripE h) (by decide) fun cdv A outer s H E hr => ⟨ts_is_tripE K a.CLine, zs_cons (z_if ((zw_or (zt_not (zt_val (z_callB zc_isi (by rfl) t.b_isinstance (by decide +kernel) (za_cons (zv 0) (za_cons (z_ty (by rfl) t.b_tuple (by decide +kernel)) (za_nil)))))) (zw_or1 (zt_cmp zo_neI (z_callB zc_len (by rfl) t.b_len (by decide +kernel) (za_cons (zv 0) (za_nil))) (z_int)))).pt) (zs_one (z_ret (z_bl))) (zs_nil)) (zs_cons (z_asg (zv 0) (zg_tup (pg_tup rfl (zgs_cons1 (zg_name (i := 1) sc_is_tripE.nd rfl (Or.inl rfl)) (zgs_cons1 (zg_name (i := 2) sc_is_tripE.nd rfl (Or.inl rfl)) (zgs_cons1 (zg_name (i := 3) sc_is_tripE.nd rfl (Or.inl rfl)) (zgs_nil))))))) (zs_one (z_ret (z_and (z_call (ok_is_trip_name t tb) (hr.mono (by decide)) (by rfl) t.g_is_trip_name t.k_is_trip_name (bd_is_trip_name t) .nil (fun _ _ => .nil) (za_cons (zv 1) (za_nil))) (z_and (z_call (ok_is_station t tb) (hr.mono (by decide)) (by rfl) t.g_is_station t.k_is_station (bd_is_station t) .nil (fun _ _ => .nil) (za_cons (zv 2) (za_nil))) (z_one (z_call (ok_is_later t tb) (hr.mono (by decide)) (by rfl) t.g_is_later t.k_is_later (bd_is_later t) .nil (fun _ _ => .nil) (za_cons (zv 3) (za_cons (zv 2) (za_nil)))))))))), fun _ _ h => rd_is_tripE h⟩
theorem bd_valid_beginningE (t : Tx P w K mg a) : Binds K a.d_valid_beginningE [("trips" : Str)] [] := t.F_valid_beginningE.binds fun _ _ _ _ _ _ us hl => match us, hl with | [_], _ => rfl
theorem ok_valid_beginningE (t : Tx P w K mg a) (tb : TB2 base mg a) : FnOk P w K mg base CX0 4 a.f_valid_beginningE a.d_valid_beginningE [("trips" : Str)] (upSp K (TT a) (sp_valid_beginningE K a.CLine)) :=
 okP t.F_valid_beginningE sc_valid_beginningE (fun _ _ h => len_valid_beginningE h) (by decide) fun cdv A outer s H E hr => ⟨ts_valid_beginningE K a.CLine, zs_cons (z_set (i := 1) sc_valid_beginningE.nd rfl (Or.inl rfl) (z_str)) (zs_cons (z_for PassesOwn.never rfl (zi_enum1 (by rfl) t.b_enumerate (zv 0)) (zg_tup (pg_tup rfl (zgs_cons1 (zg_name (i := 2) sc_valid_beginningE.nd rfl (Or.inl rfl)) (zgs_cons1 (zg_name (i := 3) sc_valid_beginningE.nd rfl (Or.inl rfl)) (zgs_nil))))) (zs_cons (z_if ((zw_or (zt_cmp zo_eqI (zv 2) (z_gi (by rfl) t.v_MAX_TRIPS)) (zw_or (zt_not (zt_val (z_call (ok_is_tripE t tb) (hr.mono (by decide)) (by rfl) t.g_is_trip t.k_is_trip (bd_is_tripE t) .nil (fun _ _ => .nil) (za_cons (zv 3) (za_nil))))) (zw_or1 (zt_cmp zo_le (z_ix (zv 3) (z_int)) (zv 1))))).pt) (zs_one (z_ret (zv 2))) (zs_nil)) (zs_one (z_set (i := 1) sc_valid_beginningE.nd rfl (Or.inl rfl) (z_ix (zv 3) (z_int)))))) (zs_one (z_ret (z_callB zc_len (by rfl) t.b_len (by decide +kernel) (za_cons (zv 0) (za_nil)))))), fun _ _ h => rd_valid_beginningE h⟩
theorem bd_Line_capacity (t : Tx P w K mg a) : Binds K a.d_Line_capacity [("self" : Str)] [] := t.F_Line_capacity.binds fun _ _ _ _ _ _ us hl => match us, hl with | [_], _ => rfl
theorem ok_Line_capacity (t : Tx P w K mg a) (tb : TB2 base mg a) : FnOk P w K mg base CX0 1 a.f_Line_capacity a.d_Line_capacity [("self" : Str)] (upSp K (TT a) (sp_Line_capacity K a.CLine)) :=
 okP t.F_Line_capacity sc_Line_capacity (fun _ _ h => len_Line_capacity h) (by decide) fun cdv A outer s H E hr => ⟨ts_Line_capacity K a.CLine, zs_one (z_ret (z_fld t.cl t.n_seat_count (zv 0))), fun _ _ h => rd_Line_capacity h⟩
theorem bd_Line_trips (t : Tx P w K mg a) : Binds K a.d_Line_trips [("self" : Str)] [] := t.F_Line_trips.binds fun _ _ _ _ _ _ us hl => match us, hl with | [_], _ => rfl
theorem ok_Line_trips (t : Tx P w K mg a) (tb : TB2 base mg a) : FnOk P w K mg base CX0 1 a.f_Line_trips a.d_Line_trips [("self" : Str)] (upSp K (TT a) (sp_Line_trips K a.CLine)) :=
 okP t.F_Line_trips sc_Line_trips (fun _ _ h => len_Line_trips h) (by decide) fun cdv A outer s H E hr => ⟨ts_Line_trips K a.CLine, zs_one (z_ret (z_fld t.cl t.n_rows (zv 0))), fun _ _ h => rd_Line_trips h⟩
theorem bd_Line_eq (t : Tx P w K mg a) : Binds K a.d_Line_eq [("self" : Str), ("other" : Str)] [] := t.F_Line_eq.binds fun _ _ _ _ _ _ us hl => match us, hl with | [_, _], _ => rfl
theorem ok_Line_eq (t : Tx P w K mg a) (tb : TB2 base mg a) : FnOk P w K mg base CX0 1 a.f_Line_eq a.d_Line_eq [("self" : Str), ("other" : Str)] (upSp K (TT a) (sp_Line_eq K a.CLine)) :=
 okP t.F_Line_eq sc_Line_eq (fun _ _ h => len_Line_eq h) (by decide) fun cdv A outer s H E hr => ⟨ts_Line_eq K a.CLine, zs_one (z_ret (z_and (z_callB zc_isi (by rfl) t.b_isinstance (by decide +kernel) (za_cons (zv 1) (za_cons (z_gc (by rfl) t.g_Line) (za_nil)))) (z_and (z_cmp (zo_eq hr.units) (z_fld t.cl t.n_seat_count (zv 0)) (z_fld t.cl t.n_seat_count (zv 1))) (z_one (z_cmp (zo_eq hr.units) (z_fld t.cl t.n_rows (zv 0)) (z_fld t.cl t.n_rows (zv 1))))))), fun _ _ h => rd_Line_eq h⟩
theorem bd_Line_strB (t : Tx P w K mg a) : Binds K a.d_Line_strB [("self" : Str)] [] := t.F_Line_strB.binds fun _ _ _ _ _ _ us hl => match us, hl with | [_], _ => rfl
theorem ok_Line_strB (t : Tx P w K mg a) (tb : TB2 base mg a) : FnOk P w K mg base CX0 1 a.f_Line_strB a.d_Line_strB [("self" : Str)] (upSp K (TT a) (sp_Line_strB K a.CLine)) :=
 okP t.F_Line_strB sc_Line_strB (fun _ _ h => len_Line_strB h) (by decide) fun cdv A outer s H E hr => ⟨ts_Line_strB K a.CLine, zs_cons (z_setLc (own := [(("name" : Str), 2), (("start" : Str), 3), (("end" : Str), 4)]) (i := 1) (ps_setLc (own := [(("name" : Str), 2), (("start" : Str), 3), (("end" : Str), 4)]) rfl sc_Line_strB.nd (i := 1) rfl rfl rfl (zi_tup (z_fld t.cl t.n_rows (zv 0))) (blkOk_by (own := [(("name" : Str), 2), (("start" : Str), 3), (("end" : Str), 4)]) (N := N_Line_strB) (sc := defScope s_Line_strB) (by decide +kernel)) (fun _ _ _ _ _ => zgw_tup (pg_tup rfl (zgsw_cons (pgs_cons (zgw_name (by decide) (pg_name (i := 2) sc_Line_strB.nd rfl (Or.inl rfl))) (zgsw_cons (pgs_cons (zgw_name (by decide) (pg_name (i := 3) sc_Line_strB.nd rfl (Or.inl rfl))) (zgsw_cons (pgs_cons (zgw_name (by decide) (pg_name (i := 4) sc_Line_strB.nd rfl (Or.inl rfl))) (zgsw_nil))))))))) (fun _ _ _ _ _ => zts_nil) (fun _ _ _ _ _ => z_js (ts := [tFmtP (tVarP 2), tConP (.str (":" : Str)), tFmtP (tVarP 3), tConP (.str ("-" : Str)), tFmtP (tVarP 4)]) (.cons (z_fmt (zv 2)) (.cons (z_str) (.cons (z_fmt (zv 3)) (.cons (z_str) (.cons (z_fmt (zv 4)) (.nil))))))))) (zs_one (z_ret (z_join rfl (pe_join (z_str) (z_lst (za_cons (z_callTy zc_str (by rfl) t.b_str (by decide +kernel) (za_cons (z_fld t.cl t.n_seat_count (zv 0)) (za_nil))) (za_star (zv 1) (za_nil)))))))), fun _ _ h => rd_Line_strB h⟩
theorem bd_Line_reprB (t : Tx P w K mg a) : Binds K a.d_Line_reprB [("self" : Str)] [] := t.F_Line_reprB.binds fun _ _ _ _ _ _ us hl => match us, hl with | [_], _ => rfl
theorem ok_Line_reprB (t : Tx P w K mg a) (tb : TB2 base mg a) : FnOk P w K mg base CX0 5 a.f_Line_reprB a.d_Line_reprB [("self" : Str)] (upSp K (TT a) (sp_Line_reprB K a.CLine)) :=
 okP t.F_Line_reprB sc_Line_reprB (fun _ _ h => len_Line_reprB h) (by decide) fun cdv A outer s H E hr => ⟨ts_Line_reprB K a.CLine, zs_one (z_ret (z_js (ts := [tConP (.str ("Line('" : Str)), tFmtP (tStrOP a.CLine (sp_Line_strB K a.CLine) (tConsP (tVarP 0) (tNilP))), tConP (.str ("')" : Str))]) (.cons (z_str) (.cons (z_fmt (z_strO t.ow (call_strO (ok_Line_strB t tb) (hr.mono (by decide)) t.ow (bd_Line_strB t)) (by rfl) t.b_str (by decide +kernel) (za_cons (zv 0) (za_nil)))) (.cons (z_str) (.nil)))))), fun _ _ h => rd_Line_reprB h⟩
theorem bd_Line_initX (t : Tx P w K mg a) : Binds K a.d_Line_initX [("self" : Str), ("seats" : Str), ("trips" : Str)] [] := t.F_Line_initX.b0 (by simp) fun T kV doc pm an cdv ct us its h1 h2 => match us, its, h1, h2 with | [_, _, _], [_], _, _ => ⟨_, rfl, rfl⟩
theorem okx_Line_initX (t : Tx P w K mg a) (tb : TB2 base mg a) : FnOk P w K mg base (L2N.CX P w) 5 a.f_Line_initX a.d_Line_initX [("self" : Str), ("seats" : Str), ("trips" : Str)] (upSpRX K (TT a) (sp_Line_initX K a.CLine a.XC)) :=
 okXRX (nm := ("self" : Str)) (N := [("seats" : Str), ("trips" : Str), ("valid" : Str)]) (ps := [("seats" : Str), ("trips" : Str)]) t.F_Line_initX sc_Line_initX (fun _ _ _ _ h => len_Line_initX h) (by decide) fun A outer s H E hr tk hp => ⟨ts_Line_initX K a.CLine a.XC, zxs_cons (zx_expr (zx_call (okx_check_seatsX t tb) tk (hr.mono (by decide)) (by rfl) t.g_check_seats t.k_check_seats (bd_check_seatsX t) .nil (fun _ _ => .nil) (za_cons (zv 1) (za_nil)))) (zxs_cons (zx_if (zt_not (zt_val (z_callB zc_isi (by rfl) t.b_isinstance (by decide +kernel) (za_cons (zv 2) (za_cons (z_ty (by rfl) t.b_tuple (by decide +kernel)) (za_nil)))))) (zxs_one (zx_raise t.xa_InvalidTrips.ok t.b_super tk rfl (L2H.roomH_of (hr.mono (by decide))) (by rfl) (z_non))) (zxs_pl (zs_nil))) (zxs_cons (zx_pl (z_set (i := 3) sc_Line_initX.nd rfl (Or.inl rfl) (z_call (ok_valid_beginningE t tb) (hr.mono (by decide)) (by rfl) t.g_valid_beginning t.k_valid_beginning (bd_valid_beginningE t) .nil (fun _ _ => .nil) (za_cons (zv 2) (za_nil))))) (zxs_cons (zx_if (zt_cmp zo_lt (zv 3) (z_callB zc_len (by rfl) t.b_len (by decide +kernel) (za_cons (zv 2) (za_nil)))) (zxs_one (zx_raise t.xa_InvalidTrips.ok t.b_super tk rfl (L2H.roomH_of (hr.mono (by decide))) (by rfl) (zv 3))) (zxs_pl (zs_nil))) (zxs_pl (zs_cons (z_fldS t.cl t.n_seat_count (pv 0) (zv 1)) (zs_cons (z_fldS t.cl t.n_rows (pv 0) (zv 2)) (zs_one (z_fldS t.cl t.n_queue (pv 0) (z_callTy zc_tuple (by rfl) t.b_tuple (by decide +kernel) (za_cons (z_sortL (x := Str.empty) (i := 1) (j := 0) (nm := ("row" : Str)) (by rfl) t.b_sorted (zv 2) hr ⟨rfl, rfl, rfl, rfl, by decide +kernel⟩ rfl tb.t1 rfl (TT_mem_t1 a) (TT_one_t1 t) (by decide +kernel) rfl (fun _ _ _ _ _ => rfl) ⟨by decide, by decide⟩ ⟨by decide, by decide⟩ (by decide)) (za_nil))))))))))), fun _ _ _ _ h => rd_Line_initX h⟩
theorem bd_number_written (t : Tx P w K mg a) : Binds K a.d_number_written [("word" : Str)] [] := t.F_number_written.binds fun _ _ _ _ _ _ us hl => match us, hl with | [_], _ => rfl
theorem ok_number_written (t : Tx P w K mg a) (tb : TB2 base mg a) : FnOk P w K mg base CX0 1 a.f_number_written a.d_number_written [("word" : Str)] (upSp K (TT a) (sp_number_written K a.CLine)) :=
 okP t.F_number_written sc_number_written (fun _ _ h => len_number_written h) (by decide) fun cdv A outer s H E hr => ⟨ts_number_written K a.CLine, zs_cons (z_if ((zw_or (zt_cmp zo_eqI (zv 0) (z_str)) (zw_or1 (zt_not (zt_val (z_callB (zc_all rfl) (by rfl) t.b_all (by decide +kernel) (za_cons (z_val (zf_lc (own := [(("digit" : Str), 1)]) (pe_lc (own := [(("digit" : Str), 1)]) rfl sc_number_written.nd (zi_str (zv 0)) (blkOk_by (own := [(("digit" : Str), 1)]) (N := N_number_written) (sc := defScope s_number_written) (by decide +kernel)) (fun _ _ _ _ _ => zgw_name (by decide) (pg_name (i := 1) sc_number_written.nd rfl (Or.inl rfl))) (fun _ _ _ _ _ => zts_nil) (fun _ _ _ _ _ => z_cmp zo_in (zv 1) (z_gs (by rfl) t.v_DIGITS))))) (za_nil))))))).pt) (zs_one (z_ret (z_non))) (zs_nil)) (zs_cons (z_if ((zw_and (zt_cmp zo_eqI (z_ix (zv 0) (z_int)) (z_str)) (zw_and1 (zt_cmp zo_gt (z_callB zc_len (by rfl) t.b_len (by decide +kernel) (za_cons (zv 0) (za_nil))) (z_int)))).pt) (zs_one (z_ret (z_non))) (zs_nil)) (zs_one (z_ret (z_callTy zc_intS (by rfl) t.b_int (by decide +kernel) (za_cons (zv 0) (za_nil)))))), fun _ _ h => rd_number_written h⟩
theorem bd_trip_written (t : Tx P w K mg a) : Binds K a.d_trip_written [("word" : Str)] [] := t.F_trip_written.binds fun _ _ _ _ _ _ us hl => match us, hl with | [_], _ => rfl
theorem ok_trip_written (t : Tx P w K mg a) (tb : TB2 base mg a) : FnOk P w K mg base CX0 2 a.f_trip_written a.d_trip_written [("word" : Str)] (upSp K (TT a) (sp_trip_written K a.CLine)) :=
 okP t.F_trip_written sc_trip_written (fun _ _ h => len_trip_written h) (by decide) fun cdv A outer s H E hr => ⟨ts_trip_written K a.CLine, zs_cons (z_asg (z_parti rfl (pe_partition (zv 0) (z_str))) (zg_tup (pg_tup rfl (zgs_cons1 (zg_name (i := 1) sc_trip_written.nd rfl (Or.inl rfl)) (zgs_cons1 (zg_name (i := 2) sc_trip_written.nd rfl (Or.inl rfl)) (zgs_cons1 (zg_name (i := 3) sc_trip_written.nd rfl (Or.inl rfl)) (zgs_nil))))))) (zs_cons (z_asg (z_parti rfl (pe_partition (zv 3) (z_str))) (zg_tup (pg_tup rfl (zgs_cons1 (zg_name (i := 4) sc_trip_written.nd rfl (Or.inl rfl)) (zgs_cons1 (zg_name (i := 5) sc_trip_written.nd rfl (Or.inl rfl)) (zgs_cons1 (zg_name (i := 6) sc_trip_written.nd rfl (Or.inl rfl)) (zgs_nil))))))) (zs_one (z_ret (z_tup (za_cons (zv 1) (za_cons (z_call (ok_number_written t tb) (hr.mono (by decide)) (by rfl) t.g_number_written t.k_number_written (bd_number_written t) .nil (fun _ _ => .nil) (za_cons (zv 4) (za_nil))) (za_cons (z_call (ok_number_written t tb) (hr.mono (by decide)) (by rfl) t.g_number_written t.k_number_written (bd_number_written t) .nil (fun _ _ => .nil) (za_cons (zv 6) (za_nil))) (za_nil)))))))), fun _ _ h => rd_trip_written h⟩
theorem bk_Line_read (t : Tx P w K mg a) : KBn K a.d_Line_read [("cls" : Str), ("text" : Str)] 1 [("text" : Str)] (fun us ws => us ++ ws) (fun vs zs => vs ++ zs) := by
 obtain ⟨oc, od, kV, doc, pm, an, cdv, ct, osl, e, _, _⟩ := t.F_Line_read.ex
 rw [e]
 exact ⟨fun s us ws _ h1 h2 => match us, ws, h1, h2 with
  | [_], [_], _, _ => .of_eq rfl, fun r z => r.append z⟩
theorem bd_Line_read (t : Tx P w K mg a) : Binds K a.d_Line_read [("cls" : Str), ("text" : Str)] [] := t.F_Line_read.binds fun _ _ _ _ _ _ us hl => match us, hl with | [_, _], _ => rfl
theorem okx_Line_read (t : Tx P w K mg a) (tb : TB2 base mg a) : FnOk P w K mg base (L2.CX P w) 7 a.f_Line_read a.d_Line_read [("cls" : Str), ("text" : Str)] (upSpX K (TT a) (sp_Line_read K a.CLine a.XC)) :=
 okXPC t.F_Line_read sc_Line_read (fun _ _ _ h => len_Line_read h) (by decide) fun cdv A outer s H E hr tk hp hpa => ⟨ts_Line_read K a.CLine a.XC, zxs_cons (zx_if (zt_not (zt_val (z_callB zc_isi (by rfl) t.b_isinstance (by decide +kernel) (za_cons (zv 1) (za_cons (z_ty (by rfl) t.b_str (by decide +kernel)) (za_nil)))))) (zxs_one (zx_raise t.xa_InvalidText.ok t.b_super (L2N.takesN tk) rfl (L2H.roomH_of (hr.mono (by decide))) (by rfl) (zv 1))) (zxs_pl (zs_nil))) (zxs_cons (zx_pl (z_set (i := 2) sc_Line_read.nd rfl (Or.inl rfl) (z_split rfl (pe_split (zv 1) (z_str))))) (zxs_cons (zx_pl (z_set (i := 3) sc_Line_read.nd rfl (Or.inl rfl) (z_callTy zc_tuple (by rfl) t.b_tuple (by decide +kernel) (za_cons (z_val (zf_lc (own := [(("word" : Str), 4)]) (pe_lc (own := [(("word" : Str), 4)]) rfl sc_Line_read.nd (zi_list (z_slice (zv 2) (zp_some (z_int)) (zp_none))) (blkOk_by (own := [(("word" : Str), 4)]) (N := N_Line_read) (sc := defScope s_Line_read) (by decide +kernel)) (fun _ _ _ _ _ => zgw_name (by decide) (pg_name (i := 4) sc_Line_read.nd rfl (Or.inl rfl))) (fun _ _ _ _ _ => zts_nil) (fun _ _ _ _ _ => z_call (ok_trip_written t tb) (hr.mono (by decide)) (by rfl) t.g_trip_written t.k_trip_written (bd_trip_written t) .nil (fun _ _ => .nil) (za_cons (zv 4) (za_nil)))))) (za_nil))))) (zxs_one (zx_tryR rfl rfl (.cons ⟨rfl, rfl, .inl t.g_InvalidSeats⟩ (.cons ⟨rfl, rfl, .inl t.g_InvalidTrips⟩ .nil)) L2N.tupM2 (by simp) hpa tk (fun W1 pn1 xe1 tk1 hp1 => zxs_one (zx_ret (zx_newL (i := 0) t.mkL (okx_Line_initX t tb) tk1 (hr.mono (by decide)) rfl (Or.inl rfl) (bd_Line_initX t) .nil (fun _ _ => .nil) (za_cons (z_call (ok_number_written t tb) (hr.mono (by decide)) (by rfl) t.g_number_written t.k_number_written (bd_number_written t) .nil (fun _ _ => .nil) (za_cons (z_ix (zv 2) (z_int)) (za_nil))) (za_cons (zv 3) (za_nil)))))) t.xa_InvalidText.ok t.b_super (L2H.roomH_of (hr.mono (by decide))) (by rfl) (fun _ _ => zv 1))))), fun _ _ _ h => rd_Line_read h⟩
theorem bd_law_draw (t : Tx P w K mg a) : Binds K a.d_law_draw [("_law_pool_here" : Str), ("_law_many" : Str)] [] := t.F_law_draw.binds fun _ _ _ _ _ _ us hl => match us, hl with | [_, _], _ => rfl
theorem ok_law_draw (t : Tx P w K mg a) (tb : TB2 base mg a) : FnOk P w K mg base CX0 1 a.f_law_draw a.d_law_draw [("_law_pool_here" : Str), ("_law_many" : Str)] (upSpR K (TT a) (sp_law_draw K a.CLine)) :=
 okR (nm := ("_law_pool_here" : Str)) (N := [("_law_many" : Str), ("_law_state" : Str), ("_law_digit" : Str)]) (ps := [("_law_many" : Str)]) t.F_law_draw sc_law_draw (fun _ _ _ h => len_law_draw h) (by decide) fun cdv A outer s H E hr => ⟨ts_law_draw K a.CLine, zs_cons (z_asg (z_op zo_add (z_ixO (pv 0) (z_int)) (z_int)) (zg_sub (pv 0) (z_int) (pg_sub (pv 0) (z_int) set_list))) (zs_cons (z_set (i := 2) sc_law_draw.nd rfl (Or.inl rfl) (z_ixO (pv 0) (z_int))) (zs_cons (z_asg (z_op zo_mod (z_op zo_add (z_op zo_add (z_op zo_mulA (zv 2) (z_op zo_add (z_op zo_mod (zv 2) (z_int)) (z_int))) (z_op zo_mulA (z_int) (z_ixO (pv 0) (z_int)))) (z_int)) (z_int)) (zg_sub (pv 0) (z_int) (pg_sub (pv 0) (z_int) set_list))) (zs_cons (z_if (zt_cmp zo_gt (z_ixO (pv 0) (z_int)) (z_int)) (zs_cons (z_asg (z_callB zc_divmodW (by rfl) t.b_divmod (by decide +kernel) (za_cons (z_ixO (pv 0) (z_int)) (za_cons (zv 1) (za_nil)))) (zg_tup (pg_tup rfl (zgs_cons1 (zg_sub (pv 0) (z_int) (pg_sub (pv 0) (z_int) set_list)) (zgs_cons1 (zg_name (i := 3) sc_law_draw.nd rfl (Or.inl rfl)) (zgs_nil)))))) (zs_one (z_ret (zv 3)))) (zs_nil)) (zs_one (z_ret (z_op zo_mod (z_op zo_div (z_ixO (pv 0) (z_int)) (z_int)) (zv 1))))))), fun _ _ _ h => rd_law_draw h⟩
theorem bd_law_bent (t : Tx P w K mg a) : Binds K a.d_law_bent [("_law_pool_here" : Str), ("_law_row" : Str)] [] := t.F_law_bent.binds fun _ _ _ _ _ _ us hl => match us, hl with | [_, _], _ => rfl
theorem ok_law_bent (t : Tx P w K mg a) (tb : TB2 base mg a) : FnOk P w K mg base CX0 2 a.f_law_bent a.d_law_bent [("_law_pool_here" : Str), ("_law_row" : Str)] (upSpR K (TT a) (sp_law_bent K a.CLine)) :=
 okR (nm := ("_law_pool_here" : Str)) (N := [("_law_row" : Str), ("_law_at" : Str), ("_law_way" : Str), ("_law_sign" : Str), ("_law_some" : Str)]) (ps := [("_law_row" : Str)]) t.F_law_bent sc_law_bent (fun _ _ _ h => len_law_bent h) (by decide) fun cdv A outer s H E hr => ⟨ts_law_bent K a.CLine, zs_cons (z_par2 (i := 2) (j := 3) rfl (ps_par (i := 2) (j := 3) rfl sc_law_bent.nd rfl rfl (by decide) rfl rfl (zr_v (z_callR (ok_law_draw t tb) (hr.mono (by decide)) (by rfl) t.g__law_draw t.k__law_draw (bd_law_draw t) (pa_cons (pv 0) (za_cons (z_op zo_add (z_callB zc_len (by rfl) t.b_len (by decide +kernel) (za_cons (zv 1) (za_nil))) (z_int)) (za_nil)))) (zr_v (z_callR (ok_law_draw t tb) (hr.mono (by decide)) (by rfl) t.g__law_draw t.k__law_draw (bd_law_draw t) (pa_cons (pv 0) (za_cons (z_int) (za_nil)))) (zr_nil))) (by rfl))) (zs_cons (z_set (i := 4) sc_law_bent.nd rfl (Or.inl rfl) (z_ix (z_str) (z_callR (ok_law_draw t tb) (hr.mono (by decide)) (by rfl) t.g__law_draw t.k__law_draw (bd_law_draw t) (pa_cons (pv 0) (za_cons (z_int) (za_nil)))))) (zs_cons (z_set (i := 5) sc_law_bent.nd rfl (Or.inl rfl) (z_lst (za_cons (z_op zo_add (z_op zo_add (z_slice (zv 1) (zp_none) (zp_some (zv 2))) (zv 4)) (z_slice (zv 1) (zp_some (zv 2)) (zp_none))) (za_cons (z_op zo_add (z_op zo_add (z_slice (zv 1) (zp_none) (zp_some (zv 2))) (zv 4)) (z_slice (zv 1) (zp_some (z_op zo_add (zv 2) (z_int))) (zp_none))) (za_cons (z_op zo_add (z_slice (zv 1) (zp_none) (zp_some (zv 2))) (z_slice (zv 1) (zp_some (z_op zo_add (zv 2) (z_int))) (zp_none))) (za_cons (z_op zo_add (z_op zo_add (zv 1) (z_str)) (zv 1)) (za_nil))))))) (zs_one (z_ret (z_ix (z_op zo_add (zv 5) (z_lst (za_cons (z_join rfl (pe_join (z_str) (z_revL (z_split rfl (pe_split (zv 1) (z_str)))))) (za_cons (z_op zo_add (z_str) (zv 1)) (za_cons (z_slice (zv 1) (zp_some (z_int)) (zp_none)) (za_cons (z_op zo_add (zv 1) (z_str)) (za_nil))))))) (zv 3)))))), fun _ _ _ h => rd_law_bent h⟩
theorem bd_law_far (t : Tx P w K mg a) : Binds K a.d_law_far [("_law_pool_here" : Str), ("_law_high" : Str)] [] := t.F_law_far.binds fun _ _ _ _ _ _ us hl => match us, hl with | [_, _], _ => rfl
theorem ok_law_far (t : Tx P w K mg a) (tb : TB2 base mg a) : FnOk P w K mg base CX0 2 a.f_law_far a.d_law_far [("_law_pool_here" : Str), ("_law_high" : Str)] (upSpR K (TT a) (sp_law_far K a.CLine)) :=
 okR (nm := ("_law_pool_here" : Str)) (N := [("_law_high" : Str), ("_law_found" : Str), ("_law_here" : Str), ("_law_way" : Str), ("_law_k" : Str)]) (ps := [("_law_high" : Str)]) t.F_law_far sc_law_far (fun _ _ _ h => len_law_far h) (by decide) fun cdv A outer s H E hr => ⟨ts_law_far K a.CLine, zs_cons (z_par3 (i := 2) (j := 3) (l := 4) rfl (ps_par3 (i := 2) (j := 3) (l := 4) rfl sc_law_far.nd rfl rfl rfl (by decide) (by decide) (by decide) rfl rfl rfl (zr_f (zf_lst (za_nil)) (zr_v (z_callR (ok_law_draw t tb) (hr.mono (by decide)) (by rfl) t.g__law_draw t.k__law_draw (bd_law_draw t) (pa_cons (pv 0) (za_cons (z_int) (za_nil)))) (zr_v (z_callR (ok_law_draw t tb) (hr.mono (by decide)) (by rfl) t.g__law_draw t.k__law_draw (bd_law_draw t) (pa_cons (pv 0) (za_cons (z_int) (za_nil)))) (zr_nil)))) (by rfl))) (zs_cons (z_for PassesOwn.never rfl (zi_range1 (by rfl) t.b_range (z_op zo_add (zv 1) (z_int))) (zg_name (i := 5) sc_law_far.nd rfl (Or.inl rfl)) (zs_cons (z_app rfl (ps_expr (pe_bm PySem.F.plainAttrs_list PySem.F.slot_list_append PySem.F.type_list_append mt_append (pv 2) (pa_cons (z_ifExp (zt_cmp zo_gt (zv 4) (z_int)) (zv 5) (zv 3)) pa_nil)))) (zs_one (z_set (i := 3) sc_law_far.nd rfl (Or.inl rfl) (z_op zo_add (z_op zo_add (zv 3) (z_int)) (z_ix (z_lst (za_cons (z_int) (za_cons (z_callR (ok_law_draw t tb) (hr.mono (by decide)) (by rfl) t.g__law_draw t.k__law_draw (bd_law_draw t) (pa_cons (pv 0) (za_cons (z_int) (za_nil)))) (za_cons (z_op zo_pow (z_int) (z_int)) (za_nil))))) (z_callR (ok_law_draw t tb) (hr.mono (by decide)) (by rfl) t.g__law_draw t.k__law_draw (bd_law_draw t) (pa_cons (pv 0) (za_cons (z_int) (za_nil)))))))))) (zs_one (z_ret (zv 2)))), fun _ _ _ h => rd_law_far h⟩
theorem bd_law_rides (t : Tx P w K mg a) : Binds K a.d_law_rides [("_law_pool_here" : Str), ("_law_words_here" : Str), ("_law_high" : Str)] [] := t.F_law_rides.binds fun _ _ _ _ _ _ us hl => match us, hl with | [_, _, _], _ => rfl
theorem ok_law_rides (t : Tx P w K mg a) (tb : TB2 base mg a) : FnOk P w K mg base CX0 3 a.f_law_rides a.d_law_rides [("_law_pool_here" : Str), ("_law_words_here" : Str), ("_law_high" : Str)] (upSpR K (TT a) (sp_law_rides K a.CLine)) :=
 okR (nm := ("_law_pool_here" : Str)) (N := [("_law_words_here" : Str), ("_law_high" : Str), ("_law_places" : Str), ("_law_found" : Str), ("_law_last" : Str), ("_law_word" : Str), ("_law_way" : Str), ("_law_begin" : Str)]) (ps := [("_law_words_here" : Str), ("_law_high" : Str)]) t.F_law_rides sc_law_rides (fun _ _ _ h => len_law_rides h) (by decide) fun cdv A outer s H E hr => ⟨ts_law_rides K a.CLine, zs_cons (z_par3 (i := 3) (j := 4) (l := 5) rfl (ps_par3 (i := 3) (j := 4) (l := 5) rfl sc_law_rides.nd rfl rfl rfl (by decide) (by decide) (by decide) rfl rfl rfl (zr_v (z_callR (ok_law_far t tb) (hr.mono (by decide)) (by rfl) t.g__law_far t.k__law_far (bd_law_far t) (pa_cons (pv 0) (za_cons (zv 2) (za_nil)))) (zr_f (zf_lst (za_nil)) (zr_v (z_int) (zr_nil)))) (by rfl))) (zs_cons (z_for PassesOwn.never rfl (zi_list (zv 1)) (zg_name (i := 6) sc_law_rides.nd rfl (Or.inl rfl)) (zs_cons (z_set (i := 7) sc_law_rides.nd rfl (Or.inl rfl) (z_callR (ok_law_draw t tb) (hr.mono (by decide)) (by rfl) t.g__law_draw t.k__law_draw (bd_law_draw t) (pa_cons (pv 0) (za_cons (z_int) (za_nil))))) (zs_cons (z_set (i := 8) sc_law_rides.nd rfl (Or.inl rfl) (z_ifExp ((zw_and (zt_cmp (zo_eq hr.units) (zv 7) (z_int)) (zw_and1 (zt_cmp zo_lt (zv 5) (zv 2)))).pt) (zv 5) (z_callR (ok_law_draw t tb) (hr.mono (by decide)) (by rfl) t.g__law_draw t.k__law_draw (bd_law_draw t) (pa_cons (pv 0) (za_cons (zv 2) (za_nil)))))) (zs_cons (z_set (i := 5) sc_law_rides.nd rfl (Or.inl rfl) (z_op zo_add (z_op zo_add (zv 8) (z_int)) (z_callR (ok_law_draw t tb) (hr.mono (by decide)) (by rfl) t.g__law_draw t.k__law_draw (bd_law_draw t) (pa_cons (pv 0) (za_cons (z_ifExp (zt_cmp zo_gt (z_op zo_sub (zv 2) (zv 8)) (z_int)) (z_ix (z_lst (za_cons (z_int) (za_cons (z_int) (za_cons (z_op zo_sub (zv 2) (zv 8)) (za_cons (z_op zo_sub (zv 2) (zv 8)) (za_nil)))))) (zv 7)) (z_int)) (za_nil)))))) (zs_cons (z_set (i := 5) sc_law_rides.nd rfl (Or.inl rfl) (z_callB (zc_min2 rfl) (by rfl) t.b_min (by decide +kernel) (za_cons (zv 5) (za_cons (zv 2) (za_nil))))) (zs_one (z_app rfl (ps_expr (pe_bm PySem.F.plainAttrs_list PySem.F.slot_list_append PySem.F.type_list_append mt_append (pv 4) (pa_cons (z_tup (za_cons (zv 6) (za_cons (z_ix (zv 3) (zv 8)) (za_cons (z_ix (zv 3) (zv 5)) (za_nil))))) pa_nil)))))))))) (zs_one (z_ret (z_callTy zc_tuple (by rfl) t.b_tuple (by decide +kernel) (za_cons (z_callB (zc_sorted hr.units) (by rfl) t.b_sorted (by decide +kernel) (za_cons (zv 4) (za_nil))) (za_nil)))))), fun _ _ _ h => rd_law_rides h⟩
theorem bd_law_text (t : Tx P w K mg a) : Binds K a.d_law_text [("_law_width" : Str), ("_law_rides_here" : Str)] [] := t.F_law_text.binds fun _ _ _ _ _ _ us hl => match us, hl with | [_, _], _ => rfl
theorem ok_law_text (t : Tx P w K mg a) (tb : TB2 base mg a) : FnOk P w K mg base CX0 1 a.f_law_text a.d_law_text [("_law_width" : Str), ("_law_rides_here" : Str)] (upSp K (TT a) (sp_law_text K a.CLine)) :=
 okP t.F_law_text sc_law_text (fun _ _ h => len_law_text h) (by decide) fun cdv A outer s H E hr => ⟨ts_law_text K a.CLine, zs_cons (z_setLc (own := [(("_law_ride" : Str), 3)]) (i := 2) (ps_setLc (own := [(("_law_ride" : Str), 3)]) rfl sc_law_text.nd (i := 2) rfl rfl rfl (zi_tup (zv 1)) (blkOk_by (own := [(("_law_ride" : Str), 3)]) (N := N_law_text) (sc := defScope s_law_text) (by decide +kernel)) (fun _ _ _ _ _ => zgw_name (by decide) (pg_name (i := 3) sc_law_text.nd rfl (Or.inl rfl))) (fun _ _ _ _ _ => zts_nil) (fun _ _ _ _ _ => z_op zo_add (z_op zo_add (z_op zo_add (z_op zo_add (z_ix (zv 3) (z_int)) (z_str)) (z_callTy zc_str (by rfl) t.b_str (by decide +kernel) (za_cons (z_ix (zv 3) (z_int)) (za_nil)))) (z_str)) (z_callTy zc_str (by rfl) t.b_str (by decide +kernel) (za_cons (z_ix (zv 3) (z_int)) (za_nil)))))) (zs_one (z_ret (z_join rfl (pe_join (z_str) (z_op zo_add (z_lst (za_cons (z_callTy zc_str (by rfl) t.b_str (by decide +kernel) (za_cons (zv 0) (za_nil))) (za_nil))) (zv 2)))))), fun _ _ h => rd_law_text h⟩
theorem bd_law_other_fields (t : Tx P w K mg a) : Binds K a.d_law_other_fields [("_law_e" : Str)] [] := t.F_law_other_fields.binds fun _ _ _ _ _ _ us hl => match us, hl with | [_], _ => rfl
theorem okz_law_other_fields (t : Tx P w K mg a) (tb : TB2 base mg a) : FnZ P w K mg base 1 a.f_law_other_fields a.d_law_other_fields [("_law_e" : Str)] (fun a1 cls1 d1 => upSp K (TT a) (sp_law_other_fields K a.CLine a.XC a1 cls1 d1)) :=
 okPZ t.F_law_other_fields sc_law_other_fields (fun _ _ _ _ _ h => len_law_other_fields h) (by decide) fun cdv A outer s H E p cls d hp hr => ⟨ts_law_other_fields K a.CLine a.XC p.1 cls d, zs_cons (z_if (zt_val (z_callB (zc_isX hp) (by rfl) t.b_isinstance (by decide +kernel) (za_cons (zv 0) (za_cons (z_gc (by rfl) t.g_InvalidSeat) (za_nil))))) (zs_one (z_ret (z_lst (za_cons (z_xf hp (zv 0)) (za_nil))))) (zs_nil)) (zs_cons (z_if (zt_val (z_callB (zc_isX hp) (by rfl) t.b_isinstance (by decide +kernel) (za_cons (zv 0) (za_cons (z_gc (by rfl) t.g_InvalidNumber) (za_nil))))) (zs_one (z_ret (z_lst (za_cons (z_xf hp (zv 0)) (za_nil))))) (zs_nil)) (zs_cons (z_if (zt_val (z_callB (zc_isX hp) (by rfl) t.b_isinstance (by decide +kernel) (za_cons (zv 0) (za_cons (z_gc (by rfl) t.g_InvalidText) (za_nil))))) (zs_one (z_ret (z_lst (za_cons (z_xf hp (zv 0)) (za_nil))))) (zs_nil)) (zs_one (z_ret (z_ifExp (zt_val (z_callB (zc_isX hp) (by rfl) t.b_isinstance (by decide +kernel) (za_cons (zv 0) (za_cons (z_gc (by rfl) t.g_InvalidCommand) (za_nil))))) (z_lst (za_cons (z_xf hp (zv 0)) (za_nil))) (z_lst (za_nil))))))), fun _ _ h => rd_law_other_fields h⟩
theorem bd_law_fields (t : Tx P w K mg a) : Binds K a.d_law_fields [("_law_e" : Str)] [] := t.F_law_fields.binds fun _ _ _ _ _ _ us hl => match us, hl with | [_], _ => rfl
theorem okz_law_fields (t : Tx P w K mg a) (tb : TB2 base mg a) : FnZ P w K mg base 2 a.f_law_fields a.d_law_fields [("_law_e" : Str)] (fun a1 cls1 d1 => upSp K (TT a) (sp_law_fields K a.CLine a.XC a1 cls1 d1)) :=
 okPZ t.F_law_fields sc_law_fields (fun _ _ _ _ _ h => len_law_fields h) (by decide) fun cdv A outer s H E p cls d hp hr => ⟨ts_law_fields K a.CLine a.XC p.1 cls d, zs_cons (z_if (zt_val (z_callB (zc_isXT hp) (by rfl) t.b_isinstance (by decide +kernel) (za_cons (zv 0) (za_cons (z_tup (za_cons (z_gc (by rfl) t.g_InvalidTrips) (za_cons (z_gc (by rfl) t.g_InvalidPlan) (za_cons (z_gc (by rfl) t.g_InvalidFixed) (za_cons (z_gc (by rfl) t.g_InvalidExchange) (za_cons (z_gc (by rfl) t.g_InvalidAction) (za_nil))))))) (za_nil))))) (zs_one (z_ret (z_lst (za_cons (z_xf hp (zv 0)) (za_nil))))) (zs_nil)) (zs_cons (z_if (zt_val (z_callB (zc_isXT hp) (by rfl) t.b_isinstance (by decide +kernel) (za_cons (zv 0) (za_cons (z_tup (za_cons (z_gc (by rfl) t.g_TooManyTrips) (za_cons (z_gc (by rfl) t.g_TooManyPlans) (za_cons (z_gc (by rfl) t.g_TooManyEntries) (za_nil))))) (za_nil))))) (zs_one (z_ret (z_lst (za_cons (z_xf hp (zv 0)) (za_nil))))) (zs_nil)) (zs_cons (z_if (zt_val (z_callB (zc_isXT hp) (by rfl) t.b_isinstance (by decide +kernel) (za_cons (zv 0) (za_cons (z_tup (za_cons (z_gc (by rfl) t.g_InvalidName) (za_cons (z_gc (by rfl) t.g_NameTaken) (za_cons (z_gc (by rfl) t.g_NotFree) (za_nil))))) (za_nil))))) (zs_one (z_ret (z_lst (za_cons (z_xf hp (zv 0)) (za_nil))))) (zs_nil)) (zs_cons (z_if (zt_val (z_callB (zc_isXT hp) (by rfl) t.b_isinstance (by decide +kernel) (za_cons (zv 0) (za_cons (z_tup (za_cons (z_gc (by rfl) t.g_InvalidStation) (za_cons (z_gc (by rfl) t.g_Overfull) (za_cons (z_gc (by rfl) t.g_Full) (za_nil))))) (za_nil))))) (zs_one (z_ret (z_lst (za_cons (z_xf hp (zv 0)) (za_nil))))) (zs_nil)) (zs_cons (z_if (zt_val (z_callB (zc_isXT hp) (by rfl) t.b_isinstance (by decide +kernel) (za_cons (zv 0) (za_cons (z_tup (za_cons (z_gc (by rfl) t.g_InvalidSeats) (za_cons (z_gc (by rfl) t.g_NotALine) (za_nil)))) (za_nil))))) (zs_one (z_ret (z_lst (za_cons (z_xf hp (zv 0)) (za_nil))))) (zs_nil)) (zs_one (z_ret (z_callZ (okz_law_other_fields t tb) (hr.mono (by decide)) hp (by rfl) t.g__law_other_fields t.k__law_other_fields (bd_law_other_fields t) (za_cons (zv 0) (za_nil))))))))), fun _ _ h => rd_law_fields h⟩
theorem bd_law_kind (t : Tx P w K mg a) : Binds K a.d_law_kind [("_law_e" : Str)] [] := t.F_law_kind.binds fun _ _ _ _ _ _ us hl => match us, hl with | [_], _ => rfl
theorem okz_law_kind (t : Tx P w K mg a) (tb : TB2 base mg a) : FnZ P w K mg base 1 a.f_law_kind a.d_law_kind [("_law_e" : Str)] (fun a1 cls1 d1 => upSp K (TT a) (sp_law_kind K a.CLine a.XC a1 cls1 d1)) :=
 okPZ t.F_law_kind sc_law_kind (fun _ _ _ _ _ h => len_law_kind h) (by decide) fun cdv A outer s H E p cls d hp hr => ⟨ts_law_kind K a.CLine a.XC p.1 cls d, zs_cons (z_set (i := 1) sc_law_kind.nd rfl (Or.inl rfl) (z_lst (za_cons (z_callB (zc_isX hp) (by rfl) t.b_isinstance (by decide +kernel) (za_cons (zv 0) (za_cons (z_gc (by rfl) t.g_InvalidSeats) (za_nil)))) (za_cons (z_callB (zc_isX hp) (by rfl) t.b_isinstance (by decide +kernel) (za_cons (zv 0) (za_cons (z_gc (by rfl) t.g_InvalidTrips) (za_nil)))) (za_cons (z_callB (zc_isX hp) (by rfl) t.b_isinstance (by decide +kernel) (za_cons (zv 0) (za_cons (z_gc (by rfl) t.g_InvalidName) (za_nil)))) (za_nil)))))) (zs_cons (z_set (i := 1) sc_law_kind.nd rfl (Or.inl rfl) (z_op zo_add (zv 1) (z_lst (za_cons (z_callB (zc_isX hp) (by rfl) t.b_isinstance (by decide +kernel) (za_cons (zv 0) (za_cons (z_gc (by rfl) t.g_InvalidSeat) (za_nil)))) (za_cons (z_callB (zc_isX hp) (by rfl) t.b_isinstance (by decide +kernel) (za_cons (zv 0) (za_cons (z_gc (by rfl) t.g_InvalidStation) (za_nil)))) (za_cons (z_callB (zc_isX hp) (by rfl) t.b_isinstance (by decide +kernel) (za_cons (zv 0) (za_cons (z_gc (by rfl) t.g_InvalidPlan) (za_nil)))) (za_nil))))))) (zs_cons (z_set (i := 1) sc_law_kind.nd rfl (Or.inl rfl) (z_op zo_add (zv 1) (z_lst (za_cons (z_callB (zc_isX hp) (by rfl) t.b_isinstance (by decide +kernel) (za_cons (zv 0) (za_cons (z_gc (by rfl) t.g_InvalidFixed) (za_nil)))) (za_cons (z_callB (zc_isX hp) (by rfl) t.b_isinstance (by decide +kernel) (za_cons (zv 0) (za_cons (z_gc (by rfl) t.g_InvalidExchange) (za_nil)))) (za_cons (z_callB (zc_isX hp) (by rfl) t.b_isinstance (by decide +kernel) (za_cons (zv 0) (za_cons (z_gc (by rfl) t.g_InvalidNumber) (za_nil)))) (za_nil))))))) (zs_cons (z_set (i := 1) sc_law_kind.nd rfl (Or.inl rfl) (z_op zo_add (zv 1) (z_lst (za_cons (z_callB (zc_isX hp) (by rfl) t.b_isinstance (by decide +kernel) (za_cons (zv 0) (za_cons (z_gc (by rfl) t.g_InvalidText) (za_nil)))) (za_cons (z_callB (zc_isX hp) (by rfl) t.b_isinstance (by decide +kernel) (za_cons (zv 0) (za_cons (z_gc (by rfl) t.g_InvalidAction) (za_nil)))) (za_cons (z_callB (zc_isX hp) (by rfl) t.b_isinstance (by decide +kernel) (za_cons (zv 0) (za_cons (z_gc (by rfl) t.g_InvalidCommand) (za_nil)))) (za_nil))))))) (zs_cons (z_set (i := 1) sc_law_kind.nd rfl (Or.inl rfl) (z_op zo_add (zv 1) (z_lst (za_cons (z_callB (zc_isX hp) (by rfl) t.b_isinstance (by decide +kernel) (za_cons (zv 0) (za_cons (z_gc (by rfl) t.g_NotALine) (za_nil)))) (za_cons (z_callB (zc_isX hp) (by rfl) t.b_isinstance (by decide +kernel) (za_cons (zv 0) (za_cons (z_gc (by rfl) t.g_Overfull) (za_nil)))) (za_cons (z_callB (zc_isX hp) (by rfl) t.b_isinstance (by decide +kernel) (za_cons (zv 0) (za_cons (z_gc (by rfl) t.g_Full) (za_nil)))) (za_nil))))))) (zs_cons (z_set (i := 1) sc_law_kind.nd rfl (Or.inl rfl) (z_op zo_add (zv 1) (z_lst (za_cons (z_callB (zc_isX hp) (by rfl) t.b_isinstance (by decide +kernel) (za_cons (zv 0) (za_cons (z_gc (by rfl) t.g_NameTaken) (za_nil)))) (za_cons (z_callB (zc_isX hp) (by rfl) t.b_isinstance (by decide +kernel) (za_cons (zv 0) (za_cons (z_gc (by rfl) t.g_NotFree) (za_nil)))) (za_cons (z_callB (zc_isX hp) (by rfl) t.b_isinstance (by decide +kernel) (za_cons (zv 0) (za_cons (z_gc (by rfl) t.g_Busy) (za_nil)))) (za_nil))))))) (zs_cons (z_set (i := 1) sc_law_kind.nd rfl (Or.inl rfl) (z_op zo_add (zv 1) (z_lst (za_cons (z_callB (zc_isX hp) (by rfl) t.b_isinstance (by decide +kernel) (za_cons (zv 0) (za_cons (z_gc (by rfl) t.g_NothingToUndo) (za_nil)))) (za_cons (z_callB (zc_isX hp) (by rfl) t.b_isinstance (by decide +kernel) (za_cons (zv 0) (za_cons (z_gc (by rfl) t.g_TooManyTrips) (za_nil)))) (za_cons (z_callB (zc_isX hp) (by rfl) t.b_isinstance (by decide +kernel) (za_cons (zv 0) (za_cons (z_gc (by rfl) t.g_TooManyPlans) (za_nil)))) (za_nil))))))) (zs_cons (z_set (i := 1) sc_law_kind.nd rfl (Or.inl rfl) (z_op zo_add (zv 1) (z_lst (za_cons (z_callB (zc_isX hp) (by rfl) t.b_isinstance (by decide +kernel) (za_cons (zv 0) (za_cons (z_gc (by rfl) t.g_TooManyEntries) (za_nil)))) (za_nil))))) (zs_cons (z_set (i := 2) sc_law_kind.nd rfl (Or.inl rfl) (z_lst (za_cons (z_callB (zc_isX hp) (by rfl) t.b_isinstance (by decide +kernel) (za_cons (zv 0) (za_cons (z_gc (by rfl) t.g_SeatError) (za_nil)))) (za_cons (z_callB (zc_isX hp) (by rfl) t.b_isinstance (by decide +kernel) (za_cons (zv 0) (za_cons (z_gc (by rfl) t.g_StateError) (za_nil)))) (za_cons (z_callB (zc_isX hp) (by rfl) t.b_isinstance (by decide +kernel) (za_cons (zv 0) (za_cons (z_gc (by rfl) t.g_SizeError) (za_nil)))) (za_nil)))))) (zs_cons (z_set (i := 3) sc_law_kind.nd rfl (Or.inl rfl) (z_lst (za_cons (z_callB (zc_isX hp) (by rfl) t.b_isinstance (by decide +kernel) (za_cons (zv 0) (za_cons (z_ty (by rfl) t.b_ValueError (by decide +kernel)) (za_nil)))) (za_cons (z_callB (zc_isX hp) (by rfl) t.b_isinstance (by decide +kernel) (za_cons (zv 0) (za_cons (z_ty (by rfl) t.b_LookupError (by decide +kernel)) (za_nil)))) (za_cons (z_callB (zc_isX hp) (by rfl) t.b_isinstance (by decide +kernel) (za_cons (zv 0) (za_cons (z_ty (by rfl) t.b_ArithmeticError (by decide +kernel)) (za_nil)))) (za_nil)))))) (zs_cons (z_if (zt_cmp (zo_ne (Nat.lt_of_succ_lt (roomH65 hr))) (z_cntB rfl (pe_bm PySem.F.plainAttrs_list PySem.F.slot_list_count PySem.F.type_list_count mt_lcountB (zv 1) (pa_cons (z_bl) pa_nil))) (z_int)) (zs_one (z_ret (z_str))) (zs_nil)) (zs_cons (z_set (i := 4) sc_law_kind.nd rfl (Or.inl rfl) (z_idxD rfl (pe_bm PySem.F.plainAttrs_list PySem.F.slot_list_index PySem.F.type_list_index (mt_indexD (roomH65 hr)) (zv 1) (pa_cons (z_bl) pa_nil)))) (zs_cons (z_if ((zw_or (zt_cmp (zo_ne (Nat.lt_of_succ_lt (roomH65 hr))) (zv 2) (z_lst (za_cons (z_cmp zo_lt (zv 4) (z_int)) (za_cons (z_chain1 zo_lt zo_lt (z_int) (zv 4) (z_int)) (za_cons (z_cmp zo_gt (zv 4) (z_int)) (za_nil)))))) (zw_or1 (zt_cmp (zo_ne (Nat.lt_of_succ_lt (roomH65 hr))) (zv 3) (zv 2)))).pt) (zs_one (z_ret (z_str))) (zs_nil)) (zs_cons (z_set (i := 5) sc_law_kind.nd rfl (Or.inl rfl) (z_str)) (zs_cons (z_set (i := 5) sc_law_kind.nd rfl (Or.inl rfl) (z_op zo_add (zv 5) (z_str))) (zs_one (z_ret (z_ix (z_split rfl (pe_split (zv 5) (z_str))) (zv 4)))))))))))))))))), fun _ _ h => rd_law_kind h⟩
theorem bd_law_caught (t : Tx P w K mg a) : Binds K a.d_law_caught [("_law_call" : Str)] [] := t.F_law_caught.binds fun _ _ _ _ _ _ us hl => match us, hl with | [_], _ => rfl
def suiteOf_law_caught : List Stmt → List Stmt
 | [.Try _ (.ExceptHandler _ _ bd _ :: _) _ _ _] => bd
 | _ => []
theorem su_law_caught (t : Tx P w K mg a) (tb : TB2 base mg a) {cdv : Value} {A : Around} {outer : List Env} {s : Shared} {H : Hp} (hr : Room 10 (A.deeper (envOfC "_law_caught" (defScope s_law_caught) s.heap.objs.size a.f_law_caught cdv))) {e : Addr} {oe : Obj} {cls : Value} {d : Option Addr} {pn : List (Addr × Obj)} (hz : L2.Zc cls d oe) (hf : ∃ vs, oe.data = .fields vs) :
  PSs ((cxOf CX0 P w K mg base N_law_caught "_law_caught" (defScope s_law_caught) a.f_law_caught cdv A outer s H E0).nox.suite e ((e, oe) :: pn)) (suiteOf_law_caught (defBody s_law_caught)) (upS K (TT a) (ts_law_caught K a.CLine a.XC e cls d)) :=
 zs_one (z_ret (z_op zo_add (z_lst (za_cons (z_callZ (okz_law_kind t tb) (roomH_mark (hr.mono (by decide))) (pinX_suiteC hz hf) (by rfl) t.g__law_kind t.k__law_kind (bd_law_kind t) (za_cons (zv 1) (za_nil))) (za_nil))) (z_callZ (okz_law_fields t tb) (roomH_mark (hr.mono (by decide))) (pinX_suiteC hz hf) (by rfl) t.g__law_fields t.k__law_fields (bd_law_fields t) (za_cons (zv 1) (za_nil)))))
theorem bd_law_number (t : Tx P w K mg a) : Binds K a.d_law_number [("_law_digits" : Str)] [] := t.F_law_number.binds fun _ _ _ _ _ _ us hl => match us, hl with | [_], _ => rfl
theorem ok_law_number (t : Tx P w K mg a) (tb : TB2 base mg a) : FnOk P w K mg base CX0 1 a.f_law_number a.d_law_number [("_law_digits" : Str)] (upSp K (TT a) (sp_law_number K a.CLine)) :=
 okP t.F_law_number sc_law_number (fun _ _ h => len_law_number h) (by decide) fun cdv A outer s H E hr => ⟨ts_law_number K a.CLine, zs_cons (z_setLc (own := [(("_law_sign" : Str), 2)]) (i := 1) (ps_setLc (own := [(("_law_sign" : Str), 2)]) rfl sc_law_number.nd (i := 1) rfl rfl rfl (zi_str (zv 0)) (blkOk_by (own := [(("_law_sign" : Str), 2)]) (N := N_law_number) (sc := defScope s_law_number) (by decide +kernel)) (fun _ _ _ _ _ => zgw_name (by decide) (pg_name (i := 2) sc_law_number.nd rfl (Or.inl rfl))) (fun _ _ _ _ _ => zts_nil) (fun _ _ _ _ _ => z_cmp zo_in (zv 2) (z_str)))) (zs_cons (z_if ((zw_or (zt_cmp (zo_eq hr.units) (zv 1) (z_lst (za_nil))) (zw_or (zt_not (zt_val (z_callB (zc_all rfl) (by rfl) t.b_all (by decide +kernel) (za_cons (zv 1) (za_nil))))) (zw_or1 ((zw_and (zt_cmp zo_eqI (z_ix (zv 0) (z_int)) (z_str)) (zw_and1 (zt_cmp zo_neI (zv 0) (z_str)))).pt)))).pt) (zs_one (z_ret (z_neg (z_int)))) (zs_nil)) (zs_one (z_ret (z_callTy zc_intS (by rfl) t.b_int (by decide +kernel) (za_cons (zv 0) (za_nil)))))), fun _ _ h => rd_law_number h⟩
theorem bd_law_read (t : Tx P w K mg a) : Binds K a.d_law_read [("_law_row" : Str)] [] := t.F_law_read.binds fun _ _ _ _ _ _ us hl => match us, hl with | [_], _ => rfl
theorem ok_law_read (t : Tx P w K mg a) (tb : TB2 base mg a) : FnOk P w K mg base CX0 2 a.f_law_read a.d_law_read [("_law_row" : Str)] (upSp K (TT a) (sp_law_read K a.CLine)) :=
 okP t.F_law_read sc_law_read (fun _ _ h => len_law_read h) (by decide) fun cdv A outer s H E hr => ⟨ts_law_read K a.CLine, zs_cons (z_set (i := 1) sc_law_read.nd rfl (Or.inl rfl) (z_split rfl (pe_split (zv 0) (z_str)))) (zs_cons (z_par2 (i := 2) (j := 3) rfl (ps_par (i := 2) (j := 3) rfl sc_law_read.nd rfl rfl (by decide) rfl rfl (zr_v (z_call (ok_law_number t tb) (hr.mono (by decide)) (by rfl) t.g__law_number t.k__law_number (bd_law_number t) .nil (fun _ _ => .nil) (za_cons (z_ix (zv 1) (z_int)) (za_nil))) (zr_f (zf_lst (za_nil)) (zr_nil))) (by rfl))) (zs_cons (z_for PassesOwn.never rfl (zi_list (z_slice (zv 1) (zp_some (z_int)) (zp_none))) (zg_name (i := 4) sc_law_read.nd rfl (Or.inl rfl)) (zs_cons (z_asg (z_parti rfl (pe_partition (zv 4) (z_str))) (zg_tup (pg_tup rfl (zgs_cons1 (zg_name (i := 5) sc_law_read.nd rfl (Or.inl rfl)) (zgs_cons1 (zg_name (i := 6) sc_law_read.nd rfl (Or.inl rfl)) (zgs_cons1 (zg_name (i := 7) sc_law_read.nd rfl (Or.inl rfl)) (zgs_nil))))))) (zs_cons (z_asg (z_parti rfl (pe_partition (zv 7) (z_str))) (zg_tup (pg_tup rfl (zgs_cons1 (zg_name (i := 8) sc_law_read.nd rfl (Or.inl rfl)) (zgs_cons1 (zg_name (i := 9) sc_law_read.nd rfl (Or.inl rfl)) (zgs_cons1 (zg_name (i := 10) sc_law_read.nd rfl (Or.inl rfl)) (zgs_nil))))))) (zs_cons (z_set (i := 11) sc_law_read.nd rfl (Or.inl rfl) (z_lst (za_cons (z_call (ok_law_number t tb) (hr.mono (by decide)) (by rfl) t.g__law_number t.k__law_number (bd_law_number t) .nil (fun _ _ => .nil) (za_cons (zv 8) (za_nil))) (za_cons (z_call (ok_law_number t tb) (hr.mono (by decide)) (by rfl) t.g__law_number t.k__law_number (bd_law_number t) .nil (fun _ _ => .nil) (za_cons (zv 10) (za_nil))) (za_nil))))) (zs_cons (z_setLc (own := [(("_law_sign" : Str), 13)]) (i := 12) (ps_setLc (own := [(("_law_sign" : Str), 13)]) rfl sc_law_read.nd (i := 12) rfl rfl rfl (zi_str (zv 5)) (blkOk_by (own := [(("_law_sign" : Str), 13)]) (N := N_law_read) (sc := defScope s_law_read) (by decide +kernel)) (fun _ _ _ _ _ => zgw_name (by decide) (pg_name (i := 13) sc_law_read.nd rfl (Or.inl rfl))) (fun _ _ _ _ _ => zts_nil) (fun _ _ _ _ _ => z_cmp zo_in (zv 13) (z_str)))) (zs_cons (z_if ((zw_or (zt_not (zt_chain zo_lt zo_lt (z_int) (z_callB zc_len (by rfl) t.b_len (by decide +kernel) (za_cons (zv 12) (za_nil))) (z_int))) (zw_or (zt_not (zt_val (z_callB (zc_all rfl) (by rfl) t.b_all (by decide +kernel) (za_cons (zv 12) (za_nil))))) (zw_or1 (zt_not (zt_chain zo_lt zo_lt (z_neg (z_int)) (z_ix (zv 11) (z_int)) (z_ix (zv 11) (z_int))))))).pt) (zs_one (z_ret (z_lst (za_nil)))) (zs_nil)) (zs_cons (z_if ((zw_or ((zw_and (zt_opL (zo_ne hr.units) (pv 3) (z_lst (za_nil))) (zw_and1 (zt_cmp zo_le (zv 5) (z_ix (z_ixO (pv 3) (z_neg (z_int))) (z_int))))).pt) (zw_or1 (zt_cmp zo_gt (z_callBB zc_len (by rfl) t.b_len (by decide +kernel) (zb_b (pv 3) zb_nil)) (z_int)))).pt) (zs_one (z_ret (z_lst (za_nil)))) (zs_nil)) (zs_one (z_app rfl (ps_expr (pe_bm PySem.F.plainAttrs_list PySem.F.slot_list_append PySem.F.type_list_append mt_append (pv 3) (pa_cons (z_tup (za_cons (zv 5) (za_cons (z_ix (zv 11) (z_int)) (za_cons (z_ix (zv 11) (z_int)) (za_nil))))) pa_nil)))))))))))) (zs_one (z_ret (z_ifExp (zt_chain zo_lt zo_lt (z_int) (zv 2) (z_int)) (z_lst (za_cons (zv 2) (za_cons (z_callTy zc_tuple (by rfl) t.b_tuple (by decide +kernel) (za_cons (zv 3) (za_nil))) (za_nil)))) (z_lst (za_nil))))))), fun _ _ h => rd_law_read h⟩
theorem bd_law_text_right (t : Tx P w K mg a) : Binds K a.d_law_text_right [("_law_row" : Str)] [] := t.F_law_text_right.fn.binds fun _ _ _ _ _ _ us hl => match us, hl with | [_], _ => rfl
theorem ok_law_text_right (t : Tx P w K mg a) (tb : TB2 base mg a) : FnG P w K mg base 12 a.f_law_text_right a.d_law_text_right [("_law_row" : Str)] (upSp K (TT a) (sp_law_text_right K a.CLine a.XC)) :=
 okGPC t.F_law_text_right sc_law_text_right (fun _ _ h => len_law_text_right h) (by decide) fun A outer s H E hG hr => ⟨ts_law_text_right K a.CLine a.XC, zs_cons (z_par2 (i := 1) (j := 2) rfl (ps_par (i := 1) (j := 2) rfl sc_law_text_right.nd rfl rfl (by decide) rfl rfl (zr_v (z_caught t.F_law_caught sc_law_caught rfl rfl rfl (bd_law_caught t) (by rfl) t.g__law_caught t.k__law_caught (fun _ _ _ => (.cons ⟨rfl, rfl, .inl t.g_SeatError⟩ (.cons ⟨rfl, rfl, .inl t.g_StateError⟩ (.cons ⟨rfl, rfl, .inl t.g_SizeError⟩ .nil)))) L2N.tupM3 (by simp) (fun cdv s H hr e oe cls d pn hz hf => su_law_caught t tb hr hz hf) tb.t2 rfl (TT_mem_t2 a) (TT_one_t2 t) (hr.mono (by decide)) (LamX.lamS_by (show LamX.lamSB (defScope s_law_text_right) _ = true by decide +kernel)) rfl (fun _ _ _ _ _ => rfl) (fun A outer s H E f c' hr1 => zx_cmeth (z_gc (by rfl) t.g_Line) t.cr t.cm_read (okx_Line_read t tb) (bd_Line_read t) L2T.lam_takes (hr1.mono (by decide)) (za_cons (zv 0) (za_nil)))) (zr_v (z_call (ok_law_read t tb) (hr.mono (by decide)) (by rfl) t.g__law_read t.k__law_read (bd_law_read t) .nil (fun _ _ => .nil) (za_cons (zv 0) (za_nil))) (zr_nil))) (by rfl))) (zs_cons (z_if (zt_cmp (zo_eq hr.units) (zv 2) (z_lst (za_nil))) (zs_one (z_ret (z_cmp zo_eqI (z_callB (zc_repr hG hr.units) (by rfl) t.b_repr (by decide +kernel) (za_cons (zv 1) (za_nil))) (z_callB (zc_repr hG hr.units) (by rfl) t.b_repr (by decide +kernel) (za_cons (z_lst (za_cons (z_str) (za_cons (zv 0) (za_nil)))) (za_nil)))))) (zs_nil)) (zs_cons (z_if ((zw_or (zt_cmp zo_neI (z_ix (zv 1) (z_int)) (z_str)) (zw_or1 (zt_not (zt_val (z_callB zc_isi (by rfl) t.b_isinstance (by decide +kernel) (za_cons (z_ix (zv 1) (z_int)) (za_cons (z_gc (by rfl) t.g_Line) (za_nil)))))))).pt) (zs_one (z_ret (z_bl))) (zs_nil)) (zs_one (z_ret (z_and (z_cmp zo_eqI (z_callB (zc_repr hG hr.units) (by rfl) t.b_repr (by decide +kernel) (za_cons (z_lst (za_cons (z_prop (z_ix (zv 1) (z_int)) t.cl t.p_capacity (ok_Line_capacity t tb) (hr.mono (by decide)) (bd_Line_capacity t)) (za_cons (z_prop (z_ix (zv 1) (z_int)) t.cl t.p_trips (ok_Line_trips t tb) (hr.mono (by decide)) (bd_Line_trips t)) (za_nil)))) (za_nil))) (z_callB (zc_repr hG hr.units) (by rfl) t.b_repr (by decide +kernel) (za_cons (zv 2) (za_nil)))) (z_one (z_cmp zo_eqI (z_strO t.ow (call_strO (ok_Line_strB t tb) (hr.mono (by decide)) t.ow (bd_Line_strB t)) (by rfl) t.b_str (by decide +kernel) (za_cons (z_ix (zv 1) (z_int)) (za_nil))) (zv 0)))))))), fun _ _ h => rd_law_text_right h⟩
theorem bd_law_words (t : Tx P w K mg a) : Binds K a.d_law_words [("_law_pool_here" : Str), ("_law_many" : Str)] [] := t.F_law_words.binds fun _ _ _ _ _ _ us hl => match us, hl with | [_, _], _ => rfl
theorem ok_law_words (t : Tx P w K mg a) (tb : TB2 base mg a) : FnOk P w K mg base CX0 2 a.f_law_words a.d_law_words [("_law_pool_here" : Str), ("_law_many" : Str)] (upSpR K (TT a) (sp_law_words K a.CLine)) :=
 okR (nm := ("_law_pool_here" : Str)) (N := [("_law_many" : Str), ("_law_letters" : Str), ("_law_menu" : Str), ("_law_way" : Str), ("_law_begin" : Str), ("_law_stem" : Str), ("_law_at" : Str), ("_law_k" : Str)]) (ps := [("_law_many" : Str)]) t.F_law_words sc_law_words (fun _ _ _ h => len_law_words h) (by decide) fun cdv A outer s H E hr => ⟨ts_law_words K a.CLine, zs_cons (z_set (i := 2) sc_law_words.nd rfl (Or.inr rfl) (z_str)) (zs_cons (z_set (i := 3) sc_law_words.nd rfl (Or.inr rfl) (z_lst (za_cons (z_str) (za_cons (z_str) (za_cons (z_str) (za_cons (z_str) (za_cons (z_str) (za_cons (z_str) (za_cons (z_str) (za_cons (z_str) (za_cons (z_str) (za_cons (z_str) (za_cons (z_str) (za_cons (z_str) (za_nil))))))))))))))) (zs_cons (z_set (i := 3) sc_law_words.nd rfl (Or.inr rfl) (z_op zo_add (zv 3) (z_lst (za_cons (z_str) (za_cons (z_str) (za_cons (z_str) (za_cons (z_str) (za_cons (z_str) (za_cons (z_str) (za_cons (z_str) (za_cons (z_str) (za_cons (z_str) (za_cons (z_str) (za_cons (z_str) (za_cons (z_str) (za_nil)))))))))))))))) (zs_cons (z_asg (z_tup (za_cons (z_callR (ok_law_draw t tb) (hr.mono (by decide)) (by rfl) t.g__law_draw t.k__law_draw (bd_law_draw t) (pa_cons (pv 0) (za_cons (z_int) (za_nil)))) (za_cons (z_callR (ok_law_draw t tb) (hr.mono (by decide)) (by rfl) t.g__law_draw t.k__law_draw (bd_law_draw t) (pa_cons (pv 0) (za_cons (z_int) (za_nil)))) (za_nil)))) (zg_tup (pg_tup rfl (zgs_cons1 (zg_name (i := 4) sc_law_words.nd rfl (Or.inl rfl)) (zgs_cons1 (zg_name (i := 5) sc_law_words.nd rfl (Or.inr rfl)) (zgs_nil)))))) (zs_cons (z_if (zt_cmp (zo_eq hr.units) (zv 4) (z_int)) (zs_one (z_ret (z_val (zf_lc (own := [(("_law_k" : Str), 8)]) (pe_lc (own := [(("_law_k" : Str), 8)]) rfl sc_law_words.nd (zi_range1 (by rfl) t.b_range (zv 1)) (blkOk_by (own := [(("_law_k" : Str), 8)]) (N := N_law_words) (sc := defScope s_law_words) (by decide +kernel)) (fun _ _ _ _ _ => zgw_name (by decide) (pg_name (i := 8) sc_law_words.nd rfl (Or.inl rfl))) (fun _ _ _ _ _ => zts_nil) (fun _ _ _ _ _ => z_ix (zv 3) (z_op zo_mod (z_op zo_add (zv 5) (z_op zo_mulA (z_int) (zv 8))) (z_int)))))))) (zs_nil)) (zs_cons (z_if (zt_cmp (zo_eq hr.units) (zv 4) (z_int)) (zs_one (z_ret (z_val (zf_lc (own := [(("_law_k" : Str), 8)]) (pe_lc (own := [(("_law_k" : Str), 8)]) rfl sc_law_words.nd (zi_range1 (by rfl) t.b_range (zv 1)) (blkOk_by (own := [(("_law_k" : Str), 8)]) (N := N_law_words) (sc := defScope s_law_words) (by decide +kernel)) (fun _ _ _ _ _ => zgw_name (by decide) (pg_name (i := 8) sc_law_words.nd rfl (Or.inl rfl))) (fun _ _ _ _ _ => zts_nil) (fun _ _ _ _ _ => z_op zo_mulA (z_ix (zv 2) (z_op zo_mod (z_op zo_add (zv 5) (z_op zo_mulA (z_int) (zv 8))) (z_int))) (z_op zo_add (z_int) (z_op zo_mod (zv 8) (z_int))))))))) (zs_nil)) (zs_cons (z_set (i := 6) sc_law_words.nd rfl (Or.inr rfl) (z_join rfl (pe_join (z_str) (z_val (zf_lc (own := [(("_law_k" : Str), 8)]) (pe_lc (own := [(("_law_k" : Str), 8)]) rfl sc_law_words.nd (zi_range1 (by rfl) t.b_range (z_callR (ok_law_draw t tb) (hr.mono (by decide)) (by rfl) t.g__law_draw t.k__law_draw (bd_law_draw t) (pa_cons (pv 0) (za_cons (z_int) (za_nil))))) (blkOk_by (own := [(("_law_k" : Str), 8)]) (N := N_law_words) (sc := defScope s_law_words) (by decide +kernel)) (fun _ _ _ _ _ => zgw_name (by decide) (pg_name (i := 8) sc_law_words.nd rfl (Or.inl rfl))) (fun _ _ _ _ _ => zts_nil) (fun _ _ _ _ _ => z_ix (zv 2) (z_callR (ok_law_draw t tb) (hr.mono (by decide)) (by rfl) t.g__law_draw t.k__law_draw (bd_law_draw t) (pa_cons (pv 0) (za_cons (z_int) (za_nil))))))))))) (zs_cons (z_set (i := 7) sc_law_words.nd rfl (Or.inr rfl) (z_callR (ok_law_draw t tb) (hr.mono (by decide)) (by rfl) t.g__law_draw t.k__law_draw (bd_law_draw t) (pa_cons (pv 0) (za_cons (z_op zo_add (z_callB zc_len (by rfl) t.b_len (by decide +kernel) (za_cons (zv 6) (za_nil))) (z_int)) (za_nil))))) (zs_one (z_ret (z_val (zf_lc (own := [(("_law_k" : Str), 8)]) (pe_lc (own := [(("_law_k" : Str), 8)]) rfl sc_law_words.nd (zi_range1 (by rfl) t.b_range (zv 1)) (blkOk_by (own := [(("_law_k" : Str), 8)]) (N := N_law_words) (sc := defScope s_law_words) (by decide +kernel)) (fun _ _ _ _ _ => zgw_name (by decide) (pg_name (i := 8) sc_law_words.nd rfl (Or.inl rfl))) (fun _ _ _ _ _ => zts_nil) (fun _ _ _ _ _ => z_op zo_add (z_op zo_add (z_slice (zv 6) (zp_none) (zp_some (zv 7))) (z_ix (zv 2) (z_op zo_mod (z_op zo_add (zv 5) (z_op zo_mulA (z_int) (zv 8))) (z_int)))) (z_slice (zv 6) (zp_some (zv 7)) (zp_none))))))))))))))), fun _ _ _ h => rd_law_words h⟩
theorem bd_law_right3 (t : Tx P w K mg a) : Binds K a.d_law_right3 [("_law_pool_here" : Str)] [] := t.F_law_right3.binds fun _ _ _ _ _ _ us hl => match us, hl with | [_], _ => rfl
theorem ok_law_right3 (t : Tx P w K mg a) (tb : TB2 base mg a) : FnG P w K mg base 13 a.f_law_right3 a.d_law_right3 [("_law_pool_here" : Str)] (upSpR K (TT a) (sp_law_right3 K a.CLine a.XC)) :=
 okGR (nm := ("_law_pool_here" : Str)) (N := [("_law_turn" : Str), ("_law_width" : Str), ("_law_words_here" : Str), ("_law_rides_here" : Str), ("_law_made" : Str), ("_law_row" : Str), ("_law_told" : Str), ("_law_k" : Str)]) (ps := []) t.F_law_right3 sc_law_right3 (fun _ _ _ h => len_law_right3 h) (by decide) fun cdv A outer s H E hG hr => ⟨ts_law_right3 K a.CLine a.XC, zs_cons (z_for PassesOwn.never rfl (zi_range1 (by rfl) t.b_range (z_int)) (zg_name (i := 1) sc_law_right3.nd rfl (Or.inl rfl)) (zs_cons (z_par2 (i := 2) (j := 3) rfl (ps_par (i := 2) (j := 3) rfl sc_law_right3.nd rfl rfl (by decide) rfl rfl (zr_v (z_op zo_add (z_int) (z_callR (ok_law_draw t tb) (hr.mono (by decide)) (by rfl) t.g__law_draw t.k__law_draw (bd_law_draw t) (pa_cons (pv 0) (za_cons (z_int) (za_nil))))) (zr_v (z_callR (ok_law_words t tb) (hr.mono (by decide)) (by rfl) t.g__law_words t.k__law_words (bd_law_words t) (pa_cons (pv 0) (za_cons (z_callR (ok_law_draw t tb) (hr.mono (by decide)) (by rfl) t.g__law_draw t.k__law_draw (bd_law_draw t) (pa_cons (pv 0) (za_cons (z_int) (za_nil)))) (za_nil)))) (zr_nil))) (by rfl))) (zs_cons (z_set (i := 4) sc_law_right3.nd rfl (Or.inl rfl) (z_callR (ok_law_rides t tb) (hr.mono (by decide)) (by rfl) t.g__law_rides t.k__law_rides (bd_law_rides t) (pa_cons (pv 0) (za_cons (zv 3) (za_cons (z_int) (za_nil)))))) (zs_cons (z_asg (z_tup (za_cons (z_nox (zx_new t.mkL (okx_Line_initX t tb) L2N.takes0 (hr.mono (by decide)) (by rfl) t.g_Line (bd_Line_initX t) .nil (fun _ _ => .nil) (za_cons (zv 2) (za_cons (zv 4) (za_nil))))) (za_cons (z_call (ok_law_text t tb) (hr.mono (by decide)) (by rfl) t.g__law_text t.k__law_text (bd_law_text t) .nil (fun _ _ => .nil) (za_cons (zv 2) (za_cons (zv 4) (za_nil)))) (za_nil)))) (zg_tup (pg_tup rfl (zgs_cons1 (zg_name (i := 5) sc_law_right3.nd rfl (Or.inl rfl)) (zgs_cons1 (zg_name (i := 6) sc_law_right3.nd rfl (Or.inr rfl)) (zgs_nil)))))) (zs_cons (z_if ((zw_or (zt_cmp zo_neI (z_strO t.ow (call_strO (ok_Line_strB t tb) (hr.mono (by decide)) t.ow (bd_Line_strB t)) (by rfl) t.b_str (by decide +kernel) (za_cons (zv 5) (za_nil))) (zv 6)) (zw_or1 (zt_cmp zo_neI (z_reprO (call_reprO (ok_Line_reprB t tb) (hr.mono (by decide)) t.rp t.rpf (bd_Line_reprB t)) (by rfl) t.b_repr (by decide +kernel) (za_cons (zv 5) (za_nil))) (z_op zo_add (z_op zo_add (z_str) (zv 6)) (z_str))))).pt) (zs_one (z_ret (z_bl))) (zs_nil)) (zs_cons (z_for PassesOwn.never rfl (zi_list (z_lst (za_cons (z_nox (zx_cmeth (E := fun _ _ _ => False) (z_gc (by rfl) t.g_Line) t.cr t.cm_read (okx_Line_read t tb) (bd_Line_read t) LamX.takes0 (hr.mono (by decide)) (za_cons (zv 6) (za_nil)))) (za_cons (z_nox (zx_cmetK (E := fun _ _ _ => False) (z_gc (by rfl) t.g_Line) t.cr t.cm_read (okx_Line_read t tb) (bk_Line_read t) LamX.takes0 (hr.mono (by decide)) (zk_cons (zv 6) (zk_nil)) rfl)) (za_cons (z_nox (zx_imeth (E := fun _ _ _ => False) (zv 5) t.ci_read (okx_Line_read t tb) (bd_Line_read t) LamX.takes0 (hr.mono (by decide)) (za_cons (zv 6) (za_nil)))) (za_nil)))))) (zg_name (i := 7) sc_law_right3.nd rfl (Or.inl rfl)) (zs_one (z_if ((zw_or (zt_not (zt_val (z_callB zc_isi (by rfl) t.b_isinstance (by decide +kernel) (za_cons (zv 7) (za_cons (z_gc (by rfl) t.g_Line) (za_nil)))))) (zw_or (zt_cmpO t.ow (op_neO (ok_Line_eq t tb) (hr.mono (by decide)) t.ow (bd_Line_eq t)) (zv 7) (zv 5)) (zw_or1 (zt_cmp zo_neI (z_callB (zc_repr hG hr.units) (by rfl) t.b_repr (by decide +kernel) (za_cons (z_prop (zv 7) t.cl t.p_trips (ok_Line_trips t tb) (hr.mono (by decide)) (bd_Line_trips t)) (za_nil))) (z_callB (zc_repr hG hr.units) (by rfl) t.b_repr (by decide +kernel) (za_cons (zv 4) (za_nil))))))).pt) (zs_one (z_ret (z_bl))) (zs_nil)))) (zs_one (z_if (zt_not (zt_val (z_callB (zc_all rfl) (by rfl) t.b_all (by decide +kernel) (za_cons (z_val (zf_lc (own := [(("_law_k" : Str), 8)]) (pe_lc (own := [(("_law_k" : Str), 8)]) rfl sc_law_right3.nd (zi_range1 (by rfl) t.b_range (z_int)) (blkOk_by (own := [(("_law_k" : Str), 8)]) (N := N_law_right3) (sc := defScope s_law_right3) (by decide +kernel)) (fun _ _ _ _ _ => zgw_name (by decide) (pg_name (i := 8) sc_law_right3.nd rfl (Or.inl rfl))) (fun _ _ _ _ _ => zts_nil) (fun _ _ _ _ _ => z_callG (ok_law_text_right t tb) hG (hr.mono (by decide)) (by rfl) t.g__law_text_right t.k__law_text_right (bd_law_text_right t) .nil (fun _ _ => .nil) (za_cons (z_callR (ok_law_bent t tb) (hr.mono (by decide)) (by rfl) t.g__law_bent t.k__law_bent (bd_law_bent t) (pa_cons (pv 0) (za_cons (zv 6) (za_nil)))) (za_nil)))))) (za_nil))))) (zs_one (z_ret (z_bl))) (zs_nil))))))))) (zs_one (z_ret (z_bl))), fun _ _ _ h => rd_law_right3 h⟩
theorem ok_law3 (t : Tx P w K mg a) (tb : TB2 base mg a) : FnG P w K mg base 14 a.f_law3 a.d_law3 [("_law_script" : Str)] (upSp K (TT a) (sp_law3 K a.CLine a.XC)) :=
 okGP t.F_law3 sc_law3 (fun _ _ h => len_law3 h) (by decide) fun cdv A outer s H E hG hr => ⟨ts_law3 K a.CLine a.XC, zs_cons (z_set (i := 1) sc_law3.nd rfl (Or.inl rfl) (z_lst (za_cons (z_str) (za_cons (z_str) (za_cons (z_str) (za_cons (z_str) (za_cons (z_str) (za_cons (z_str) (za_cons (z_str) (za_cons (z_str) (za_cons (z_str) (za_cons (z_str) (za_cons (z_str) (za_cons (z_str) (za_cons (z_str) (za_cons (z_str) (za_nil))))))))))))))))) (zs_cons (z_set (i := 1) sc_law3.nd rfl (Or.inl rfl) (z_op zo_add (zv 1) (z_lst (za_cons (z_str) (za_cons (z_str) (za_cons (z_str) (za_cons (z_str) (za_cons (z_str) (za_cons (z_str) (za_cons (z_str) (za_cons (z_str) (za_nil)))))))))))) (zs_cons (z_set (i := 1) sc_law3.nd rfl (Or.inl rfl) (z_op zo_add (zv 1) (z_lst (za_cons (z_str) (za_cons (z_str) (za_cons (z_str) (za_cons (z_op zo_add (z_str) (z_op zo_mulA (z_str) (z_int))) (za_cons (z_str) (za_cons (z_str) (za_cons (z_str) (za_cons (z_str) (za_nil)))))))))))) (zs_cons (z_set (i := 2) sc_law3.nd rfl (Or.inl rfl) (z_join rfl (pe_join (z_str) (z_val (zf_lc (own := [(("_law_word" : Str), 3)]) (pe_lc (own := [(("_law_word" : Str), 3)]) rfl sc_law3.nd (zi_str (z_str)) (blkOk_by (own := [(("_law_word" : Str), 3)]) (N := N_law3) (sc := defScope s_law3) (by decide +kernel)) (fun _ _ _ _ _ => zgw_name (by decide) (pg_name (i := 3) sc_law3.nd rfl (Or.inl rfl))) (fun _ _ _ _ _ => zts_nil) (fun _ _ _ _ _ => z_op zo_add (zv 3) (z_str)))))))) (zs_cons (z_if (zt_not (zt_val (z_callB (zc_all rfl) (by rfl) t.b_all (by decide +kernel) (za_cons (z_val (zf_lc (own := [(("_law_row" : Str), 4)]) (pe_lc (own := [(("_law_row" : Str), 4)]) rfl sc_law3.nd (zi_list (z_op zo_add (zv 1) (z_lst (za_cons (z_op zo_add (z_str) (zv 2)) (za_cons (z_op zo_add (z_str) (z_slice (zv 2) (zp_none) (zp_some (z_neg (z_int))))) (za_nil)))))) (blkOk_by (own := [(("_law_row" : Str), 4)]) (N := N_law3) (sc := defScope s_law3) (by decide +kernel)) (fun _ _ _ _ _ => zgw_name (by decide) (pg_name (i := 4) sc_law3.nd rfl (Or.inl rfl))) (fun _ _ _ _ _ => zts_nil) (fun _ _ _ _ _ => z_callG (ok_law_text_right t tb) hG (hr.mono (by decide)) (by rfl) t.g__law_text_right t.k__law_text_right (bd_law_text_right t) .nil (fun _ _ => .nil) (za_cons (zv 4) (za_nil)))))) (za_nil))))) (zs_one (z_ret (z_bl))) (zs_nil)) (zs_one (z_ret (z_callB (zc_all rfl) (by rfl) t.b_all (by decide +kernel) (za_cons (z_val (zf_lc (own := [(("_law_k" : Str), 5)]) (pe_lc (own := [(("_law_k" : Str), 5)]) rfl sc_law3.nd (zi_range1 (by rfl) t.b_range (z_callB (zc_max2 rfl) (by rfl) t.b_max (by decide +kernel) (za_cons (z_int) (za_cons (z_callB (zc_min2 rfl) (by rfl) t.b_min (by decide +kernel) (za_cons (z_callB zc_len (by rfl) t.b_len (by decide +kernel) (za_cons (zv 0) (za_nil))) (za_cons (z_int) (za_nil)))) (za_nil))))) (blkOk_by (own := [(("_law_k" : Str), 5)]) (N := N_law3) (sc := defScope s_law3) (by decide +kernel)) (fun _ _ _ _ _ => zgw_name (by decide) (pg_name (i := 5) sc_law3.nd rfl (Or.inl rfl))) (fun _ _ _ _ _ => zts_nil) (fun _ _ _ _ _ => z_callRFG (ok_law_right3 t tb) hG (hr.mono (by decide)) (by rfl) t.g__law_right t.k__law_right (bd_law_right3 t) (pa_cons (z_callF (ok_law_pool t tb) (hr.mono (by decide)) (by rfl) t.g__law_pool t.k__law_pool (bd_law_pool t) (za_cons (z_call (ok_law_cell t tb) (hr.mono (by decide)) (by rfl) t.g__law_cell t.k__law_cell (bd_law_cell t) .nil (fun _ _ => .nil) (za_cons (zv 0) (za_cons (zv 5) (za_nil)))) (za_nil))) (za_nil)))))) (za_nil))))))))), fun _ _ h => rd_law3 h⟩
end
end ZK
namespace ZK
open PySem PySem.Spec L2 Z
open PyProof.Rows hiding St
theorem law_mk {l : PySem.W.OpenLaw} {w : World} {K : PySem.W.Frag} {h : Heap} {mg : Str → Option Value} {fa CLine cL tL eL qT qC TD cT tT qc_read C_Busy C_Full C_InvalidAction C_InvalidCommand C_InvalidExchange C_InvalidFixed C_InvalidName C_InvalidNumber C_InvalidPlan C_InvalidSeat C_InvalidSeats C_InvalidStation C_InvalidText C_InvalidTrips C_NameTaken C_NotALine C_NotFree C_NothingToUndo C_Overfull C_SeatError C_SizeError C_StateError C_TooManyEntries C_TooManyPlans C_TooManyTrips fX_InvalidSeats cc_InvalidSeats cda_InvalidSeats fX_InvalidText cc_InvalidText cda_InvalidText fX_InvalidTrips cc_InvalidTrips cda_InvalidTrips f_law_cell f_law_pool f_is_integer f_check_seatsX f_is_later f_is_station f_is_trip_name f_is_tripE f_valid_beginningE f_Line_capacity f_Line_trips f_Line_len f_Line_eq f_Line_strB f_Line_reprB f_Line_initX f_number_written f_trip_written f_Line_read f_law_draw f_law_bent f_law_far f_law_rides f_law_text f_law_other_fields f_law_fields f_law_kind f_law_caught f_law_number f_law_read f_law_text_right f_law_words f_law_right3 f_law3 : Addr} {mL : Value} {rT : List Value} {rC : List Value}
  {rM_read : List Value} {ocX_InvalidSeats kVX_InvalidSeats dcX_InvalidSeats pmX_InvalidSeats ctX_InvalidSeats clX_InvalidSeats cclX_InvalidSeats : Value} {odX_InvalidSeats anX_InvalidSeats cldX_InvalidSeats cddX_InvalidSeats : Option Addr} {slX_InvalidSeats csX_InvalidSeats ccX_InvalidSeats : Array (Option Value)} {vsX_InvalidSeats : Array Value} {fileX_InvalidSeats : Str} {tfX_InvalidSeats : Tok} {ocX_InvalidText kVX_InvalidText dcX_InvalidText pmX_InvalidText ctX_InvalidText clX_InvalidText cclX_InvalidText : Value} {odX_InvalidText anX_InvalidText cldX_InvalidText cddX_InvalidText : Option Addr} {slX_InvalidText csX_InvalidText ccX_InvalidText : Array (Option Value)} {vsX_InvalidText : Array Value} {fileX_InvalidText : Str} {tfX_InvalidText : Tok} {ocX_InvalidTrips kVX_InvalidTrips dcX_InvalidTrips pmX_InvalidTrips ctX_InvalidTrips clX_InvalidTrips cclX_InvalidTrips : Value} {odX_InvalidTrips anX_InvalidTrips cldX_InvalidTrips cddX_InvalidTrips : Option Addr} {slX_InvalidTrips csX_InvalidTrips ccX_InvalidTrips : Array (Option Value)} {vsX_InvalidTrips : Array Value} {fileX_InvalidTrips : Str} {tfX_InvalidTrips : Tok} {oc_law_cell kV_law_cell dc_law_cell pm_law_cell cd_law_cell ct_law_cell : Value} {od_law_cell an_law_cell : Option Addr} {sl_law_cell : Array (Option Value)} {oc_law_pool kV_law_pool dc_law_pool pm_law_pool cd_law_pool ct_law_pool : Value} {od_law_pool an_law_pool : Option Addr} {sl_law_pool : Array (Option Value)} {oc_is_integer kV_is_integer dc_is_integer pm_is_integer cd_is_integer ct_is_integer : Value} {od_is_integer an_is_integer : Option Addr} {sl_is_integer : Array (Option Value)} {oc_check_seatsX kV_check_seatsX dc_check_seatsX pm_check_seatsX cd_check_seatsX ct_check_seatsX : Value} {od_check_seatsX an_check_seatsX : Option Addr} {sl_check_seatsX : Array (Option Value)} {oc_is_later kV_is_later dc_is_later pm_is_later cd_is_later ct_is_later : Value} {od_is_later an_is_later : Option Addr} {sl_is_later : Array (Option Value)} {oc_is_station kV_is_station dc_is_station pm_is_station cd_is_station ct_is_station : Value} {od_is_station an_is_station : Option Addr} {sl_is_station : Array (Option Value)} {oc_is_trip_name kV_is_trip_name dc_is_trip_name pm_is_trip_name cd_is_trip_name ct_is_trip_name : Value} {od_is_trip_name an_is_trip_name : Option Addr} {sl_is_trip_name : Array (Option Value)} {oc_is_tripE kV_is_tripE dc_is_tripE pm_is_tripE cd_is_tripE ct_is_tripE : Value} {od_is_tripE an_is_tripE : Option Addr} {sl_is_tripE : Array (Option Value)} {oc_valid_beginningE kV_valid_beginningE dc_valid_beginningE pm_valid_beginningE cd_valid_beginningE ct_valid_beginningE : Value} {od_valid_beginningE an_valid_beginningE : Option Addr} {sl_valid_beginningE : Array (Option Value)} {oc_Line_capacity kV_Line_capacity dc_Line_capacity pm_Line_capacity cd_Line_capacity ct_Line_capacity : Value} {od_Line_capacity an_Line_capacity : Option Addr} {sl_Line_capacity : Array (Option Value)} {oc_Line_trips kV_Line_trips dc_Line_trips pm_Line_trips cd_Line_trips ct_Line_trips : Value} {od_Line_trips an_Line_trips : Option Addr} {sl_Line_trips : Array (Option Value)} {oc_Line_len kV_Line_len dc_Line_len pm_Line_len cd_Line_len ct_Line_len : Value} {od_Line_len an_Line_len : Option Addr} {sl_Line_len : Array (Option Value)} {oc_Line_eq kV_Line_eq dc_Line_eq pm_Line_eq cd_Line_eq ct_Line_eq : Value} {od_Line_eq an_Line_eq : Option Addr} {sl_Line_eq : Array (Option Value)} {oc_Line_strB kV_Line_strB dc_Line_strB pm_Line_strB cd_Line_strB ct_Line_strB : Value} {od_Line_strB an_Line_strB : Option Addr} {sl_Line_strB : Array (Option Value)} {oc_Line_reprB kV_Line_reprB dc_Line_reprB pm_Line_reprB cd_Line_reprB ct_Line_reprB : Value} {od_Line_reprB an_Line_reprB : Option Addr} {sl_Line_reprB : Array (Option Value)} {oc_Line_initX kV_Line_initX dc_Line_initX pm_Line_initX  ct_Line_initX : Value} {od_Line_initX an_Line_initX : Option Addr} {sl_Line_initX : Array (Option Value)} {oTD oEL oCL : Option Addr} {nTD nEL : Nat} {slT slE slC : Array (Option Value)} {cvs : Array Value} {oc_number_written kV_number_written dc_number_written pm_number_written cd_number_written ct_number_written : Value} {od_number_written an_number_written : Option Addr} {sl_number_written : Array (Option Value)} {oc_trip_written kV_trip_written dc_trip_written pm_trip_written cd_trip_written ct_trip_written : Value} {od_trip_written an_trip_written : Option Addr} {sl_trip_written : Array (Option Value)} {oc_Line_read kV_Line_read dc_Line_read pm_Line_read cd_Line_read ct_Line_read : Value} {od_Line_read an_Line_read : Option Addr} {sl_Line_read : Array (Option Value)} {oc_law_draw kV_law_draw dc_law_draw pm_law_draw cd_law_draw ct_law_draw : Value} {od_law_draw an_law_draw : Option Addr} {sl_law_draw : Array (Option Value)} {oc_law_bent kV_law_bent dc_law_bent pm_law_bent cd_law_bent ct_law_bent : Value} {od_law_bent an_law_bent : Option Addr} {sl_law_bent : Array (Option Value)} {oc_law_far kV_law_far dc_law_far pm_law_far cd_law_far ct_law_far : Value} {od_law_far an_law_far : Option Addr} {sl_law_far : Array (Option Value)} {oc_law_rides kV_law_rides dc_law_rides pm_law_rides cd_law_rides ct_law_rides : Value} {od_law_rides an_law_rides : Option Addr} {sl_law_rides : Array (Option Value)} {oc_law_text kV_law_text dc_law_text pm_law_text cd_law_text ct_law_text : Value} {od_law_text an_law_text : Option Addr} {sl_law_text : Array (Option Value)} {oc_law_other_fields kV_law_other_fields dc_law_other_fields pm_law_other_fields cd_law_other_fields ct_law_other_fields : Value} {od_law_other_fields an_law_other_fields : Option Addr} {sl_law_other_fields : Array (Option Value)} {oc_law_fields kV_law_fields dc_law_fields pm_law_fields cd_law_fields ct_law_fields : Value} {od_law_fields an_law_fields : Option Addr} {sl_law_fields : Array (Option Value)} {oc_law_kind kV_law_kind dc_law_kind pm_law_kind cd_law_kind ct_law_kind : Value} {od_law_kind an_law_kind : Option Addr} {sl_law_kind : Array (Option Value)} {oc_law_caught kV_law_caught dc_law_caught pm_law_caught cd_law_caught ct_law_caught : Value} {od_law_caught an_law_caught : Option Addr} {sl_law_caught : Array (Option Value)} {oc_law_number kV_law_number dc_law_number pm_law_number cd_law_number ct_law_number : Value} {od_law_number an_law_number : Option Addr} {sl_law_number : Array (Option Value)} {oc_law_read kV_law_read dc_law_read pm_law_read cd_law_read ct_law_read : Value} {od_law_read an_law_read : Option Addr} {sl_law_read : Array (Option Value)} {oc_law_text_right kV_law_text_right dc_law_text_right pm_law_text_right  ct_law_text_right : Value} {od_law_text_right an_law_text_right : Option Addr} {sl_law_text_right : Array (Option Value)} {oCT : Option Addr} {slCT : Array (Option Value)} {cvT : Array Value} {oc_law_words kV_law_words dc_law_words pm_law_words cd_law_words ct_law_words : Value} {od_law_words an_law_words : Option Addr} {sl_law_words : Array (Option Value)} {oc_law_right3 kV_law_right3 dc_law_right3 pm_law_right3 cd_law_right3 ct_law_right3 : Value} {od_law_right3 an_law_right3 : Option Addr} {sl_law_right3 : Array (Option Value)} {oc_law3 kV_law3 dc_law3 pm_law3 cd_law3 ct_law3 : Value} {od_law3 an_law3 : Option Addr} {sl_law3 : Array (Option Value)} {tv_DIGITS : Tok} {tv_LETTERS : Tok} {tv_LONGEST_NAME : Tok} {tv_MAX_SEATS : Tok} {tv_MAX_TRIPS : Tok}
  (X : K.In h) (G : h.Ns mainGlobals mg) (hfa : mg "law" = some (.ref fa))
  (hC : PySem.W.nsIn K mainGlobals "Line" = some (some (.ref CLine)))
  (c1 : PySem.W.plainGet K CLine Str.empty = true)
  (c2 : PySem.W.hasDictIn K CLine = true)
  (c3 : PySem.W.plainOver K CLine = true)
  (c4 : PySem.W.findIn K (.ref CLine) "__setattr__" = some (some (.builtin "object.__setattr__")))
  (t1 : PySem.W.findIn K (.ref CLine) "__class__" = some (some (.builtin "object.__class__")))
  (t2 : PySem.W.specialIn K (.builtin "object.__class__") "__get__" = some (some (.builtin "getset_descriptor.__get__")))
  (t3 : PySem.W.takesIn K (.builtin "object.__class__") = some true)
  (t4 : PySem.W.mroIn K CLine (.type "object") = some true)
  (t5 : PySem.W.kitOne K (.ref CLine) (.ref CLine) = some true)
  (ty0 : PySem.W.kitOne K (.ref CLine) (.type "int") = some false)
  (ty1 : PySem.W.kitOne K (.ref CLine) (.type "bool") = some false)
  (ty2 : PySem.W.kitOne K (.ref CLine) (.type "str") = some false)
  (ty3 : PySem.W.kitOne K (.ref CLine) (.type "tuple") = some false)
  (ty4 : PySem.W.kitOne K (.ref CLine) (.type "list") = some false)
  (ty5 : PySem.W.kitOne K (.ref CLine) (.type "dict") = some false)
  (no0 : PySem.W.kitOne K (.type "NoneType") (.ref CLine) = some false)
  (no1 : PySem.W.kitOne K (.type "int") (.ref CLine) = some false)
  (no2 : PySem.W.kitOne K (.type "bool") (.ref CLine) = some false)
  (no3 : PySem.W.kitOne K (.type "str") (.ref CLine) = some false)
  (no4 : PySem.W.kitOne K (.type "tuple") (.ref CLine) = some false)
  (no5 : PySem.W.kitOne K (.type "list") (.ref CLine) = some false)
  (no6 : PySem.W.kitOne K (.type "dict") (.ref CLine) = some false)
  (m1 : PySem.W.makesIn K CLine = true)
  (m2 : PySem.W.findIn K (.ref CLine) "__init__" = some (some (.ref f_Line_initX)))
  (m3 : PySem.W.isFn K (.ref f_Line_initX) = true)
  (m4 : PySem.W.keepIn K (.ref CLine) = true)
  (u1 : PySem.W.findIn K (.ref CLine) "capacity" = some (some (.ref qC)))
  (u2 : PySem.W.specialIn K (.ref qC) "__get__" = some (some (.builtin "property.__get__")))
  (u3 : PySem.W.takesIn K (.ref qC) = some true)
  (u4 : PySem.W.recIn K qC "property" = some (.ref f_Line_capacity :: rC))
  (rp : PySem.W.findIn K (.ref CLine) "__repr__" = some (some (.ref f_Line_reprB)))
  (rpf : PySem.W.isFn K (.ref f_Line_reprB) = true)
  (x1 : PySem.W.findIn K (.ref CLine) "__eq__" = some (some (.ref f_Line_eq)))
  (x1f : PySem.W.isFn K (.ref f_Line_eq) = true)
  (x2 : PySem.W.findIn K (.ref CLine) "__len__" = some (some (.ref f_Line_len)))
  (x2f : PySem.W.isFn K (.ref f_Line_len) = true)
  (x3 : PySem.W.findIn K (.ref CLine) "__str__" = some (some (.ref f_Line_strB)))
  (x3f : PySem.W.isFn K (.ref f_Line_strB) = true)
  (x4 : PySem.W.findIn K (.ref CLine) "__ne__" = some (some (.builtin "object.__ne__")))
  (x5 : PySem.W.findIn K (.ref CLine) "__bool__" = some none)
  (nf0 : PySem.W.notFirst K CLine (.type "NoneType") = true)
  (nf1 : PySem.W.notFirst K CLine (.type "int") = true)
  (nf2 : PySem.W.notFirst K CLine (.type "bool") = true)
  (nf3 : PySem.W.notFirst K CLine (.type "str") = true)
  (nf4 : PySem.W.notFirst K CLine (.type "tuple") = true)
  (nf5 : PySem.W.notFirst K CLine (.type "list") = true)
  (nf6 : PySem.W.notFirst K CLine (.type "dict") = true)
  (r1 : PySem.W.readsIn K CLine mL = true)
  (r2 : PySem.W.specialIn K (.ref CLine) "__getattribute__" = some (some (.builtin "type.__getattribute__")))
  (d1_read : PySem.W.findCls K (.ref CLine) mL "read" = some (.get (.builtin "classmethod.__get__") (.ref qc_read) .none (.ref CLine)))
  (d2_read : PySem.W.recIn K qc_read "classmethod" = some (.ref f_Line_read :: rM_read))
  (d3_read : PySem.W.fnIn K f_Line_read = true)
  (d4_read : PySem.W.isClsIn K CLine = true)
  (d5_read : PySem.W.findIn K (.ref CLine) "read" = some (some (.ref qc_read)))
  (d6_read : PySem.W.typeIn K (.ref qc_read) = some (.type "classmethod"))
  (d7_read : PySem.W.specialIn K (.ref qc_read) "__get__" = some (some (.builtin "classmethod.__get__")))
  (d8_read : PySem.W.takesIn K (.ref qc_read) = some false)
  (q1 : PySem.W.findIn K (.ref CLine) "trips" = some (some (.ref qT)))
  (q2 : PySem.W.specialIn K (.ref qT) "__get__" = some (some (.builtin "property.__get__")))
  (q3 : PySem.W.takesIn K (.ref qT) = some true)
  (q4 : PySem.W.recIn K qT "property" = some (.ref f_Line_trips :: rT))
  (n_seat_count : PySem.W.findIn K (.ref CLine) "seat_count" = some none)
  (n_rows : PySem.W.findIn K (.ref CLine) "rows" = some none)
  (n_queue : PySem.W.findIn K (.ref CLine) "queue" = some none)
  (xg_Busy : PySem.W.nsIn K mainGlobals "Busy" = some (some (.ref C_Busy)))
  (xg_Full : PySem.W.nsIn K mainGlobals "Full" = some (some (.ref C_Full)))
  (xg_InvalidAction : PySem.W.nsIn K mainGlobals "InvalidAction" = some (some (.ref C_InvalidAction)))
  (xg_InvalidCommand : PySem.W.nsIn K mainGlobals "InvalidCommand" = some (some (.ref C_InvalidCommand)))
  (xg_InvalidExchange : PySem.W.nsIn K mainGlobals "InvalidExchange" = some (some (.ref C_InvalidExchange)))
  (xg_InvalidFixed : PySem.W.nsIn K mainGlobals "InvalidFixed" = some (some (.ref C_InvalidFixed)))
  (xg_InvalidName : PySem.W.nsIn K mainGlobals "InvalidName" = some (some (.ref C_InvalidName)))
  (xg_InvalidNumber : PySem.W.nsIn K mainGlobals "InvalidNumber" = some (some (.ref C_InvalidNumber)))
  (xg_InvalidPlan : PySem.W.nsIn K mainGlobals "InvalidPlan" = some (some (.ref C_InvalidPlan)))
  (xg_InvalidSeat : PySem.W.nsIn K mainGlobals "InvalidSeat" = some (some (.ref C_InvalidSeat)))
  (xg_InvalidSeats : PySem.W.nsIn K mainGlobals "InvalidSeats" = some (some (.ref C_InvalidSeats)))
  (xg_InvalidStation : PySem.W.nsIn K mainGlobals "InvalidStation" = some (some (.ref C_InvalidStation)))
  (xg_InvalidText : PySem.W.nsIn K mainGlobals "InvalidText" = some (some (.ref C_InvalidText)))
  (xg_InvalidTrips : PySem.W.nsIn K mainGlobals "InvalidTrips" = some (some (.ref C_InvalidTrips)))
  (xg_NameTaken : PySem.W.nsIn K mainGlobals "NameTaken" = some (some (.ref C_NameTaken)))
  (xg_NotALine : PySem.W.nsIn K mainGlobals "NotALine" = some (some (.ref C_NotALine)))
  (xg_NotFree : PySem.W.nsIn K mainGlobals "NotFree" = some (some (.ref C_NotFree)))
  (xg_NothingToUndo : PySem.W.nsIn K mainGlobals "NothingToUndo" = some (some (.ref C_NothingToUndo)))
  (xg_Overfull : PySem.W.nsIn K mainGlobals "Overfull" = some (some (.ref C_Overfull)))
  (xg_SeatError : PySem.W.nsIn K mainGlobals "SeatError" = some (some (.ref C_SeatError)))
  (xg_SizeError : PySem.W.nsIn K mainGlobals "SizeError" = some (some (.ref C_SizeError)))
  (xg_StateError : PySem.W.nsIn K mainGlobals "StateError" = some (some (.ref C_StateError)))
  (xg_TooManyEntries : PySem.W.nsIn K mainGlobals "TooManyEntries" = some (some (.ref C_TooManyEntries)))
  (xg_TooManyPlans : PySem.W.nsIn K mainGlobals "TooManyPlans" = some (some (.ref C_TooManyPlans)))
  (xg_TooManyTrips : PySem.W.nsIn K mainGlobals "TooManyTrips" = some (some (.ref C_TooManyTrips)))
  (xi_InvalidSeats : PySem.W.findIn K (.ref C_InvalidSeats) "__init__" = some (some (.ref fX_InvalidSeats)))
  (xl_InvalidSeats : K.lookup fX_InvalidSeats = some ⟨ocX_InvalidSeats, odX_InvalidSeats, .func (PySem.W.ksFn "__init__" "InvalidSeats.__init__" (defArgs x_InvalidSeats) (defBody x_InvalidSeats) (defScope x_InvalidSeats) .none kVX_InvalidSeats dcX_InvalidSeats pmX_InvalidSeats anX_InvalidSeats (.ref cda_InvalidSeats) ctX_InvalidSeats cc_InvalidSeats), slX_InvalidSeats⟩)
  (xc_InvalidSeats : K.lookup cc_InvalidSeats = some ⟨clX_InvalidSeats, cldX_InvalidSeats, .cell (some (.ref C_InvalidSeats)), csX_InvalidSeats⟩)
  (xd_InvalidSeats : K.lookup cda_InvalidSeats = some ⟨cclX_InvalidSeats, cddX_InvalidSeats, .fields vsX_InvalidSeats, ccX_InvalidSeats⟩)
  (xv_InvalidSeats : vsX_InvalidSeats[2]? = some (.str fileX_InvalidSeats tfX_InvalidSeats))
  (xf_InvalidSeats : ((l.prog.main.file : Str) == fileX_InvalidSeats) = true)
  (xtp_InvalidSeats : (l.prog.main.scope.names.lookup ("super" : Str)).isSome = false)
  (xB_InvalidSeats : xclB K C_InvalidSeats fX_InvalidSeats "InvalidSeats.__init__" "value" "ValueError" "ValueError.__init__" "ValueError.__new__" [.type "ValueError", .type "Exception", .type "BaseException", .type "object"] cda_InvalidSeats = true)
  (xi_InvalidText : PySem.W.findIn K (.ref C_InvalidText) "__init__" = some (some (.ref fX_InvalidText)))
  (xl_InvalidText : K.lookup fX_InvalidText = some ⟨ocX_InvalidText, odX_InvalidText, .func (PySem.W.ksFn "__init__" "InvalidText.__init__" (defArgs x_InvalidText) (defBody x_InvalidText) (defScope x_InvalidText) .none kVX_InvalidText dcX_InvalidText pmX_InvalidText anX_InvalidText (.ref cda_InvalidText) ctX_InvalidText cc_InvalidText), slX_InvalidText⟩)
  (xc_InvalidText : K.lookup cc_InvalidText = some ⟨clX_InvalidText, cldX_InvalidText, .cell (some (.ref C_InvalidText)), csX_InvalidText⟩)
  (xd_InvalidText : K.lookup cda_InvalidText = some ⟨cclX_InvalidText, cddX_InvalidText, .fields vsX_InvalidText, ccX_InvalidText⟩)
  (xv_InvalidText : vsX_InvalidText[2]? = some (.str fileX_InvalidText tfX_InvalidText))
  (xf_InvalidText : ((l.prog.main.file : Str) == fileX_InvalidText) = true)
  (xtp_InvalidText : (l.prog.main.scope.names.lookup ("super" : Str)).isSome = false)
  (xB_InvalidText : xclB K C_InvalidText fX_InvalidText "InvalidText.__init__" "text" "ValueError" "ValueError.__init__" "ValueError.__new__" [.type "ValueError", .type "Exception", .type "BaseException", .type "object"] cda_InvalidText = true)
  (xi_InvalidTrips : PySem.W.findIn K (.ref C_InvalidTrips) "__init__" = some (some (.ref fX_InvalidTrips)))
  (xl_InvalidTrips : K.lookup fX_InvalidTrips = some ⟨ocX_InvalidTrips, odX_InvalidTrips, .func (PySem.W.ksFn "__init__" "InvalidTrips.__init__" (defArgs x_InvalidTrips) (defBody x_InvalidTrips) (defScope x_InvalidTrips) .none kVX_InvalidTrips dcX_InvalidTrips pmX_InvalidTrips anX_InvalidTrips (.ref cda_InvalidTrips) ctX_InvalidTrips cc_InvalidTrips), slX_InvalidTrips⟩)
  (xc_InvalidTrips : K.lookup cc_InvalidTrips = some ⟨clX_InvalidTrips, cldX_InvalidTrips, .cell (some (.ref C_InvalidTrips)), csX_InvalidTrips⟩)
  (xd_InvalidTrips : K.lookup cda_InvalidTrips = some ⟨cclX_InvalidTrips, cddX_InvalidTrips, .fields vsX_InvalidTrips, ccX_InvalidTrips⟩)
  (xv_InvalidTrips : vsX_InvalidTrips[2]? = some (.str fileX_InvalidTrips tfX_InvalidTrips))
  (xf_InvalidTrips : ((l.prog.main.file : Str) == fileX_InvalidTrips) = true)
  (xtp_InvalidTrips : (l.prog.main.scope.names.lookup ("super" : Str)).isSome = false)
  (xB_InvalidTrips : xclB K C_InvalidTrips fX_InvalidTrips "InvalidTrips.__init__" "index" "ValueError" "ValueError.__init__" "ValueError.__new__" [.type "ValueError", .type "Exception", .type "BaseException", .type "object"] cda_InvalidTrips = true)
  (hk : kindB K C_InvalidText [C_InvalidSeats, C_InvalidTrips, C_InvalidName, C_InvalidSeat, C_InvalidStation, C_InvalidPlan, C_InvalidFixed, C_InvalidExchange, C_InvalidNumber, C_InvalidText, C_InvalidAction, C_InvalidCommand, C_NotALine, C_Overfull, C_Full, C_NameTaken, C_NotFree, C_Busy, C_NothingToUndo, C_TooManyTrips, C_TooManyPlans, C_TooManyEntries] C_SeatError C_StateError C_SizeError 9 = true)
  (hr1 : PySem.W.exmAny K (.ref C_InvalidSeats) [.ref C_InvalidSeats, .ref C_InvalidTrips] = some true)
  (hr2 : PySem.W.exmAny K (.ref C_InvalidTrips) [.ref C_InvalidSeats, .ref C_InvalidTrips] = some true)
  (hex : PySem.W.exmAny K (.ref C_InvalidText) [.ref C_SeatError, .ref C_StateError, .ref C_SizeError] = some true)
  (a_law_cell : PySem.W.nsIn K mainGlobals "_law_cell" = some (some (.ref f_law_cell)))
  (l_law_cell : K.lookup f_law_cell = some ⟨oc_law_cell, od_law_cell, .func (PySem.W.fnOf "_law_cell" "_law_cell" (defArgs s_law_cell) (defBody s_law_cell) (defScope s_law_cell) .none kV_law_cell dc_law_cell pm_law_cell an_law_cell cd_law_cell ct_law_cell), sl_law_cell⟩)
  (e_law_cell : PySem.W.codeIn K cd_law_cell "_law_cell" = true)
  (k_law_cell : PySem.W.keepIn K (.ref f_law_cell) = true)
  (a_law_pool : PySem.W.nsIn K mainGlobals "_law_pool" = some (some (.ref f_law_pool)))
  (l_law_pool : K.lookup f_law_pool = some ⟨oc_law_pool, od_law_pool, .func (PySem.W.fnOf "_law_pool" "_law_pool" (defArgs s_law_pool) (defBody s_law_pool) (defScope s_law_pool) .none kV_law_pool dc_law_pool pm_law_pool an_law_pool cd_law_pool ct_law_pool), sl_law_pool⟩)
  (e_law_pool : PySem.W.codeIn K cd_law_pool "_law_pool" = true)
  (k_law_pool : PySem.W.keepIn K (.ref f_law_pool) = true)
  (a_is_integer : PySem.W.nsIn K mainGlobals "is_integer" = some (some (.ref f_is_integer)))
  (l_is_integer : K.lookup f_is_integer = some ⟨oc_is_integer, od_is_integer, .func (PySem.W.fnOf "is_integer" "is_integer" (defArgs s_is_integer) (defBody s_is_integer) (defScope s_is_integer) .none kV_is_integer dc_is_integer pm_is_integer an_is_integer cd_is_integer ct_is_integer), sl_is_integer⟩)
  (e_is_integer : PySem.W.codeIn K cd_is_integer "is_integer" = true)
  (k_is_integer : PySem.W.keepIn K (.ref f_is_integer) = true)
  (a_check_seatsX : PySem.W.nsIn K mainGlobals "check_seats" = some (some (.ref f_check_seatsX)))
  (l_check_seatsX : K.lookup f_check_seatsX = some ⟨oc_check_seatsX, od_check_seatsX, .func (PySem.W.fnOf "check_seats" "check_seats" (defArgs s_check_seatsX) (defBody s_check_seatsX) (defScope s_check_seatsX) .none kV_check_seatsX dc_check_seatsX pm_check_seatsX an_check_seatsX cd_check_seatsX ct_check_seatsX), sl_check_seatsX⟩)
  (e_check_seatsX : PySem.W.codeIn K cd_check_seatsX "check_seats" = true)
  (k_check_seatsX : PySem.W.keepIn K (.ref f_check_seatsX) = true)
  (a_is_later : PySem.W.nsIn K mainGlobals "is_later" = some (some (.ref f_is_later)))
  (l_is_later : K.lookup f_is_later = some ⟨oc_is_later, od_is_later, .func (PySem.W.fnOf "is_later" "is_later" (defArgs s_is_later) (defBody s_is_later) (defScope s_is_later) .none kV_is_later dc_is_later pm_is_later an_is_later cd_is_later ct_is_later), sl_is_later⟩)
  (e_is_later : PySem.W.codeIn K cd_is_later "is_later" = true)
  (k_is_later : PySem.W.keepIn K (.ref f_is_later) = true)
  (a_is_station : PySem.W.nsIn K mainGlobals "is_station" = some (some (.ref f_is_station)))
  (l_is_station : K.lookup f_is_station = some ⟨oc_is_station, od_is_station, .func (PySem.W.fnOf "is_station" "is_station" (defArgs s_is_station) (defBody s_is_station) (defScope s_is_station) .none kV_is_station dc_is_station pm_is_station an_is_station cd_is_station ct_is_station), sl_is_station⟩)
  (e_is_station : PySem.W.codeIn K cd_is_station "is_station" = true)
  (k_is_station : PySem.W.keepIn K (.ref f_is_station) = true)
  (a_is_trip_name : PySem.W.nsIn K mainGlobals "is_trip_name" = some (some (.ref f_is_trip_name)))
  (l_is_trip_name : K.lookup f_is_trip_name = some ⟨oc_is_trip_name, od_is_trip_name, .func (PySem.W.fnOf "is_trip_name" "is_trip_name" (defArgs s_is_trip_name) (defBody s_is_trip_name) (defScope s_is_trip_name) .none kV_is_trip_name dc_is_trip_name pm_is_trip_name an_is_trip_name cd_is_trip_name ct_is_trip_name), sl_is_trip_name⟩)
  (e_is_trip_name : PySem.W.codeIn K cd_is_trip_name "is_trip_name" = true)
  (k_is_trip_name : PySem.W.keepIn K (.ref f_is_trip_name) = true)
  (a_is_tripE : PySem.W.nsIn K mainGlobals "is_trip" = some (some (.ref f_is_tripE)))
  (l_is_tripE : K.lookup f_is_tripE = some ⟨oc_is_tripE, od_is_tripE, .func (PySem.W.fnOf "is_trip" "is_trip" (defArgs s_is_tripE) (defBody s_is_tripE) (defScope s_is_tripE) .none kV_is_tripE dc_is_tripE pm_is_tripE an_is_tripE cd_is_tripE ct_is_tripE), sl_is_tripE⟩)
  (e_is_tripE : PySem.W.codeIn K cd_is_tripE "is_trip" = true)
  (k_is_tripE : PySem.W.keepIn K (.ref f_is_tripE) = true)
  (a_valid_beginningE : PySem.W.nsIn K mainGlobals "valid_beginning" = some (some (.ref f_valid_beginningE)))
  (l_valid_beginningE : K.lookup f_valid_beginningE = some ⟨oc_valid_beginningE, od_valid_beginningE, .func (PySem.W.fnOf "valid_beginning" "valid_beginning" (defArgs s_valid_beginningE) (defBody s_valid_beginningE) (defScope s_valid_beginningE) .none kV_valid_beginningE dc_valid_beginningE pm_valid_beginningE an_valid_beginningE cd_valid_beginningE ct_valid_beginningE), sl_valid_beginningE⟩)
  (e_valid_beginningE : PySem.W.codeIn K cd_valid_beginningE "valid_beginning" = true)
  (k_valid_beginningE : PySem.W.keepIn K (.ref f_valid_beginningE) = true)
  (l_Line_capacity : K.lookup f_Line_capacity = some ⟨oc_Line_capacity, od_Line_capacity, .func (PySem.W.fnOf "capacity" "Line.capacity" (defArgs s_Line_capacity) (defBody s_Line_capacity) (defScope s_Line_capacity) .none kV_Line_capacity dc_Line_capacity pm_Line_capacity an_Line_capacity cd_Line_capacity ct_Line_capacity), sl_Line_capacity⟩)
  (e_Line_capacity : PySem.W.codeIn K cd_Line_capacity "Line.capacity" = true)
  (k_Line_capacity : PySem.W.keepIn K (.ref f_Line_capacity) = true)
  (l_Line_trips : K.lookup f_Line_trips = some ⟨oc_Line_trips, od_Line_trips, .func (PySem.W.fnOf "trips" "Line.trips" (defArgs s_Line_trips) (defBody s_Line_trips) (defScope s_Line_trips) .none kV_Line_trips dc_Line_trips pm_Line_trips an_Line_trips cd_Line_trips ct_Line_trips), sl_Line_trips⟩)
  (e_Line_trips : PySem.W.codeIn K cd_Line_trips "Line.trips" = true)
  (k_Line_trips : PySem.W.keepIn K (.ref f_Line_trips) = true)
  (l_Line_len : K.lookup f_Line_len = some ⟨oc_Line_len, od_Line_len, .func (PySem.W.fnOf "__len__" "Line.__len__" (defArgs s_Line_len) (defBody s_Line_len) (defScope s_Line_len) .none kV_Line_len dc_Line_len pm_Line_len an_Line_len cd_Line_len ct_Line_len), sl_Line_len⟩)
  (e_Line_len : PySem.W.codeIn K cd_Line_len "Line.__len__" = true)
  (k_Line_len : PySem.W.keepIn K (.ref f_Line_len) = true)
  (l_Line_eq : K.lookup f_Line_eq = some ⟨oc_Line_eq, od_Line_eq, .func (PySem.W.fnOf "__eq__" "Line.__eq__" (defArgs s_Line_eq) (defBody s_Line_eq) (defScope s_Line_eq) .none kV_Line_eq dc_Line_eq pm_Line_eq an_Line_eq cd_Line_eq ct_Line_eq), sl_Line_eq⟩)
  (e_Line_eq : PySem.W.codeIn K cd_Line_eq "Line.__eq__" = true)
  (k_Line_eq : PySem.W.keepIn K (.ref f_Line_eq) = true)
  (l_Line_strB : K.lookup f_Line_strB = some ⟨oc_Line_strB, od_Line_strB, .func (PySem.W.fnOf "__str__" "Line.__str__" (defArgs s_Line_strB) (defBody s_Line_strB) (defScope s_Line_strB) .none kV_Line_strB dc_Line_strB pm_Line_strB an_Line_strB cd_Line_strB ct_Line_strB), sl_Line_strB⟩)
  (e_Line_strB : PySem.W.codeIn K cd_Line_strB "Line.__str__" = true)
  (k_Line_strB : PySem.W.keepIn K (.ref f_Line_strB) = true)
  (l_Line_reprB : K.lookup f_Line_reprB = some ⟨oc_Line_reprB, od_Line_reprB, .func (PySem.W.fnOf "__repr__" "Line.__repr__" (defArgs s_Line_reprB) (defBody s_Line_reprB) (defScope s_Line_reprB) .none kV_Line_reprB dc_Line_reprB pm_Line_reprB an_Line_reprB cd_Line_reprB ct_Line_reprB), sl_Line_reprB⟩)
  (e_Line_reprB : PySem.W.codeIn K cd_Line_reprB "Line.__repr__" = true)
  (k_Line_reprB : PySem.W.keepIn K (.ref f_Line_reprB) = true)
  (l_Line_initX : K.lookup f_Line_initX = some ⟨oc_Line_initX, od_Line_initX, .func (PySem.W.fnOf "__init__" "Line.__init__" (defArgs s_Line_initX) (defBody s_Line_initX) (defScope s_Line_initX) (.ref TD) kV_Line_initX dc_Line_initX pm_Line_initX an_Line_initX (.ref cL) ct_Line_initX), sl_Line_initX⟩)
  (e_Line_initX : PySem.W.codeIn K (.ref cL) "Line.__init__" = true)
  (k_Line_initX : PySem.W.keepIn K (.ref f_Line_initX) = true)
  (w1 : K.lookup TD = some ⟨.type "tuple", oTD, .seq #[.ref eL] nTD, slT⟩)
  (w2 : K.lookup eL = some ⟨.type "tuple", oEL, .seq #[] nEL, slE⟩)
  (w3 : K.lookup cL = some ⟨.type "code", oCL, .fields cvs, slC⟩)
  (w4 : (cvs[11]? : Option Value) = some (.ref tL))
  (w5 : PySem.W.codeHdIn K cL tL = true)
  (w6 : K.lookup tL = none)
  (a_number_written : PySem.W.nsIn K mainGlobals "number_written" = some (some (.ref f_number_written)))
  (l_number_written : K.lookup f_number_written = some ⟨oc_number_written, od_number_written, .func (PySem.W.fnOf "number_written" "number_written" (defArgs s_number_written) (defBody s_number_written) (defScope s_number_written) .none kV_number_written dc_number_written pm_number_written an_number_written cd_number_written ct_number_written), sl_number_written⟩)
  (e_number_written : PySem.W.codeIn K cd_number_written "number_written" = true)
  (k_number_written : PySem.W.keepIn K (.ref f_number_written) = true)
  (a_trip_written : PySem.W.nsIn K mainGlobals "trip_written" = some (some (.ref f_trip_written)))
  (l_trip_written : K.lookup f_trip_written = some ⟨oc_trip_written, od_trip_written, .func (PySem.W.fnOf "trip_written" "trip_written" (defArgs s_trip_written) (defBody s_trip_written) (defScope s_trip_written) .none kV_trip_written dc_trip_written pm_trip_written an_trip_written cd_trip_written ct_trip_written), sl_trip_written⟩)
  (e_trip_written : PySem.W.codeIn K cd_trip_written "trip_written" = true)
  (k_trip_written : PySem.W.keepIn K (.ref f_trip_written) = true)
  (l_Line_read : K.lookup f_Line_read = some ⟨oc_Line_read, od_Line_read, .func (PySem.W.fnOf "read" "Line.read" (defArgs s_Line_read) (defBody s_Line_read) (defScope s_Line_read) .none kV_Line_read dc_Line_read pm_Line_read an_Line_read cd_Line_read ct_Line_read), sl_Line_read⟩)
  (e_Line_read : PySem.W.codeIn K cd_Line_read "Line.read" = true)
  (k_Line_read : PySem.W.keepIn K (.ref f_Line_read) = true)
  (a_law_draw : PySem.W.nsIn K mainGlobals "_law_draw" = some (some (.ref f_law_draw)))
  (l_law_draw : K.lookup f_law_draw = some ⟨oc_law_draw, od_law_draw, .func (PySem.W.fnOf "_law_draw" "_law_draw" (defArgs s_law_draw) (defBody s_law_draw) (defScope s_law_draw) .none kV_law_draw dc_law_draw pm_law_draw an_law_draw cd_law_draw ct_law_draw), sl_law_draw⟩)
  (e_law_draw : PySem.W.codeIn K cd_law_draw "_law_draw" = true)
  (k_law_draw : PySem.W.keepIn K (.ref f_law_draw) = true)
  (a_law_bent : PySem.W.nsIn K mainGlobals "_law_bent" = some (some (.ref f_law_bent)))
  (l_law_bent : K.lookup f_law_bent = some ⟨oc_law_bent, od_law_bent, .func (PySem.W.fnOf "_law_bent" "_law_bent" (defArgs s_law_bent) (defBody s_law_bent) (defScope s_law_bent) .none kV_law_bent dc_law_bent pm_law_bent an_law_bent cd_law_bent ct_law_bent), sl_law_bent⟩)
  (e_law_bent : PySem.W.codeIn K cd_law_bent "_law_bent" = true)
  (k_law_bent : PySem.W.keepIn K (.ref f_law_bent) = true)
  (a_law_far : PySem.W.nsIn K mainGlobals "_law_far" = some (some (.ref f_law_far)))
  (l_law_far : K.lookup f_law_far = some ⟨oc_law_far, od_law_far, .func (PySem.W.fnOf "_law_far" "_law_far" (defArgs s_law_far) (defBody s_law_far) (defScope s_law_far) .none kV_law_far dc_law_far pm_law_far an_law_far cd_law_far ct_law_far), sl_law_far⟩)
  (e_law_far : PySem.W.codeIn K cd_law_far "_law_far" = true)
  (k_law_far : PySem.W.keepIn K (.ref f_law_far) = true)
  (a_law_rides : PySem.W.nsIn K mainGlobals "_law_rides" = some (some (.ref f_law_rides)))
  (l_law_rides : K.lookup f_law_rides = some ⟨oc_law_rides, od_law_rides, .func (PySem.W.fnOf "_law_rides" "_law_rides" (defArgs s_law_rides) (defBody s_law_rides) (defScope s_law_rides) .none kV_law_rides dc_law_rides pm_law_rides an_law_rides cd_law_rides ct_law_rides), sl_law_rides⟩)
  (e_law_rides : PySem.W.codeIn K cd_law_rides "_law_rides" = true)
  (k_law_rides : PySem.W.keepIn K (.ref f_law_rides) = true)
  (a_law_text : PySem.W.nsIn K mainGlobals "_law_text" = some (some (.ref f_law_text)))
  (l_law_text : K.lookup f_law_text = some ⟨oc_law_text, od_law_text, .func (PySem.W.fnOf "_law_text" "_law_text" (defArgs s_law_text) (defBody s_law_text) (defScope s_law_text) .none kV_law_text dc_law_text pm_law_text an_law_text cd_law_text ct_law_text), sl_law_text⟩)
  (e_law_text : PySem.W.codeIn K cd_law_text "_law_text" = true)
  (k_law_text : PySem.W.keepIn K (.ref f_law_text) = true)
  (a_law_other_fields : PySem.W.nsIn K mainGlobals "_law_other_fields" = some (some (.ref f_law_other_fields)))
  (l_law_other_fields : K.lookup f_law_other_fields = some ⟨oc_law_other_fields, od_law_other_fields, .func (PySem.W.fnOf "_law_other_fields" "_law_other_fields" (defArgs s_law_other_fields) (defBody s_law_other_fields) (defScope s_law_other_fields) .none kV_law_other_fields dc_law_other_fields pm_law_other_fields an_law_other_fields cd_law_other_fields ct_law_other_fields), sl_law_other_fields⟩)
  (e_law_other_fields : PySem.W.codeIn K cd_law_other_fields "_law_other_fields" = true)
  (k_law_other_fields : PySem.W.keepIn K (.ref f_law_other_fields) = true)
  (a_law_fields : PySem.W.nsIn K mainGlobals "_law_fields" = some (some (.ref f_law_fields)))
  (l_law_fields : K.lookup f_law_fields = some ⟨oc_law_fields, od_law_fields, .func (PySem.W.fnOf "_law_fields" "_law_fields" (defArgs s_law_fields) (defBody s_law_fields) (defScope s_law_fields) .none kV_law_fields dc_law_fields pm_law_fields an_law_fields cd_law_fields ct_law_fields), sl_law_fields⟩)
  (e_law_fields : PySem.W.codeIn K cd_law_fields "_law_fields" = true)
  (k_law_fields : PySem.W.keepIn K (.ref f_law_fields) = true)
  (a_law_kind : PySem.W.nsIn K mainGlobals "_law_kind" = some (some (.ref f_law_kind)))
  (l_law_kind : K.lookup f_law_kind = some ⟨oc_law_kind, od_law_kind, .func (PySem.W.fnOf "_law_kind" "_law_kind" (defArgs s_law_kind) (defBody s_law_kind) (defScope s_law_kind) .none kV_law_kind dc_law_kind pm_law_kind an_law_kind cd_law_kind ct_law_kind), sl_law_kind⟩)
  (e_law_kind : PySem.W.codeIn K cd_law_kind "_law_kind" = true)
  (k_law_kind : PySem.W.keepIn K (.ref f_law_kind) = true)
  (a_law_caught : PySem.W.nsIn K mainGlobals "_law_caught" = some (some (.ref f_law_caught)))
  (l_law_caught : K.lookup f_law_caught = some ⟨oc_law_caught, od_law_caught, .func (PySem.W.fnOf "_law_caught" "_law_caught" (defArgs s_law_caught) (defBody s_law_caught) (defScope s_law_caught) .none kV_law_caught dc_law_caught pm_law_caught an_law_caught cd_law_caught ct_law_caught), sl_law_caught⟩)
  (e_law_caught : PySem.W.codeIn K cd_law_caught "_law_caught" = true)
  (k_law_caught : PySem.W.keepIn K (.ref f_law_caught) = true)
  (a_law_number : PySem.W.nsIn K mainGlobals "_law_number" = some (some (.ref f_law_number)))
  (l_law_number : K.lookup f_law_number = some ⟨oc_law_number, od_law_number, .func (PySem.W.fnOf "_law_number" "_law_number" (defArgs s_law_number) (defBody s_law_number) (defScope s_law_number) .none kV_law_number dc_law_number pm_law_number an_law_number cd_law_number ct_law_number), sl_law_number⟩)
  (e_law_number : PySem.W.codeIn K cd_law_number "_law_number" = true)
  (k_law_number : PySem.W.keepIn K (.ref f_law_number) = true)
  (a_law_read : PySem.W.nsIn K mainGlobals "_law_read" = some (some (.ref f_law_read)))
  (l_law_read : K.lookup f_law_read = some ⟨oc_law_read, od_law_read, .func (PySem.W.fnOf "_law_read" "_law_read" (defArgs s_law_read) (defBody s_law_read) (defScope s_law_read) .none kV_law_read dc_law_read pm_law_read an_law_read cd_law_read ct_law_read), sl_law_read⟩)
  (e_law_read : PySem.W.codeIn K cd_law_read "_law_read" = true)
  (k_law_read : PySem.W.keepIn K (.ref f_law_read) = true)
  (a_law_text_right : PySem.W.nsIn K mainGlobals "_law_text_right" = some (some (.ref f_law_text_right)))
  (l_law_text_right : K.lookup f_law_text_right = some ⟨oc_law_text_right, od_law_text_right, .func (PySem.W.fnOf "_law_text_right" "_law_text_right" (defArgs s_law_text_right) (defBody s_law_text_right) (defScope s_law_text_right) .none kV_law_text_right dc_law_text_right pm_law_text_right an_law_text_right (.ref cT) ct_law_text_right), sl_law_text_right⟩)
  (e_law_text_right : PySem.W.codeIn K (.ref cT) "_law_text_right" = true)
  (k_law_text_right : PySem.W.keepIn K (.ref f_law_text_right) = true)
  (z3 : K.lookup cT = some ⟨.type "code", oCT, .fields cvT, slCT⟩)
  (z4 : (cvT[11]? : Option Value) = some (.ref tT))
  (z5 : PySem.W.codeHdIn K cT tT = true)
  (z6 : K.lookup tT = none)
  (a_law_words : PySem.W.nsIn K mainGlobals "_law_words" = some (some (.ref f_law_words)))
  (l_law_words : K.lookup f_law_words = some ⟨oc_law_words, od_law_words, .func (PySem.W.fnOf "_law_words" "_law_words" (defArgs s_law_words) (defBody s_law_words) (defScope s_law_words) .none kV_law_words dc_law_words pm_law_words an_law_words cd_law_words ct_law_words), sl_law_words⟩)
  (e_law_words : PySem.W.codeIn K cd_law_words "_law_words" = true)
  (k_law_words : PySem.W.keepIn K (.ref f_law_words) = true)
  (a_law_right3 : PySem.W.nsIn K mainGlobals "_law_right" = some (some (.ref f_law_right3)))
  (l_law_right3 : K.lookup f_law_right3 = some ⟨oc_law_right3, od_law_right3, .func (PySem.W.fnOf "_law_right" "_law_right" (defArgs s_law_right3) (defBody s_law_right3) (defScope s_law_right3) .none kV_law_right3 dc_law_right3 pm_law_right3 an_law_right3 cd_law_right3 ct_law_right3), sl_law_right3⟩)
  (e_law_right3 : PySem.W.codeIn K cd_law_right3 "_law_right" = true)
  (k_law_right3 : PySem.W.keepIn K (.ref f_law_right3) = true)
  (a_law3 : PySem.W.nsIn K mainGlobals "law" = some (some (.ref f_law3)))
  (l_law3 : K.lookup f_law3 = some ⟨oc_law3, od_law3, .func (PySem.W.fnOf "law" "law" (defArgs s_law3) (defBody s_law3) (defScope s_law3) .none kV_law3 dc_law3 pm_law3 an_law3 cd_law3 ct_law3), sl_law3⟩)
  (e_law3 : PySem.W.codeIn K cd_law3 "law" = true)
  (k_law3 : PySem.W.keepIn K (.ref f_law3) = true)
  (b_ArithmeticError : PySem.W.nsIn K mainGlobals "ArithmeticError" = some none)
  (v_DIGITS : PySem.W.nsIn K mainGlobals "DIGITS" = some (some (.str ("0123456789" : Str) tv_DIGITS)))
  (v_LETTERS : PySem.W.nsIn K mainGlobals "LETTERS" = some (some (.str ("abcdefghijklmnopqrstuvwxyz" : Str) tv_LETTERS)))
  (v_LONGEST_NAME : PySem.W.nsIn K mainGlobals "LONGEST_NAME" = some (some (.int 8 tv_LONGEST_NAME)))
  (b_LookupError : PySem.W.nsIn K mainGlobals "LookupError" = some none)
  (v_MAX_SEATS : PySem.W.nsIn K mainGlobals "MAX_SEATS" = some (some (.int 20 tv_MAX_SEATS)))
  (v_MAX_TRIPS : PySem.W.nsIn K mainGlobals "MAX_TRIPS" = some (some (.int 24 tv_MAX_TRIPS)))
  (b_ValueError : PySem.W.nsIn K mainGlobals "ValueError" = some none)
  (b_abs : PySem.W.nsIn K mainGlobals "abs" = some none)
  (b_all : PySem.W.nsIn K mainGlobals "all" = some none)
  (b_bool : PySem.W.nsIn K mainGlobals "bool" = some none)
  (b_divmod : PySem.W.nsIn K mainGlobals "divmod" = some none)
  (b_enumerate : PySem.W.nsIn K mainGlobals "enumerate" = some none)
  (b_int : PySem.W.nsIn K mainGlobals "int" = some none)
  (b_isinstance : PySem.W.nsIn K mainGlobals "isinstance" = some none)
  (b_len : PySem.W.nsIn K mainGlobals "len" = some none)
  (b_max : PySem.W.nsIn K mainGlobals "max" = some none)
  (b_min : PySem.W.nsIn K mainGlobals "min" = some none)
  (b_range : PySem.W.nsIn K mainGlobals "range" = some none)
  (b_repr : PySem.W.nsIn K mainGlobals "repr" = some none)
  (b_sorted : PySem.W.nsIn K mainGlobals "sorted" = some none)
  (b_str : PySem.W.nsIn K mainGlobals "str" = some none)
  (b_super : PySem.W.nsIn K mainGlobals "super" = some none)
  (b_tuple : PySem.W.nsIn K mainGlobals "tuple" = some none)
  (htT : h.get? tT = some (PySem.W.tabObj #[]))
  (tq : (tL == tT) = false)
  (nl : NoList K = true)
  (ht : h.get? tL = some (PySem.W.tabObj #[]))
  : LawG l w K 14 63 "_law_script" mg fa h := by
 have e := hfa.symm.trans (PySem.W.mg_of X G a_law3)
 obtain rfl : fa = f_law3 := Value.ref.inj (Option.some.inj e)
 let a : Ad := {
  CLine := CLine,
  cL := cL,
  tL := tL,
  eL := eL,
  qT := qT,
  qC := qC,
  pS := CLine,
  mL := mL,
  cT := cT,
  tT := tT,
  qc_read := qc_read,
  XC := fun x => ([(("Busy" : Str), C_Busy), (("Full" : Str), C_Full), (("InvalidAction" : Str), C_InvalidAction), (("InvalidCommand" : Str), C_InvalidCommand), (("InvalidExchange" : Str), C_InvalidExchange), (("InvalidFixed" : Str), C_InvalidFixed), (("InvalidName" : Str), C_InvalidName), (("InvalidNumber" : Str), C_InvalidNumber), (("InvalidPlan" : Str), C_InvalidPlan), (("InvalidSeat" : Str), C_InvalidSeat), (("InvalidSeats" : Str), C_InvalidSeats), (("InvalidStation" : Str), C_InvalidStation), (("InvalidText" : Str), C_InvalidText), (("InvalidTrips" : Str), C_InvalidTrips), (("NameTaken" : Str), C_NameTaken), (("NotALine" : Str), C_NotALine), (("NotFree" : Str), C_NotFree), (("NothingToUndo" : Str), C_NothingToUndo), (("Overfull" : Str), C_Overfull), (("SeatError" : Str), C_SeatError), (("SizeError" : Str), C_SizeError), (("StateError" : Str), C_StateError), (("TooManyEntries" : Str), C_TooManyEntries), (("TooManyPlans" : Str), C_TooManyPlans), (("TooManyTrips" : Str), C_TooManyTrips)].lookup x).getD CLine,
  f_law_cell := f_law_cell,
  d_law_cell := PySem.W.fnOf "_law_cell" "_law_cell" (defArgs s_law_cell) (defBody s_law_cell) (defScope s_law_cell) .none kV_law_cell dc_law_cell pm_law_cell an_law_cell cd_law_cell ct_law_cell,
  f_law_pool := f_law_pool,
  d_law_pool := PySem.W.fnOf "_law_pool" "_law_pool" (defArgs s_law_pool) (defBody s_law_pool) (defScope s_law_pool) .none kV_law_pool dc_law_pool pm_law_pool an_law_pool cd_law_pool ct_law_pool,
  f_is_integer := f_is_integer,
  d_is_integer := PySem.W.fnOf "is_integer" "is_integer" (defArgs s_is_integer) (defBody s_is_integer) (defScope s_is_integer) .none kV_is_integer dc_is_integer pm_is_integer an_is_integer cd_is_integer ct_is_integer,
  f_check_seatsX := f_check_seatsX,
  d_check_seatsX := PySem.W.fnOf "check_seats" "check_seats" (defArgs s_check_seatsX) (defBody s_check_seatsX) (defScope s_check_seatsX) .none kV_check_seatsX dc_check_seatsX pm_check_seatsX an_check_seatsX cd_check_seatsX ct_check_seatsX,
  f_is_later := f_is_later,
  d_is_later := PySem.W.fnOf "is_later" "is_later" (defArgs s_is_later) (defBody s_is_later) (defScope s_is_later) .none kV_is_later dc_is_later pm_is_later an_is_later cd_is_later ct_is_later,
  f_is_station := f_is_station,
  d_is_station := PySem.W.fnOf "is_station" "is_station" (defArgs s_is_station) (defBody s_is_station) (defScope s_is_station) .none kV_is_station dc_is_station pm_is_station an_is_station cd_is_station ct_is_station,
  f_is_trip_name := f_is_trip_name,
  d_is_trip_name := PySem.W.fnOf "is_trip_name" "is_trip_name" (defArgs s_is_trip_name) (defBody s_is_trip_name) (defScope s_is_trip_name) .none kV_is_trip_name dc_is_trip_name pm_is_trip_name an_is_trip_name cd_is_trip_name ct_is_trip_name,
  f_is_tripE := f_is_tripE,
  d_is_tripE := PySem.W.fnOf "is_trip" "is_trip" (defArgs s_is_tripE) (defBody s_is_tripE) (defScope s_is_tripE) .none kV_is_tripE dc_is_tripE pm_is_tripE an_is_tripE cd_is_tripE ct_is_tripE,
  f_valid_beginningE := f_valid_beginningE,
  d_valid_beginningE := PySem.W.fnOf "valid_beginning" "valid_beginning" (defArgs s_valid_beginningE) (defBody s_valid_beginningE) (defScope s_valid_beginningE) .none kV_valid_beginningE dc_valid_beginningE pm_valid_beginningE an_valid_beginningE cd_valid_beginningE ct_valid_beginningE,
  f_Line_capacity := f_Line_capacity,
  d_Line_capacity := PySem.W.fnOf "capacity" "Line.capacity" (defArgs s_Line_capacity) (defBody s_Line_capacity) (defScope s_Line_capacity) .none kV_Line_capacity dc_Line_capacity pm_Line_capacity an_Line_capacity cd_Line_capacity ct_Line_capacity,
  f_Line_trips := f_Line_trips,
  d_Line_trips := PySem.W.fnOf "trips" "Line.trips" (defArgs s_Line_trips) (defBody s_Line_trips) (defScope s_Line_trips) .none kV_Line_trips dc_Line_trips pm_Line_trips an_Line_trips cd_Line_trips ct_Line_trips,
  f_Line_len := f_Line_len,
  d_Line_len := PySem.W.fnOf "__len__" "Line.__len__" (defArgs s_Line_len) (defBody s_Line_len) (defScope s_Line_len) .none kV_Line_len dc_Line_len pm_Line_len an_Line_len cd_Line_len ct_Line_len,
  f_Line_eq := f_Line_eq,
  d_Line_eq := PySem.W.fnOf "__eq__" "Line.__eq__" (defArgs s_Line_eq) (defBody s_Line_eq) (defScope s_Line_eq) .none kV_Line_eq dc_Line_eq pm_Line_eq an_Line_eq cd_Line_eq ct_Line_eq,
  f_Line_strB := f_Line_strB,
  d_Line_strB := PySem.W.fnOf "__str__" "Line.__str__" (defArgs s_Line_strB) (defBody s_Line_strB) (defScope s_Line_strB) .none kV_Line_strB dc_Line_strB pm_Line_strB an_Line_strB cd_Line_strB ct_Line_strB,
  f_Line_reprB := f_Line_reprB,
  d_Line_reprB := PySem.W.fnOf "__repr__" "Line.__repr__" (defArgs s_Line_reprB) (defBody s_Line_reprB) (defScope s_Line_reprB) .none kV_Line_reprB dc_Line_reprB pm_Line_reprB an_Line_reprB cd_Line_reprB ct_Line_reprB,
  f_Line_initX := f_Line_initX,
  d_Line_initX := PySem.W.fnOf "__init__" "Line.__init__" (defArgs s_Line_initX) (defBody s_Line_initX) (defScope s_Line_initX) (.ref TD) kV_Line_initX dc_Line_initX pm_Line_initX an_Line_initX (.ref cL) ct_Line_initX,
  f_number_written := f_number_written,
  d_number_written := PySem.W.fnOf "number_written" "number_written" (defArgs s_number_written) (defBody s_number_written) (defScope s_number_written) .none kV_number_written dc_number_written pm_number_written an_number_written cd_number_written ct_number_written,
  f_trip_written := f_trip_written,
  d_trip_written := PySem.W.fnOf "trip_written" "trip_written" (defArgs s_trip_written) (defBody s_trip_written) (defScope s_trip_written) .none kV_trip_written dc_trip_written pm_trip_written an_trip_written cd_trip_written ct_trip_written,
  f_Line_read := f_Line_read,
  d_Line_read := PySem.W.fnOf "read" "Line.read" (defArgs s_Line_read) (defBody s_Line_read) (defScope s_Line_read) .none kV_Line_read dc_Line_read pm_Line_read an_Line_read cd_Line_read ct_Line_read,
  f_law_draw := f_law_draw,
  d_law_draw := PySem.W.fnOf "_law_draw" "_law_draw" (defArgs s_law_draw) (defBody s_law_draw) (defScope s_law_draw) .none kV_law_draw dc_law_draw pm_law_draw an_law_draw cd_law_draw ct_law_draw,
  f_law_bent := f_law_bent,
  d_law_bent := PySem.W.fnOf "_law_bent" "_law_bent" (defArgs s_law_bent) (defBody s_law_bent) (defScope s_law_bent) .none kV_law_bent dc_law_bent pm_law_bent an_law_bent cd_law_bent ct_law_bent,
  f_law_far := f_law_far,
  d_law_far := PySem.W.fnOf "_law_far" "_law_far" (defArgs s_law_far) (defBody s_law_far) (defScope s_law_far) .none kV_law_far dc_law_far pm_law_far an_law_far cd_law_far ct_law_far,
  f_law_rides := f_law_rides,
  d_law_rides := PySem.W.fnOf "_law_rides" "_law_rides" (defArgs s_law_rides) (defBody s_law_rides) (defScope s_law_rides) .none kV_law_rides dc_law_rides pm_law_rides an_law_rides cd_law_rides ct_law_rides,
  f_law_text := f_law_text,
  d_law_text := PySem.W.fnOf "_law_text" "_law_text" (defArgs s_law_text) (defBody s_law_text) (defScope s_law_text) .none kV_law_text dc_law_text pm_law_text an_law_text cd_law_text ct_law_text,
  f_law_other_fields := f_law_other_fields,
  d_law_other_fields := PySem.W.fnOf "_law_other_fields" "_law_other_fields" (defArgs s_law_other_fields) (defBody s_law_other_fields) (defScope s_law_other_fields) .none kV_law_other_fields dc_law_other_fields pm_law_other_fields an_law_other_fields cd_law_other_fields ct_law_other_fields,
  f_law_fields := f_law_fields,
  d_law_fields := PySem.W.fnOf "_law_fields" "_law_fields" (defArgs s_law_fields) (defBody s_law_fields) (defScope s_law_fields) .none kV_law_fields dc_law_fields pm_law_fields an_law_fields cd_law_fields ct_law_fields,
  f_law_kind := f_law_kind,
  d_law_kind := PySem.W.fnOf "_law_kind" "_law_kind" (defArgs s_law_kind) (defBody s_law_kind) (defScope s_law_kind) .none kV_law_kind dc_law_kind pm_law_kind an_law_kind cd_law_kind ct_law_kind,
  f_law_caught := f_law_caught,
  d_law_caught := PySem.W.fnOf "_law_caught" "_law_caught" (defArgs s_law_caught) (defBody s_law_caught) (defScope s_law_caught) .none kV_law_caught dc_law_caught pm_law_caught an_law_caught cd_law_caught ct_law_caught,
  f_law_number := f_law_number,
  d_law_number := PySem.W.fnOf "_law_number" "_law_number" (defArgs s_law_number) (defBody s_law_number) (defScope s_law_number) .none kV_law_number dc_law_number pm_law_number an_law_number cd_law_number ct_law_number,
  f_law_read := f_law_read,
  d_law_read := PySem.W.fnOf "_law_read" "_law_read" (defArgs s_law_read) (defBody s_law_read) (defScope s_law_read) .none kV_law_read dc_law_read pm_law_read an_law_read cd_law_read ct_law_read,
  f_law_text_right := f_law_text_right,
  d_law_text_right := PySem.W.fnOf "_law_text_right" "_law_text_right" (defArgs s_law_text_right) (defBody s_law_text_right) (defScope s_law_text_right) .none kV_law_text_right dc_law_text_right pm_law_text_right an_law_text_right (.ref cT) ct_law_text_right,
  f_law_words := f_law_words,
  d_law_words := PySem.W.fnOf "_law_words" "_law_words" (defArgs s_law_words) (defBody s_law_words) (defScope s_law_words) .none kV_law_words dc_law_words pm_law_words an_law_words cd_law_words ct_law_words,
  f_law_right3 := f_law_right3,
  d_law_right3 := PySem.W.fnOf "_law_right" "_law_right" (defArgs s_law_right3) (defBody s_law_right3) (defScope s_law_right3) .none kV_law_right3 dc_law_right3 pm_law_right3 an_law_right3 cd_law_right3 ct_law_right3,
  f_law3 := fa,
  d_law3 := PySem.W.fnOf "law" "law" (defArgs s_law3) (defBody s_law3) (defScope s_law3) .none kV_law3 dc_law3 pm_law3 an_law3 cd_law3 ct_law3 }
 have t : Tx l.prog w K mg a := {
  cl := ⟨c1, c2, c3, c4⟩,
  clt := ⟨⟨c1, c2, c3, c4⟩, t1, t2, t3, t4, t5, (fun n hn => by rcases List.mem_cons.mp hn with rfl | hn; exact ty0; rcases List.mem_cons.mp hn with rfl | hn; exact ty1; rcases List.mem_cons.mp hn with rfl | hn; exact ty2; rcases List.mem_cons.mp hn with rfl | hn; exact ty3; rcases List.mem_cons.mp hn with rfl | hn; exact ty4; rcases List.mem_cons.mp hn with rfl | hn; exact ty5; cases hn), (fun n hn => by rcases List.mem_cons.mp hn with rfl | hn; exact no0; rcases List.mem_cons.mp hn with rfl | hn; exact no1; rcases List.mem_cons.mp hn with rfl | hn; exact no2; rcases List.mem_cons.mp hn with rfl | hn; exact no3; rcases List.mem_cons.mp hn with rfl | hn; exact no4; rcases List.mem_cons.mp hn with rfl | hn; exact no5; rcases List.mem_cons.mp hn with rfl | hn; exact no6; cases hn)⟩,
  g_Line := PySem.W.mg_of X G hC,
  mkL := ⟨m1, m2, m3, m4⟩,
  p_capacity := ⟨u1, u2, u3, ⟨_, u4⟩⟩,
  rp := rp,
  rpf := rpf,
  ow := { t := ⟨⟨c1, c2, c3, c4⟩, t1, t2, t3, t4, t5, (fun n hn => by rcases List.mem_cons.mp hn with rfl | hn; exact ty0; rcases List.mem_cons.mp hn with rfl | hn; exact ty1; rcases List.mem_cons.mp hn with rfl | hn; exact ty2; rcases List.mem_cons.mp hn with rfl | hn; exact ty3; rcases List.mem_cons.mp hn with rfl | hn; exact ty4; rcases List.mem_cons.mp hn with rfl | hn; exact ty5; cases hn), (fun n hn => by rcases List.mem_cons.mp hn with rfl | hn; exact no0; rcases List.mem_cons.mp hn with rfl | hn; exact no1; rcases List.mem_cons.mp hn with rfl | hn; exact no2; rcases List.mem_cons.mp hn with rfl | hn; exact no3; rcases List.mem_cons.mp hn with rfl | hn; exact no4; rcases List.mem_cons.mp hn with rfl | hn; exact no5; rcases List.mem_cons.mp hn with rfl | hn; exact no6; cases hn)⟩, eq := x1, eqf := x1f, ne := x4, len := x2, lenf := x2f, bool := x5, str := x3, strf := x3f, nf := (fun n hn => by rcases List.mem_cons.mp hn with rfl | hn; exact nf0; rcases List.mem_cons.mp hn with rfl | hn; exact nf1; rcases List.mem_cons.mp hn with rfl | hn; exact nf2; rcases List.mem_cons.mp hn with rfl | hn; exact nf3; rcases List.mem_cons.mp hn with rfl | hn; exact nf4; rcases List.mem_cons.mp hn with rfl | hn; exact nf5; rcases List.mem_cons.mp hn with rfl | hn; exact nf6; cases hn) },
  cr := ⟨r1, r2⟩,
  cm_read := ⟨d1_read, ⟨_, d2_read⟩, d3_read⟩,
  ci_read := ⟨c1, d4_read, d5_read, d6_read, d7_read, d8_read, by decide +kernel, ⟨_, d2_read⟩, d3_read⟩,
  p_trips := ⟨q1, q2, q3, ⟨_, q4⟩⟩,
  n_seat_count := n_seat_count,
  n_rows := n_rows,
  n_queue := n_queue,
  g_Busy := PySem.W.mg_of X G xg_Busy,
  g_Full := PySem.W.mg_of X G xg_Full,
  g_InvalidAction := PySem.W.mg_of X G xg_InvalidAction,
  g_InvalidCommand := PySem.W.mg_of X G xg_InvalidCommand,
  g_InvalidExchange := PySem.W.mg_of X G xg_InvalidExchange,
  g_InvalidFixed := PySem.W.mg_of X G xg_InvalidFixed,
  g_InvalidName := PySem.W.mg_of X G xg_InvalidName,
  g_InvalidNumber := PySem.W.mg_of X G xg_InvalidNumber,
  g_InvalidPlan := PySem.W.mg_of X G xg_InvalidPlan,
  g_InvalidSeat := PySem.W.mg_of X G xg_InvalidSeat,
  g_InvalidSeats := PySem.W.mg_of X G xg_InvalidSeats,
  g_InvalidStation := PySem.W.mg_of X G xg_InvalidStation,
  g_InvalidText := PySem.W.mg_of X G xg_InvalidText,
  g_InvalidTrips := PySem.W.mg_of X G xg_InvalidTrips,
  g_NameTaken := PySem.W.mg_of X G xg_NameTaken,
  g_NotALine := PySem.W.mg_of X G xg_NotALine,
  g_NotFree := PySem.W.mg_of X G xg_NotFree,
  g_NothingToUndo := PySem.W.mg_of X G xg_NothingToUndo,
  g_Overfull := PySem.W.mg_of X G xg_Overfull,
  g_SeatError := PySem.W.mg_of X G xg_SeatError,
  g_SizeError := PySem.W.mg_of X G xg_SizeError,
  g_StateError := PySem.W.mg_of X G xg_StateError,
  g_TooManyEntries := PySem.W.mg_of X G xg_TooManyEntries,
  g_TooManyPlans := PySem.W.mg_of X G xg_TooManyPlans,
  g_TooManyTrips := PySem.W.mg_of X G xg_TooManyTrips,
  xa_InvalidSeats := xAll_of baseV xt_InvalidSeats (PySem.W.mg_of X G xg_InvalidSeats) xi_InvalidSeats xl_InvalidSeats xc_InvalidSeats xd_InvalidSeats xv_InvalidSeats xf_InvalidSeats xtp_InvalidSeats xB_InvalidSeats,
  xa_InvalidText := xAll_of baseV xt_InvalidText (PySem.W.mg_of X G xg_InvalidText) xi_InvalidText xl_InvalidText xc_InvalidText xd_InvalidText xv_InvalidText xf_InvalidText xtp_InvalidText xB_InvalidText,
  xa_InvalidTrips := xAll_of baseV xt_InvalidTrips (PySem.W.mg_of X G xg_InvalidTrips) xi_InvalidTrips xl_InvalidTrips xc_InvalidTrips xd_InvalidTrips xv_InvalidTrips xf_InvalidTrips xtp_InvalidTrips xB_InvalidTrips,
  F_law_cell := fun_mk l_law_cell e_law_cell k_law_cell,
  g__law_cell := PySem.W.mg_of X G a_law_cell,
  k__law_cell := k_law_cell,
  F_law_pool := fun_mk l_law_pool e_law_pool k_law_pool,
  g__law_pool := PySem.W.mg_of X G a_law_pool,
  k__law_pool := k_law_pool,
  F_is_integer := fun_mk l_is_integer e_is_integer k_is_integer,
  g_is_integer := PySem.W.mg_of X G a_is_integer,
  k_is_integer := k_is_integer,
  F_check_seatsX := fun_mk l_check_seatsX e_check_seatsX k_check_seatsX,
  g_check_seats := PySem.W.mg_of X G a_check_seatsX,
  k_check_seats := k_check_seatsX,
  F_is_later := fun_mk l_is_later e_is_later k_is_later,
  g_is_later := PySem.W.mg_of X G a_is_later,
  k_is_later := k_is_later,
  F_is_station := fun_mk l_is_station e_is_station k_is_station,
  g_is_station := PySem.W.mg_of X G a_is_station,
  k_is_station := k_is_station,
  F_is_trip_name := fun_mk l_is_trip_name e_is_trip_name k_is_trip_name,
  g_is_trip_name := PySem.W.mg_of X G a_is_trip_name,
  k_is_trip_name := k_is_trip_name,
  F_is_tripE := fun_mk l_is_tripE e_is_tripE k_is_tripE,
  g_is_trip := PySem.W.mg_of X G a_is_tripE,
  k_is_trip := k_is_tripE,
  F_valid_beginningE := fun_mk l_valid_beginningE e_valid_beginningE k_valid_beginningE,
  g_valid_beginning := PySem.W.mg_of X G a_valid_beginningE,
  k_valid_beginning := k_valid_beginningE,
  F_Line_capacity := fun_mk l_Line_capacity e_Line_capacity k_Line_capacity,
  F_Line_trips := fun_mk l_Line_trips e_Line_trips k_Line_trips,
  F_Line_len := fun_mk l_Line_len e_Line_len k_Line_len,
  F_Line_eq := fun_mk l_Line_eq e_Line_eq k_Line_eq,
  F_Line_strB := fun_mk l_Line_strB e_Line_strB k_Line_strB,
  F_Line_reprB := fun_mk l_Line_reprB e_Line_reprB k_Line_reprB,
  F_Line_initX := ⟨⟨oc_Line_initX, od_Line_initX, .ref TD, kV_Line_initX, dc_Line_initX, pm_Line_initX, an_Line_initX, ct_Line_initX, sl_Line_initX, rfl, l_Line_initX, e_Line_initX, .inr ⟨by simp, TD, _, [.ref eL], _, rfl, w1, rfl, .cons rfl .nil⟩⟩, k_Line_initX⟩,
  dfl := by
   intro O H
   unfold Reps
   refine ⟨.ref eL, [], rfl, ?_, by unfold Reps; rfl⟩
   unfold Rep
   exact ⟨eL, [], rfl, .inr ⟨_, #[], nEL, w2, rfl, rfl, by decide, .nil⟩, by unfold Reps; rfl⟩,
  F_number_written := fun_mk l_number_written e_number_written k_number_written,
  g_number_written := PySem.W.mg_of X G a_number_written,
  k_number_written := k_number_written,
  F_trip_written := fun_mk l_trip_written e_trip_written k_trip_written,
  g_trip_written := PySem.W.mg_of X G a_trip_written,
  k_trip_written := k_trip_written,
  F_Line_read := fun_mk l_Line_read e_Line_read k_Line_read,
  F_law_draw := fun_mk l_law_draw e_law_draw k_law_draw,
  g__law_draw := PySem.W.mg_of X G a_law_draw,
  k__law_draw := k_law_draw,
  F_law_bent := fun_mk l_law_bent e_law_bent k_law_bent,
  g__law_bent := PySem.W.mg_of X G a_law_bent,
  k__law_bent := k_law_bent,
  F_law_far := fun_mk l_law_far e_law_far k_law_far,
  g__law_far := PySem.W.mg_of X G a_law_far,
  k__law_far := k_law_far,
  F_law_rides := fun_mk l_law_rides e_law_rides k_law_rides,
  g__law_rides := PySem.W.mg_of X G a_law_rides,
  k__law_rides := k_law_rides,
  F_law_text := fun_mk l_law_text e_law_text k_law_text,
  g__law_text := PySem.W.mg_of X G a_law_text,
  k__law_text := k_law_text,
  F_law_other_fields := fun_mk l_law_other_fields e_law_other_fields k_law_other_fields,
  g__law_other_fields := PySem.W.mg_of X G a_law_other_fields,
  k__law_other_fields := k_law_other_fields,
  F_law_fields := fun_mk l_law_fields e_law_fields k_law_fields,
  g__law_fields := PySem.W.mg_of X G a_law_fields,
  k__law_fields := k_law_fields,
  F_law_kind := fun_mk l_law_kind e_law_kind k_law_kind,
  g__law_kind := PySem.W.mg_of X G a_law_kind,
  k__law_kind := k_law_kind,
  F_law_caught := fun_mk l_law_caught e_law_caught k_law_caught,
  g__law_caught := PySem.W.mg_of X G a_law_caught,
  k__law_caught := k_law_caught,
  F_law_number := fun_mk l_law_number e_law_number k_law_number,
  g__law_number := PySem.W.mg_of X G a_law_number,
  k__law_number := k_law_number,
  F_law_read := fun_mk l_law_read e_law_read k_law_read,
  g__law_read := PySem.W.mg_of X G a_law_read,
  k__law_read := k_law_read,
  F_law_text_right := ⟨⟨oc_law_text_right, od_law_text_right, kV_law_text_right, dc_law_text_right, pm_law_text_right, an_law_text_right, ct_law_text_right, sl_law_text_right, rfl, l_law_text_right, e_law_text_right⟩, k_law_text_right⟩,
  g__law_text_right := PySem.W.mg_of X G a_law_text_right,
  k__law_text_right := k_law_text_right,
  F_law_words := fun_mk l_law_words e_law_words k_law_words,
  g__law_words := PySem.W.mg_of X G a_law_words,
  k__law_words := k_law_words,
  F_law_right3 := fun_mk l_law_right3 e_law_right3 k_law_right3,
  g__law_right := PySem.W.mg_of X G a_law_right3,
  k__law_right := k_law_right3,
  F_law3 := fun_mk l_law3 e_law3 k_law3,
  g_law := PySem.W.mg_of X G a_law3,
  k_law := k_law3,
  b_ArithmeticError := PySem.W.mg_none_of X G b_ArithmeticError,
  v_DIGITS := ⟨_, PySem.W.mg_of X G v_DIGITS, ⟨_, rfl⟩⟩,
  v_LETTERS := ⟨_, PySem.W.mg_of X G v_LETTERS, ⟨_, rfl⟩⟩,
  v_LONGEST_NAME := ⟨_, PySem.W.mg_of X G v_LONGEST_NAME, ⟨_, rfl⟩⟩,
  b_LookupError := PySem.W.mg_none_of X G b_LookupError,
  v_MAX_SEATS := ⟨_, PySem.W.mg_of X G v_MAX_SEATS, ⟨_, rfl⟩⟩,
  v_MAX_TRIPS := ⟨_, PySem.W.mg_of X G v_MAX_TRIPS, ⟨_, rfl⟩⟩,
  b_ValueError := PySem.W.mg_none_of X G b_ValueError,
  b_abs := PySem.W.mg_none_of X G b_abs,
  b_all := PySem.W.mg_none_of X G b_all,
  b_bool := PySem.W.mg_none_of X G b_bool,
  b_divmod := PySem.W.mg_none_of X G b_divmod,
  b_enumerate := PySem.W.mg_none_of X G b_enumerate,
  b_int := PySem.W.mg_none_of X G b_int,
  b_isinstance := PySem.W.mg_none_of X G b_isinstance,
  b_len := PySem.W.mg_none_of X G b_len,
  b_max := PySem.W.mg_none_of X G b_max,
  b_min := PySem.W.mg_none_of X G b_min,
  b_range := PySem.W.mg_none_of X G b_range,
  b_repr := PySem.W.mg_none_of X G b_repr,
  b_sorted := PySem.W.mg_none_of X G b_sorted,
  b_str := PySem.W.mg_none_of X G b_str,
  b_super := PySem.W.mg_none_of X G b_super,
  b_tuple := PySem.W.mg_none_of X G b_tuple,
  tne := fun e => by have e : tL = tT := e; rw [e] at tq; simp at tq }
 refine ⟨a.d_law3, [(cL, tL), (cT, tT)], TT a, sp_law3 K a.CLine a.XC, ?_, ?_, ?_, nl, ?_, fun s u => .of_eq rfl, fun ns hl _ => ⟨ns, rfl, hl, t.clt, ⟨⟨hr1, hr2⟩, kindF_of hk t.xa_InvalidText.is rfl rfl rfl rfl, t.xa_InvalidText.xf, hex⟩, rfl⟩, ?_⟩
 ·exact fun p hp => by
   rcases List.mem_cons.mp hp with rfl | hp
   ·exact PySem.W.codeHd_of_K X w5
   ·rcases List.mem_cons.mp hp with rfl | hp
    ·exact PySem.W.codeHd_of_K X z5
    ·cases hp
 ·exact fun p hp => by
   rcases List.mem_cons.mp hp with rfl | hp
   ·exact ht
   ·rcases List.mem_cons.mp hp with rfl | hp
    ·exact htT
    ·cases hp
 ·exact fun p hp => by
   rcases List.mem_cons.mp hp with rfl | hp
   ·exact w6
   ·rcases List.mem_cons.mp hp with rfl | hp
    ·exact z6
    ·cases hp
 ·exact fun p hp => by
   rcases List.mem_cons.mp hp with rfl | hp
   ·exact List.mem_cons_self
   ·rcases List.mem_cons.mp hp with rfl | hp
    ·exact List.mem_cons_of_mem _ List.mem_cons_self
    ·cases hp
 ·exact fun base _ _ TB => ok_law3 t ⟨TB (cL, tL) List.mem_cons_self, TB (cT, tT) (List.mem_cons_of_mem _ List.mem_cons_self)⟩
end ZK
open PySem PySem.W PyProof.Rows
set_option maxRecDepth 100000 in
set_option maxHeartbeats 0 in
theorem PySem.Challenge.cw_seatchains_k03_texts_of_lines_holds : PySem.Challenge.rw_seatchains_k03_texts_of_lines.Holds :=
 PySem.Challenge.hd03 (by
 k_fill
 refine Z.walkG (l := PySem.Challenge.rw_seatchains_k03_texts_of_lines) (n := 63) (k := 14) (x := "_law_script") rfl (by decide) rfl ⟨rfl, by decide, by decide⟩ (fun w h Y => PySem.W.km_in_of Y) ?F
 case F =>
  intro w mg fa h Y KX G hmg
  refine' ZK.law_mk (mL := .type "type") KX G hmg ?hC ?c1 ?c2 ?c3 ?c4 ?t1 ?t2 ?t3 ?t4 ?t5 ?ty0 ?ty1 ?ty2 ?ty3 ?ty4 ?ty5 ?no0 ?no1 ?no2 ?no3 ?no4 ?no5 ?no6 ?m1 ?m2 ?m3 ?m4 ?u1 ?u2 ?u3 ?u4 ?rp ?rpf ?x1 ?x1f ?x2 ?x2f ?x3 ?x3f ?x4 ?x5 ?nf0 ?nf1 ?nf2 ?nf3 ?nf4 ?nf5 ?nf6 ?r1 ?r2 ?d1_read ?d2_read ?d3_read ?d4_read ?d5_read ?d6_read ?d7_read ?d8_read ?q1 ?q2 ?q3 ?q4 ?n_seat_count ?n_rows ?n_queue ?xg_Busy ?xg_Full ?xg_InvalidAction ?xg_InvalidCommand ?xg_InvalidExchange ?xg_InvalidFixed ?xg_InvalidName ?xg_InvalidNumber ?xg_InvalidPlan ?xg_InvalidSeat ?xg_InvalidSeats ?xg_InvalidStation ?xg_InvalidText ?xg_InvalidTrips ?xg_NameTaken ?xg_NotALine ?xg_NotFree ?xg_NothingToUndo ?xg_Overfull ?xg_SeatError ?xg_SizeError ?xg_StateError ?xg_TooManyEntries ?xg_TooManyPlans ?xg_TooManyTrips ?xi_InvalidSeats ?xl_InvalidSeats ?xc_InvalidSeats ?xd_InvalidSeats ?xv_InvalidSeats ?xf_InvalidSeats ?xtp_InvalidSeats ?xB_InvalidSeats ?xi_InvalidText ?xl_InvalidText ?xc_InvalidText ?xd_InvalidText ?xv_InvalidText ?xf_InvalidText ?xtp_InvalidText ?xB_InvalidText ?xi_InvalidTrips ?xl_InvalidTrips ?xc_InvalidTrips ?xd_InvalidTrips ?xv_InvalidTrips ?xf_InvalidTrips ?xtp_InvalidTrips ?xB_InvalidTrips ?hk ?hr1 ?hr2 ?hex ?a_law_cell ?l_law_cell ?e_law_cell ?k_law_cell ?a_law_pool ?l_law_pool ?e_law_pool ?k_law_pool ?a_is_integer ?l_is_integer ?e_is_integer ?k_is_integer ?a_check_seatsX ?l_check_seatsX ?e_check_seatsX ?k_check_seatsX ?a_is_later ?l_is_later ?e_is_later ?k_is_later ?a_is_station ?l_is_station ?e_is_station ?k_is_station ?a_is_trip_name ?l_is_trip_name ?e_is_trip_name ?k_is_trip_name ?a_is_tripE ?l_is_tripE ?e_is_tripE ?k_is_tripE ?a_valid_beginningE ?l_valid_beginningE ?e_valid_beginningE ?k_valid_beginningE ?l_Line_capacity ?e_Line_capacity ?k_Line_capacity ?l_Line_trips ?e_Line_trips ?k_Line_trips ?l_Line_len ?e_Line_len ?k_Line_len ?l_Line_eq ?e_Line_eq ?k_Line_eq ?l_Line_strB ?e_Line_strB ?k_Line_strB ?l_Line_reprB ?e_Line_reprB ?k_Line_reprB ?l_Line_initX ?e_Line_initX ?k_Line_initX ?w1 ?w2 ?w3 ?w4 ?w5 ?w6 ?a_number_written ?l_number_written ?e_number_written ?k_number_written ?a_trip_written ?l_trip_written ?e_trip_written ?k_trip_written ?l_Line_read ?e_Line_read ?k_Line_read ?a_law_draw ?l_law_draw ?e_law_draw ?k_law_draw ?a_law_bent ?l_law_bent ?e_law_bent ?k_law_bent ?a_law_far ?l_law_far ?e_law_far ?k_law_far ?a_law_rides ?l_law_rides ?e_law_rides ?k_law_rides ?a_law_text ?l_law_text ?e_law_text ?k_law_text ?a_law_other_fields ?l_law_other_fields ?e_law_other_fields ?k_law_other_fields ?a_law_fields ?l_law_fields ?e_law_fields ?k_law_fields ?a_law_kind ?l_law_kind ?e_law_kind ?k_law_kind ?a_law_caught ?l_law_caught ?e_law_caught ?k_law_caught ?a_law_number ?l_law_number ?e_law_number ?k_law_number ?a_law_read ?l_law_read ?e_law_read ?k_law_read ?a_law_text_right ?l_law_text_right ?e_law_text_right ?k_law_text_right ?z3 ?z4 ?z5 ?z6 ?a_law_words ?l_law_words ?e_law_words ?k_law_words ?a_law_right3 ?l_law_right3 ?e_law_right3 ?k_law_right3 ?a_law3 ?l_law3 ?e_law3 ?k_law3 ?b_ArithmeticError ?v_DIGITS ?v_LETTERS ?v_LONGEST_NAME ?b_LookupError ?v_MAX_SEATS ?v_MAX_TRIPS ?b_ValueError ?b_abs ?b_all ?b_bool ?b_divmod ?b_enumerate ?b_int ?b_isinstance ?b_len ?b_max ?b_min ?b_range ?b_repr ?b_sorted ?b_str ?b_super ?b_tuple ?htT ?tq ?nl ?ht
  (case hC => k_is)
  (case c1 => k_is)
  (case c2 => k_is)
  (case c3 => k_is)
  (case c4 => k_is)
  (case t1 => k_is)
  (case t2 => k_is)
  (case t3 => k_is)
  (case t4 => k_is)
  (case t5 => kernel_rfl)
  (case ty0 => kernel_rfl)
  (case ty1 => kernel_rfl)
  (case ty2 => kernel_rfl)
  (case ty3 => kernel_rfl)
  (case ty4 => kernel_rfl)
  (case ty5 => kernel_rfl)
  (case no0 => kernel_rfl)
  (case no1 => kernel_rfl)
  (case no2 => kernel_rfl)
  (case no3 => kernel_rfl)
  (case no4 => kernel_rfl)
  (case no5 => kernel_rfl)
  (case no6 => kernel_rfl)
  (case m1 => k_is)
  (case m2 => k_is)
  (case m3 => k_is)
  (case m4 => k_is)
  (case u1 => k_is)
  (case u2 => k_is)
  (case u3 => k_is)
  (case u4 => k_is)
  (case rp => k_is)
  (case rpf => k_is)
  (case x1 => k_is)
  (case x1f => k_is)
  (case x2 => k_is)
  (case x2f => k_is)
  (case x3 => k_is)
  (case x3f => k_is)
  (case x4 => k_is)
  (case x5 => k_is)
  (case nf0 => kernel_rfl)
  (case nf1 => kernel_rfl)
  (case nf2 => kernel_rfl)
  (case nf3 => kernel_rfl)
  (case nf4 => kernel_rfl)
  (case nf5 => kernel_rfl)
  (case nf6 => kernel_rfl)
  (case r1 => k_is)
  (case r2 => k_is)
  (case d1_read => k_is)
  (case d2_read => k_is)
  (case d3_read => k_is)
  (case d4_read => k_is)
  (case d5_read => k_is)
  (case d6_read => k_is)
  (case d7_read => k_is)
  (case d8_read => k_is)
  (case q1 => k_is)
  (case q2 => k_is)
  (case q3 => k_is)
  (case q4 => k_is)
  (case n_seat_count => k_is)
  (case n_rows => k_is)
  (case n_queue => k_is)
  (case xg_Busy => k_is)
  (case xg_Full => k_is)
  (case xg_InvalidAction => k_is)
  (case xg_InvalidCommand => k_is)
  (case xg_InvalidExchange => k_is)
  (case xg_InvalidFixed => k_is)
  (case xg_InvalidName => k_is)
  (case xg_InvalidNumber => k_is)
  (case xg_InvalidPlan => k_is)
  (case xg_InvalidSeat => k_is)
  (case xg_InvalidSeats => k_is)
  (case xg_InvalidStation => k_is)
  (case xg_InvalidText => k_is)
  (case xg_InvalidTrips => k_is)
  (case xg_NameTaken => k_is)
  (case xg_NotALine => k_is)
  (case xg_NotFree => k_is)
  (case xg_NothingToUndo => k_is)
  (case xg_Overfull => k_is)
  (case xg_SeatError => k_is)
  (case xg_SizeError => k_is)
  (case xg_StateError => k_is)
  (case xg_TooManyEntries => k_is)
  (case xg_TooManyPlans => k_is)
  (case xg_TooManyTrips => k_is)
  (case xi_InvalidSeats => k_is)
  (case xl_InvalidSeats => k_is)
  (case xc_InvalidSeats => k_is)
  (case xd_InvalidSeats => k_is)
  (case xv_InvalidSeats => rfl)
  (case xf_InvalidSeats => rfl)
  (case xtp_InvalidSeats => rfl)
  (case xB_InvalidSeats => kernel_rfl)
  (case xi_InvalidText => k_is)
  (case xl_InvalidText => k_is)
  (case xc_InvalidText => k_is)
  (case xd_InvalidText => k_is)
  (case xv_InvalidText => rfl)
  (case xf_InvalidText => rfl)
  (case xtp_InvalidText => rfl)
  (case xB_InvalidText => kernel_rfl)
  (case xi_InvalidTrips => k_is)
  (case xl_InvalidTrips => k_is)
  (case xc_InvalidTrips => k_is)
  (case xd_InvalidTrips => k_is)
  (case xv_InvalidTrips => rfl)
  (case xf_InvalidTrips => rfl)
  (case xtp_InvalidTrips => rfl)
  (case xB_InvalidTrips => kernel_rfl)
  (case hk => kernel_rfl)
  (case hr1 => kernel_rfl)
  (case hr2 => kernel_rfl)
  (case hex => kernel_rfl)
  (case a_law_cell => k_is)
  (case l_law_cell => k_is)
  (case e_law_cell => k_is)
  (case k_law_cell => k_is)
  (case a_law_pool => k_is)
  (case l_law_pool => k_is)
  (case e_law_pool => k_is)
  (case k_law_pool => k_is)
  (case a_is_integer => k_is)
  (case l_is_integer => k_is)
  (case e_is_integer => k_is)
  (case k_is_integer => k_is)
  (case a_check_seatsX => k_is)
  (case l_check_seatsX => k_is)
  (case e_check_seatsX => k_is)
  (case k_check_seatsX => k_is)
  (case a_is_later => k_is)
  (case l_is_later => k_is)
  (case e_is_later => k_is)
  (case k_is_later => k_is)
  (case a_is_station => k_is)
  (case l_is_station => k_is)
  (case e_is_station => k_is)
  (case k_is_station => k_is)
  (case a_is_trip_name => k_is)
  (case l_is_trip_name => k_is)
  (case e_is_trip_name => k_is)
  (case k_is_trip_name => k_is)
  (case a_is_tripE => k_is)
  (case l_is_tripE => k_is)
  (case e_is_tripE => k_is)
  (case k_is_tripE => k_is)
  (case a_valid_beginningE => k_is)
  (case l_valid_beginningE => k_is)
  (case e_valid_beginningE => k_is)
  (case k_valid_beginningE => k_is)
  (case l_Line_capacity => k_is)
  (case e_Line_capacity => k_is)
  (case k_Line_capacity => k_is)
  (case l_Line_trips => k_is)
  (case e_Line_trips => k_is)
  (case k_Line_trips => k_is)
  (case l_Line_len => k_is)
  (case e_Line_len => k_is)
  (case k_Line_len => k_is)
  (case l_Line_eq => k_is)
  (case e_Line_eq => k_is)
  (case k_Line_eq => k_is)
  (case l_Line_strB => k_is)
  (case e_Line_strB => k_is)
  (case k_Line_strB => k_is)
  (case l_Line_reprB => k_is)
  (case e_Line_reprB => k_is)
  (case k_Line_reprB => k_is)
  (case l_Line_initX => k_is)
  (case e_Line_initX => k_is)
  (case k_Line_initX => k_is)
  (case w1 => k_is)
  (case w2 => k_is)
  (case w3 => k_is)
  (case w4 => rfl)
  (case w5 => kernel_rfl)
  (case w6 => kernel_rfl)
  (case a_number_written => k_is)
  (case l_number_written => k_is)
  (case e_number_written => k_is)
  (case k_number_written => k_is)
  (case a_trip_written => k_is)
  (case l_trip_written => k_is)
  (case e_trip_written => k_is)
  (case k_trip_written => k_is)
  (case l_Line_read => k_is)
  (case e_Line_read => k_is)
  (case k_Line_read => k_is)
  (case a_law_draw => k_is)
  (case l_law_draw => k_is)
  (case e_law_draw => k_is)
  (case k_law_draw => k_is)
  (case a_law_bent => k_is)
  (case l_law_bent => k_is)
  (case e_law_bent => k_is)
  (case k_law_bent => k_is)
  (case a_law_far => k_is)
  (case l_law_far => k_is)
  (case e_law_far => k_is)
  (case k_law_far => k_is)
  (case a_law_rides => k_is)
  (case l_law_rides => k_is)
  (case e_law_rides => k_is)
  (case k_law_rides => k_is)
  (case a_law_text => k_is)
  (case l_law_text => k_is)
  (case e_law_text => k_is)
  (case k_law_text => k_is)
  (case a_law_other_fields => k_is)
  (case l_law_other_fields => k_is)
  (case e_law_other_fields => k_is)
  (case k_law_other_fields => k_is)
  (case a_law_fields => k_is)
  (case l_law_fields => k_is)
  (case e_law_fields => k_is)
  (case k_law_fields => k_is)
  (case a_law_kind => k_is)
  (case l_law_kind => k_is)
  (case e_law_kind => k_is)
  (case k_law_kind => k_is)
  (case a_law_caught => k_is)
  (case l_law_caught => k_is)
  (case e_law_caught => k_is)
  (case k_law_caught => k_is)
  (case a_law_number => k_is)
  (case l_law_number => k_is)
  (case e_law_number => k_is)
  (case k_law_number => k_is)
  (case a_law_read => k_is)
  (case l_law_read => k_is)
  (case e_law_read => k_is)
  (case k_law_read => k_is)
  (case a_law_text_right => k_is)
  (case l_law_text_right => k_is)
  (case e_law_text_right => k_is)
  (case k_law_text_right => k_is)
  (case z3 => k_is)
  (case z4 => rfl)
  (case z5 => kernel_rfl)
  (case z6 => kernel_rfl)
  (case a_law_words => k_is)
  (case l_law_words => k_is)
  (case e_law_words => k_is)
  (case k_law_words => k_is)
  (case a_law_right3 => k_is)
  (case l_law_right3 => k_is)
  (case e_law_right3 => k_is)
  (case k_law_right3 => k_is)
  (case a_law3 => k_is)
  (case l_law3 => k_is)
  (case e_law3 => k_is)
  (case k_law3 => k_is)
  (case b_ArithmeticError => k_is)
  (case v_DIGITS => k_is)
  (case v_LETTERS => k_is)
  (case v_LONGEST_NAME => k_is)
  (case b_LookupError => k_is)
  (case v_MAX_SEATS => k_is)
  (case v_MAX_TRIPS => k_is)
  (case b_ValueError => k_is)
  (case b_abs => k_is)
  (case b_all => k_is)
  (case b_bool => k_is)
  (case b_divmod => k_is)
  (case b_enumerate => k_is)
  (case b_int => k_is)
  (case b_isinstance => k_is)
  (case b_len => k_is)
  (case b_max => k_is)
  (case b_min => k_is)
  (case b_range => k_is)
  (case b_repr => k_is)
  (case b_sorted => k_is)
  (case b_str => k_is)
  (case b_super => k_is)
  (case b_tuple => k_is)
  (case htT => exact PySem.W.km_tabs_of Y _ (by simp))
  (case tq => rfl)
  (case nl => kernel_rfl)
  (case ht => exact PySem.W.km_tabs_of Y _ (by simp)))
