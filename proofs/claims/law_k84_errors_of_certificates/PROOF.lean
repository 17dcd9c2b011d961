import PyProof.Rows.All
import Wide.All
import OpenK.AllK
import Wide.FinOn
import KE.KNestM
import HandS.EndTab
import HandS.ForMost
import HandS.IsInst
import HandS.Wide
import HandS.Lambda
import KE.SortData
import KE.SortKeyHeap
import HandS.ExcCtx
import PyProof.ReprRoads
import PyProof.StrOps2
import HandS.Property
import KE.GoesEnum
import KE.GoesMore
import KE.KLam
import HandS.Style
import HandS.Defaults
import HandS.ClsMeth
import HandS.ForDict
import KE.KCallOwn
import KE.KFmtOwn
import PyProof.Conv_bool
import HandS.MakeKw
import HandS.FStr
import PyProof.Rows.StrIntSpec
import PyProof.Rows.ReprOcc
import PyProof.ReprText
import HandS.Star
import HandS.TupAny
import HandS.GenList
import KE.DatumOrd
import HandS.SortKw
import HandS.More
import HandS.TryOnly
import OpenK.KMore
import HandS.Set
import HandS.Zip
import HandS.Rev
import HandS.Strs
import PyProof.ListRange
import PyProof.LongRange
import OpenK.KLaw
import HandS.Flow
import KE.KDictPairs
import HandS.ExcInit
import HandS.HotCalls
import KE.KExcSuper
import KE.KSuper
import KE.KExcInit
import KE.KDictZip
import HandS.Deep
import HandS.Iter
import HandS.TupLe
import HandS.CallSlots
import KE.KTryMore
import KE.KExcIs
import HandS.ExcField
import HandS.ExcIs
import HandS.CallLocal
import HandS.SetFor
import HandS.SuiteRaise
import HandS.RaiseFrom
import PyProof.NeKinds
import KE.KEqDict
import KE.DataMinMax
import PySem.Challenge.RW_seatchains_k84_errors_of_certificates
set_option Elab.async false
section
open PySem PySem.W PyProof.Rows
def PySem.W.Fast.tw18009603258261939571 : Nat := 0
def PySem.W.Fast.tw8503128734152771247 : Nat := 0
def PySem.W.Fast.tw14688569212871016927 : Nat := 0
def PySem.W.Fast.tw17540040832189251579 : Nat := 0
def PySem.W.Fast.tw8279862372257114962 : Nat := 0
def PySem.W.Fast.tw177288385251005055 : Nat := 0
def PySem.W.Fast.tw17673539639848101582 : Nat := 0
def PySem.W.Fast.tw14327795578798245765 : Nat := 0
def PySem.W.Fast.tw6039104517795300498 : Nat := 0
def PySem.W.Fast.tw12553798374543544628 : Nat := 0
def PySem.W.Fast.tw5097826933695637863 : Nat := 0
def PySem.W.Fast.tw12391566554648606791 : Nat := 0
def PySem.W.Fast.tw4315043940178550752 : Nat := 0
def PySem.W.Fast.tw6927987302477053113 : Nat := 0
def PySem.W.Fast.tw7874601331846962428 : Nat := 0
def PySem.W.Fast.tw17863600563656796900 : Nat := 0
def PySem.W.Fast.tw10994974383190967622 : Nat := 0
def PySem.W.Fast.tw16412793176431051772 : Nat := 0
def PySem.W.Fast.tw2392431540104913347 : Nat := 0
def PySem.W.Fast.tw13369194317799666379 : Nat := 0
def PySem.W.Fast.tw6659267986768140260 : Nat := 0
def PySem.W.Fast.tw2392206557941466485 : Nat := 0
def PySem.W.Fast.tw16811771278293386837 : Nat := 0
def PySem.W.Fast.tw1930419673987909178 : Nat := 0
def PySem.W.Fast.tw15868774463200039079 : Nat := 0
def PySem.W.Fast.tw12372257629233642256 : Nat := 0
def PySem.W.Fast.tw1516161472641931332 : Nat := 0
def PySem.W.Fast.tw4531766362928137426 : Nat := 0
def PySem.W.Fast.tw16184678389053691110 : Nat := 0
def PySem.W.Fast.tw3804519538389993771 : Nat := 0
def PySem.W.Fast.tw5371631594512023839 : Nat := 0
def PySem.W.Fast.tw10030219087671825969 : Nat := 0
def PySem.W.Fast.tw1222810463471974587 : Nat := 0
def PySem.W.Fast.tw6639573090918745582 : Nat := 0
def PySem.W.Fast.tw3129650075251238777 : Nat := 0
def PySem.W.Fast.tw4509880057953120930 : Nat := 0
def PySem.W.Fast.tw17297512835807251349 : Nat := 0
def PySem.W.Fast.tw11683182660456434108 : Nat := 0
def PySem.W.Fast.tw4365694384465606894 : Nat := 0
def PySem.W.Fast.tw17101286399099211024 : Nat := 0
def PySem.W.Fast.tw7755432316047617420 : Nat := 0
def PySem.W.Fast.tw3599407327380066789 : Nat := 0
def PySem.W.Fast.tw11096821744583259735 : Nat := 0
def PySem.W.Fast.tw7359877363353022399 : Nat := 0
def PySem.W.Fast.tw4440914255998801250 : Nat := 0
def PySem.W.Fast.tw5372618558708010708 : Nat := 0
def PySem.W.Fast.tw16774823770145663130 : Nat := 0
def PySem.W.Fast.tw9493917565274154211 : Nat := 0
def PySem.W.Fast.tw15452090720136948713 : Nat := 0
def PySem.W.Fast.tw12799901777887729706 : Nat := 0
def PySem.W.Fast.tw9268190341054329406 : Nat := 0
def PySem.W.Fast.tw14835647985025241037 : Nat := 0
def PySem.W.Fast.tw15558437503929482725 : Nat := 0
def PySem.W.Fast.tw15189960368468121918 : Nat := 0
def PySem.W.Fast.tw7739331135431427816 : Nat := 0
def PySem.W.Fast.tw16483670296253035940 : Nat := 0
def PySem.W.Fast.tw6944096569950406635 : Nat := 0
def PySem.W.Fast.tw6880852916009439648 : Nat := 0
def PySem.W.Fast.tw10599207146685755891 : Nat := 0
def PySem.W.Fast.tw6580575588258368517 : Nat := 0
def PySem.W.Fast.tw17017735031789837115 : Nat := 0
def PySem.W.Fast.tw8285065910280576495 : Nat := 0
def PySem.W.Fast.tw9854364578959395122 : Nat := 0
def PySem.W.Fast.tw11002369783712161886 : Nat := 0
def PySem.W.Fast.tw11276277996632204607 : Nat := 0
def PySem.W.Fast.tw474363478287883407 : Nat := 0
def PySem.W.Fast.tw7320816944623469898 : Nat := 0
def PySem.W.Fast.tw16072290300804950854 : Nat := 0
def PySem.W.Fast.tw9131320325783110468 : Nat := 0
def PySem.W.Fast.tw14041887893958889886 : Nat := 0
def PySem.W.Fast.tw17556239935280943011 : Nat := 0
def PySem.W.Fast.tw11270663628166498204 : Nat := 0
def PySem.W.Fast.tw3998557199689078766 : Nat := 0
def PySem.W.Fast.tw9150575236845060366 : Nat := 0
def PySem.W.Fast.tw17769342130905950258 : Nat := 0
def PySem.W.Fast.tw814830912379892117 : Nat := 0
def PySem.W.Fast.tw44966106750202979 : Nat := 0
def PySem.W.Fast.tw4725064882981203142 : Nat := 0
def PySem.W.Fast.tw7173194623116225606 : Nat := 0
def PySem.W.Fast.tw7865159919750685116 : Nat := 0
def PySem.W.Fast.tw10126190560255264959 : Nat := 0
def PySem.W.Fast.tw186580249037239311 : Nat := 0
def PySem.W.Fast.tw6976213646560799138 : Nat := 0
def PySem.W.Fast.tw8566057894254906981 : Nat := 0
def PySem.W.Fast.tw14236067541911795888 : Nat := 0
def PySem.W.Fast.tw1536324273005014163 : Nat := 0
def PySem.W.Fast.tw1734132848055228293 : Nat := 0
def PySem.W.Fast.tw6348437273928926129 : Nat := 0
def PySem.W.Fast.tw11407773165782991076 : Nat := 0
def PySem.W.Fast.tw9428662232577712590 : Nat := 0
def PySem.W.Fast.tw11837091211000401740 : Nat := 0
def PySem.W.Fast.tw2380481157100854446 : Nat := 0
def PySem.W.Fast.tw12059012152246809276 : Nat := 0
def PySem.W.Fast.tw16279901221589290021 : Nat := 0
def PySem.W.Fast.tw6970229567436707350 : Nat := 0
def PySem.W.Fast.tw9674722043933926702 : Nat := 0
def PySem.W.Fast.tw12331873008135031674 : Nat := 0
def PySem.W.Fast.tw11976502117097029560 : Nat := 0
def PySem.W.Fast.tw901639612265811311 : Nat := 0
def PySem.W.Fast.tw7038461433694412923 : Nat := 0
def PySem.W.Fast.tw7823241975187591690 : Nat := 0
def PySem.W.Fast.tw11403629751251609777 : Nat := 0
def PySem.W.Fast.tw3608418514922993964 : Nat := 0
def PySem.W.Fast.tw788800576794434947 : Nat := 0
def PySem.W.Fast.tw2119417021950329141 : Nat := 0
def PySem.W.Fast.tw2034508272472430973 : Nat := 0
def PySem.W.Fast.tw11135798692893657123 : Nat := 0
def PySem.W.Fast.tw9008095908348841425 : Nat := 0
def PySem.W.Fast.tw3535901525211085869 : Nat := 0
def PySem.W.Fast.tw2621903476187931393 : Nat := 0
def PySem.W.Fast.tw18060069288145124275 : Nat := 0
def PySem.W.Fast.tw241953796580656772 : Nat := 0
def PySem.W.Fast.tw10988574972485728196 : Nat := 0
def PySem.W.Fast.tw9419886577046881600 : Nat := 0
def PySem.W.Fast.tw5224178584865207332 : Nat := 0
def PySem.W.Fast.tw8118677647353523079 : Nat := 0
def PySem.W.Fast.tw13768817973208349895 : Nat := 0
def PySem.W.Fast.tw2854472299845404605 : Nat := 0
def PySem.W.Fast.tw3711844225079785698 : Nat := 0
def PySem.W.Fast.tw12896411325670365937 : Nat := 0
def PySem.W.Fast.tw5753098057267410716 : Nat := 0
def PySem.W.Fast.tw4564298728025019601 : Nat := 0
def PySem.W.Fast.tw9469747425729599850 : Nat := 0
def PySem.W.Fast.tw1065096045783397702 : Nat := 0
def PySem.W.Fast.tw11417680452780421873 : Nat := 0
def PySem.W.Fast.tw1994867979546190925 : Nat := 0
def PySem.W.Fast.tw5135438746415006620 : Nat := 0
def PySem.W.Fast.tw3475694808616223523 : Nat := 0
def PySem.W.Fast.tw14223298364476269341 : Nat := 0
def PySem.W.Fast.tw16515457289571947661 : Nat := 0
def PySem.W.Fast.tw3253505190835320001 : Nat := 0
def PySem.W.Fast.tw13864481409690602095 : Nat := 0
def PySem.W.Fast.tw10314078542822788718 : Nat := 0
def PySem.W.Fast.tw17649832925430041356 : Nat := 0
def PySem.W.Fast.tw11790001032946678744 : Nat := 0
def PySem.W.Fast.tw12467092785954804166 : Nat := 0
def PySem.W.Fast.tw8827245135516492150 : Nat := 0
def PySem.W.Fast.tw3182559942367369399 : Nat := 0
def PySem.W.Fast.tw15273823405051890898 : Nat := 0
def PySem.W.Fast.tw2075119648606052015 : Nat := 0
def PySem.W.Fast.tw9877623802889519116 : Nat := 0
def PySem.W.Fast.tw5089854064674787933 : Nat := 0
def PySem.W.Fast.tw11178699687706216113 : Nat := 0
def PySem.W.Fast.tw9727987391520843421 : Nat := 0
def PySem.W.Fast.tw1950523820078041841 : Nat := 0
def PySem.W.Fast.tw1028093893011831703 : Nat := 0
def PySem.W.Fast.tw17661014368602401560 : Nat := 0
def PySem.W.Fast.tw1317177722848077986 : Nat := 0
def PySem.W.Fast.tw9766413996658448489 : Nat := 0
def PySem.W.Fast.tw13878893744199823134 : Nat := 0
def PySem.W.Fast.tw1891536162870625568 : Nat := 0
def PySem.W.Fast.tw4990075255488019522 : Nat := 0
def PySem.W.Fast.tw3357897144419814136 : Nat := 0
def PySem.W.Fast.tw12180049890089490543 : Nat := 0
def PySem.W.Fast.tw11915860429838492487 : Nat := 0
def PySem.W.Fast.tw17953913368435233941 : Nat := 0
def PySem.W.Fast.tw10898774537241480914 : Nat := 0
def PySem.W.Fast.tw6140029760740823665 : Nat := 0
def PySem.W.Fast.tw3968014517068406391 : Nat := 0
def PySem.W.Fast.tw4655437132598056519 : Nat := 0
def PySem.W.Fast.tw7022608143445465131 : Nat := 0
def PySem.W.Fast.tw10394710404684637593 : Nat := 0
def PySem.W.Fast.tw7258381828033126209 : Nat := 0
def PySem.W.Fast.tw17344228084578048038 : Nat := 0
def PySem.W.Fast.tw4912569140024970158 : Nat := 0
def PySem.W.Fast.tw2826856502335513096 : Nat := 0
def PySem.W.Fast.tw14485544521981285828 : Nat := 0
def PySem.W.Fast.tw3934691966958663387 : Nat := 0
def PySem.W.Fast.tw1633834552396462151 : Nat := 0
def PySem.W.Fast.tw3965068341713302304 : Nat := 0
def PySem.W.Fast.tw13557211678084040238 : Nat := 0
def PySem.W.Fast.tw6942158905630987518 : Nat := 0
def PySem.W.Fast.tw8641406983132629679 : Nat := 0
def PySem.W.Fast.tw9176914036930970173 : Nat := 0
def PySem.W.Fast.tw16150805058122513690 : Nat := 0
def PySem.W.Fast.tw4818341208835690279 : Nat := 0
def PySem.W.Fast.tw6981654424559799213 : Nat := 0
def PySem.W.Fast.tw697130732618832007 : Nat := 0
def PySem.W.Fast.tw5910893795685211178 : Nat := 0
def PySem.W.Fast.tw18177076588933251490 : Nat := 0
def PySem.W.Fast.tw8871910814091640926 : Nat := 0
def PySem.W.Fast.tw6557162228073492063 : Nat := 0
def PySem.W.Fast.tw11378846901505328788 : Nat := 0
def PySem.W.Fast.tw6604046625863132952 : Nat := 0
def PySem.W.Fast.tw34670273070907917 : Nat := 0
def PySem.W.Fast.tw17814191022364781971 : Nat := 0
def PySem.W.Fast.tw15501330616392143 : Nat := 0
def PySem.W.Fast.tw4230814453946766214 : Nat := 0
def PySem.W.Fast.tw3343862614178876102 : Nat := 0
def PySem.W.Fast.tw9891492230612903108 : Nat := 0
def PySem.W.Fast.tw15476013373184557706 : Nat := 0
def PySem.W.Fast.tw18245950966497843284 : Nat := 0
def PySem.W.Fast.tw7177901890166401217 : Nat := 0
def PySem.W.Fast.tw14455411269590679223 : Nat := 0
def PySem.W.Fast.tw3690655442907464948 : Nat := 0
def PySem.W.Fast.tw10479686756576410029 : Nat := 0
def PySem.W.Fast.tw5696534141672640986 : Nat := 0
def PySem.W.Fast.tw12135975075589582955 : Nat := 0
def PySem.W.Fast.tw13072705312811159084 : Nat := 0
def PySem.W.Fast.tw17249679230252564365 : Nat := 0
def PySem.W.Fast.tw15245903042593745659 : Nat := 0
def PySem.W.Fast.tw13940393021812198153 : Nat := 0
def PySem.W.Fast.tw6898749237737193081 : Nat := 0
def PySem.W.Fast.tw10296662755996705759 : Nat := 0
def PySem.W.Fast.tw597803050032981778 : Nat := 0
def PySem.W.Fast.tw6034109531015229397 : Nat := 0
def PySem.W.Fast.tw8720669856152336452 : Nat := 0
def PySem.W.Fast.tw1425913344450756929 : Nat := 0
def PySem.W.Fast.tw2564494575508625026 : Nat := 0
def PySem.W.Fast.tw2828094956326145165 : Nat := 0
def PySem.W.Fast.tw6902190637333287716 : Nat := 0
def PySem.W.Fast.tw2419782280706614068 : Nat := 0
def PySem.W.Fast.tw18313208978622479033 : Nat := 0
def PySem.W.Fast.tw6209601883250951712 : Nat := 0
def PySem.W.Fast.tw17946977279297797614 : Nat := 0
def PySem.W.Fast.tw2049891375162609116 : Nat := 0
def PySem.W.Fast.tw6847551162354809463 : Nat := 0
def PySem.W.Fast.tw18446303176598717516 : Nat := 0
def PySem.W.Fast.tw4747336655789400736 : Nat := 0
def PySem.W.Fast.tw7185652026046088317 : Nat := 0
def PySem.W.Fast.tw17133940903074812816 : Nat := 0
def PySem.W.Fast.tw11084949116208718056 : Nat := 0
def PySem.W.Fast.tw13768815395327519928 : Nat := 0
def PySem.W.Fast.tw1262018351384511548 : Nat := 0
def PySem.W.Fast.tw1677647372234014321 : Nat := 0
def PySem.W.Fast.tw2852206830381108796 : Nat := 0
def PySem.W.Fast.tw3489831162572293575 : Nat := 0
def PySem.W.Fast.tw10348160633231251619 : Nat := 0
def PySem.W.Fast.tw4696044950972491375 : Nat := 0
def PySem.W.Fast.tw15116280895893091909 : Nat := 0
def PySem.W.Fast.tw2741472164639596012 : Nat := 0
def PySem.W.Fast.tw2774663237564109252 : Nat := 0
def PySem.W.Fast.tw9182303379012759296 : Nat := 0
def PySem.W.Fast.tw7076547354038855124 : Nat := 0
def PySem.W.Fast.tw17966548217654022666 : Nat := 0
def PySem.W.Fast.tw11330155991483118742 : Nat := 0
def PySem.W.Fast.tw3297166224426769448 : Nat := 0
def PySem.W.Fast.tw4038040503657260064 : Nat := 0
def PySem.W.Fast.tw477207035078620822 : Nat := 0
def PySem.W.Fast.tw17873143349038132367 : Nat := 0
def PySem.W.Fast.tw14538289964163189103 : Nat := 0
def PySem.W.Fast.tw3567984489027597783 : Nat := 0
def PySem.W.Fast.tw15586391694169910739 : Nat := 0
def PySem.W.Fast.tw16274324939654870060 : Nat := 0
def PySem.W.Fast.tw2308308522386653690 : Nat := 0
def PySem.W.Fast.tw1018626845587401723 : Nat := 0
def PySem.W.Fast.tw3322359107797552049 : Nat := 0
def PySem.W.Fast.tw14586751054874746269 : Nat := 0
def PySem.W.Fast.tw339151133155570384 : Nat := 0
def PySem.W.Fast.tw16361494507732584721 : Nat := 0
def PySem.W.Fast.tw9088607814914174772 : Nat := 0
def PySem.W.Fast.tw18067747506215212921 : Nat := 0
def PySem.W.Fast.tw13883407301580982065 : Nat := 0
def PySem.W.Fast.tw5564618181088061535 : Nat := 0
def PySem.W.Fast.tw12181514332384215244 : Nat := 0
def PySem.W.Fast.tw8006089188521994335 : Nat := 0
def PySem.W.Fast.tw15459513143728192637 : Nat := 0
def PySem.W.Fast.tw4932711879265058688 : Nat := 0
def PySem.W.Fast.tw8378064875416128086 : Nat := 0
def PySem.W.Fast.tw10130464332401306090 : Nat := 0
def PySem.W.Fast.tw12161664563875185607 : Nat := 0
def PySem.W.Fast.tw943910645193169262 : Nat := 0
def PySem.W.Fast.tw12996348087743400206 : Nat := 0
def PySem.W.Fast.tw17181751337314736939 : Nat := 0
def PySem.W.Fast.tw5878794754074030367 : Nat := 0
def PySem.W.Fast.tw13370468715056094970 : Nat := 0
def PySem.W.Fast.tw11051201989435990635 : Nat := 0
def PySem.W.Fast.tw17664968642683911671 : Nat := 0
def PySem.W.Fast.tw17717492852361488079 : Nat := 0
def PySem.W.Fast.tw1059946845539226912 : Nat := 0
def PySem.W.Fast.tw3280442194017301759 : Nat := 0
def PySem.W.Fast.tw16554716161347230183 : Nat := 0
def PySem.W.Fast.tw18001332539893322662 : Nat := 0
def PySem.W.Fast.tw8587081197454083043 : Nat := 0
def PySem.W.Fast.tw17572870936978696760 : Nat := 0
def PySem.W.Fast.tw438985308498282764 : Nat := 0
def PySem.W.Fast.tw14907891856973388653 : Nat := 0
def PySem.W.Fast.tw14685298801128485802 : Nat := 0
def PySem.W.Fast.tw16253029348779021738 : Nat := 0
def PySem.W.Fast.tw17195601513204765845 : Nat := 0
def PySem.W.Fast.tw9179312403329465034 : Nat := 0
def PySem.W.Fast.tw4053688725844188633 : Nat := 0
def PySem.W.Fast.tw12442026667941447316 : Nat := 0
def PySem.W.Fast.tw12578152700655216037 : Nat := 0
def PySem.W.Fast.tw17475237135046619788 : Nat := 0
def PySem.W.Fast.tw4025458087933909735 : Nat := 0
def PySem.W.Fast.tw13402686526678275621 : Nat := 0
def PySem.W.Fast.tw13145317210065984183 : Nat := 0
def PySem.W.Fast.tw10013110309465947547 : Nat := 0
def PySem.W.Fast.tw13077776840341285343 : Nat := 0
def PySem.W.Fast.tw9777356903601514034 : Nat := 0
def PySem.W.Fast.tw13068249334414164975 : Nat := 0
def PySem.W.Fast.tw3476527435412120333 : Nat := 0
def PySem.W.Fast.tw1212399688349086554 : Nat := 0
def PySem.W.Fast.tw17100983461669260593 : Nat := 0
def PySem.W.Fast.tw10381360693850756903 : Nat := 0
def PySem.W.Fast.tw3482068159418894280 : Nat := 0
def PySem.W.Fast.tw3106401962861358608 : Nat := 0
def PySem.W.Fast.tw4576619895851651270 : Nat := 0
def PySem.W.Fast.tw6660566606777279685 : Nat := 0
def PySem.W.Fast.tw10053122034876838201 : Nat := 0
def PySem.W.Fast.tw844412425412883492 : Nat := 0
def PySem.W.Fast.tw15140131214016321939 : Nat := 0
def PySem.W.Fast.tw13138791731174037466 : Nat := 0
def PySem.W.Fast.tw17763925414801507304 : Nat := 0
def PySem.W.Fast.tw13052563154781469449 : Nat := 0
def PySem.W.Fast.tw8345899495382897557 : Nat := 0
def PySem.W.Fast.tw7606036551367609890 : Nat := 0
def PySem.W.Fast.tw18181524133994125814 : Nat := 0
def PySem.W.Fast.tw18199898547953069891 : Nat := 0
def PySem.W.Fast.tw5385461206725849027 : Nat := 0
def PySem.W.Fast.tw12048375028483440597 : Nat := 0
def PySem.W.Fast.tw423526800808454400 : Nat := 0
def PySem.W.Fast.tw11632390945728416510 : Nat := 0
def PySem.W.Fast.tw4831067902145995370 : Nat := 0
def PySem.W.Fast.tw12792429762386476428 : Nat := 0
def PySem.W.Fast.tw5632602647188663070 : Nat := 0
def PySem.W.Fast.tw4970375586944360768 : Nat := 0
def PySem.W.Fast.tw13041562301595242839 : Nat := 0
def PySem.W.Fast.tw11951961218987367387 : Nat := 0
def PySem.W.Fast.tw103541283367258607 : Nat := 0
def PySem.W.Fast.tw10216444376561686796 : Nat := 0
def PySem.W.Fast.tw6462950583932557191 : Nat := 0
def PySem.W.Fast.tw7278693920352900761 : Nat := 0
def PySem.W.Fast.tw14191753749521250505 : Nat := 0
def PySem.W.Fast.tw8864532371543061060 : Nat := 0
def PySem.W.Fast.tw1564316898407649701 : Nat := 0
def PySem.W.Fast.tw1572832427605464427 : Nat := 0
def PySem.W.Fast.tw17333008359334152688 : Nat := 0
def PySem.W.Fast.tw13185974416272828266 : Nat := 0
def PySem.W.Fast.tw9499135379566820094 : Nat := 0
def PySem.W.Fast.tw10921724692837767390 : Nat := 0
def PySem.W.Fast.tw12210596995891732820 : Nat := 0
def PySem.W.Fast.tw17169728027998455014 : Nat := 0
def PySem.W.Fast.tw4611794339357907740 : Nat := 0
def PySem.W.Fast.tw15756788675750331553 : Nat := 0
def PySem.W.Fast.tw3467457955149755625 : Nat := 0
def PySem.W.Fast.tw7685841710973776624 : Nat := 0
def PySem.W.Fast.tw9414690423814851294 : Nat := 0
def PySem.W.Fast.tw17253016101060248186 : Nat := 0
def PySem.W.Fast.tw17604364026157912129 : Nat := 0
def PySem.W.Fast.tw1303746047656350177 : Nat := 0
def PySem.W.Fast.tw2159135471803188177 : Nat := 0
def PySem.W.Fast.tw15762568842677784785 : Nat := 0
def PySem.W.Fast.tw1575619673962225479 : Nat := 0
def PySem.W.Fast.tw17315455583832079789 : Nat := 0
def PySem.W.Fast.tw6614194845865930520 : Nat := 0
def PySem.W.Fast.tw8748787944062499321 : Nat := 0
def PySem.W.Fast.tw7098558677582782912 : Nat := 0
def PySem.W.Fast.tw18209973973693939315 : Nat := 0
def PySem.W.Fast.tw8641535007915379897 : Nat := 0
def PySem.W.Fast.tw7026850532375124788 : Nat := 0
def PySem.W.Fast.tw621829084948433498 : Nat := 0
def PySem.W.Fast.tw14127166264668838008 : Nat := 0
def PySem.W.Fast.tw985451901036950829 : Nat := 0
def PySem.W.Fast.tw9326273733673899809 : Nat := 0
def PySem.W.Fast.tw14697534178893827859 : Nat := 0
def PySem.W.Fast.tw155585352807963748 : Nat := 0
def PySem.W.Fast.tw1677512334138045152 : Nat := 0
def PySem.W.Fast.tw12376293299703563037 : Nat := 0
def PySem.W.Fast.tw1384153461777162460 : Nat := 0
def PySem.W.Fast.tw15834329679145318442 : Nat := 0
def PySem.W.Fast.tw17021928950849978459 : Nat := 0
def PySem.W.Fast.tw13233838842203134333 : Nat := 0
def PySem.W.Fast.tw8164682732885732629 : Nat := 0
def PySem.W.Fast.tw5772224663711259549 : Nat := 0
def PySem.W.Fast.tw4698662884042362273 : Nat := 0
def PySem.W.Fast.tw2744466512897833747 : Nat := 0
def PySem.W.Fast.tw3681644321533898138 : Nat := 0
def PySem.W.Fast.tw14289509288574979272 : Nat := 0
def PySem.W.Fast.tw16734419546961148793 : Nat := 0
def PySem.W.Fast.tw2440072028731092752 : Nat := 0
def PySem.W.Fast.tw2472259735773593738 : Nat := 0
def PySem.W.Fast.tw2100201176212872461 : Nat := 0
def PySem.W.Fast.tw5845073660244851692 : Nat := 0
def PySem.W.Fast.tw856437155039619675 : Nat := 0
def PySem.W.Fast.tw13851976519010152757 : Nat := 0
def PySem.W.Fast.tw1257157101440643126 : Nat := 0
def PySem.W.Fast.tw7271314929495039514 : Nat := 0
def PySem.W.Fast.tw10582529595518877160 : Nat := 0
def PySem.W.Fast.tw4673709771030852299 : Nat := 0
def PySem.W.Fast.tw7575299181370862490 : Nat := 0
def PySem.W.Fast.tw3010544381550140288 : Nat := 0
def PySem.W.Fast.tw6124018056097544133 : Nat := 0
def PySem.W.Fast.tw12791827588751190968 : Nat := 0
def PySem.W.Fast.tw971653858040687540 : Nat := 0
def PySem.W.Fast.tw5292292285113670644 : Nat := 0
def PySem.W.Fast.tw17549029530281125536 : Nat := 0
def PySem.W.Fast.tw8664163697926735225 : Nat := 0
def PySem.W.Fast.tw16575903578322991115 : Nat := 0
def PySem.W.Fast.tw6239720695524887702 : Nat := 0
def PySem.W.Fast.tw8344422037510895722 : Nat := 0
def PySem.W.Fast.tw11080724514937870578 : Nat := 0
def PySem.W.Fast.tw4334759277029487155 : Nat := 0
def PySem.W.Fast.tw9728428346286366188 : Nat := 0
def PySem.W.Fast.tw5089254805728223067 : Nat := 0
def PySem.W.Fast.tw9632974751730930408 : Nat := 0
def PySem.W.Fast.tw5807184450275965787 : Nat := 0
def PySem.W.Fast.tw4335869949913276292 : Nat := 0
def PySem.W.Fast.tw9274286083087948726 : Nat := 0
def PySem.W.Fast.tw8830876307360108788 : Nat := 0
def PySem.W.Fast.tw7926124370252755822 : Nat := 0
def PySem.W.Fast.tw25908306214567248 : Nat := 0
def PySem.W.Fast.tw6718302433234928594 : Nat := 0
def PySem.W.Fast.tw16051548040116825143 : Nat := 0
def PySem.W.Fast.tw10318417229448439485 : Nat := 0
def PySem.W.Fast.tw8333242017110533603 : Nat := 0
def PySem.W.Fast.tw17178075243526445922 : Nat := 0
def PySem.W.Fast.tw16285979816836615938 : Nat := 0
def PySem.W.Fast.tw14846479135373023462 : Nat := 0
def PySem.W.Fast.tw1096091088577407809 : Nat := 0
def PySem.W.Fast.tw4711720192037274856 : Nat := 0
def PySem.W.Fast.tw6682754026561643248 : Nat := 0
def PySem.W.Fast.tw1792434580512390225 : Nat := 0
def PySem.W.Fast.tw5932759162792733532 : Nat := 0
def PySem.W.Fast.tw15893484652933706623 : Nat := 0
def PySem.W.Fast.tw7292919968617901429 : Nat := 0
def PySem.W.Fast.tw3487497835303054254 : Nat := 0
def PySem.W.Fast.tw14416748102782459650 : Nat := 0
def PySem.W.Fast.tw17081389803283331945 : Nat := 0
def PySem.W.Fast.tw7783959847153110233 : Nat := 0
def PySem.W.Fast.tw13572896960163526171 : Nat := 0
def PySem.W.Fast.tw11797691231388335592 : Nat := 0
def PySem.W.Fast.tw618631094224885223 : Nat := 0
def PySem.W.Fast.tw17057996934454478038 : Nat := 0
def PySem.W.Fast.tw18079945611598271357 : Nat := 0
def PySem.W.Fast.tw16254397239432872493 : Nat := 0
def PySem.W.Fast.tw9027277890872626868 : Nat := 0
def PySem.W.Fast.tw13763331363977910060 : Nat := 0
def PySem.W.Fast.tw17573095097014824700 : Nat := 0
def PySem.W.Fast.tw10394653509917068976 : Nat := 0
def PySem.W.Fast.tw7341335124095491012 : Nat := 0
def PySem.W.Fast.tw9322541020545082209 : Nat := 0
def PySem.W.Fast.tw2755295917829361898 : Nat := 0
def PySem.W.Fast.tw12453683576615240603 : Nat := 0
def PySem.W.Fast.tw5109273437221099710 : Nat := 0
def PySem.W.Fast.tw15817928651602039444 : Nat := 0
def PySem.W.Fast.tw17013667708179371054 : Nat := 0
def PySem.W.Fast.tw7609834742973828742 : Nat := 0
def PySem.W.Fast.tw9359828620211700007 : Nat := 0
def PySem.W.Fast.tw1420296699148774862 : Nat := 0
def PySem.W.Fast.tw10856631871028039091 : Nat := 0
def PySem.W.Fast.tw10279961158388170214 : Nat := 0
def PySem.W.Fast.tw875022471608045605 : Nat := 0
def PySem.W.Fast.tw14442183412548883078 : Nat := 0
def PySem.W.Fast.tw7938037040118009625 : Nat := 0
def PySem.W.Fast.tw17725467690484126021 : Nat := 0
def PySem.W.Fast.tw4270576977691740352 : Nat := 0
def PySem.W.Fast.tw5213860978763735623 : Nat := 0
def PySem.W.Fast.tw17048623340767252637 : Nat := 0
def PySem.W.Fast.tw14515819652437725385 : Nat := 0
def PySem.W.Fast.tw6897095040191664499 : Nat := 0
def PySem.W.Fast.tw17838441801486962206 : Nat := 0
def PySem.W.Fast.tw2637254326810466219 : Nat := 0
def PySem.W.Fast.tw16559757345534645684 : Nat := 0
def PySem.W.Fast.tw3268346943057814761 : Nat := 0
def PySem.W.Fast.tw13384133458760079311 : Nat := 0
def PySem.W.Fast.tw3345188032976818213 : Nat := 0
def PySem.W.Fast.tw13992427382047785453 : Nat := 0
def PySem.W.Fast.tw1554247986362079733 : Nat := 0
def PySem.W.Fast.tw15165074188363878357 : Nat := 0
def PySem.W.Fast.tw12112150291138010904 : Nat := 0
def PySem.W.Fast.tw18412068155156054260 : Nat := 0
def PySem.W.Fast.tw16290258403282684953 : Nat := 0
def PySem.W.Fast.tw10573860896753667999 : Nat := 0
def PySem.W.Fast.tw18015017769480693350 : Nat := 0
def PySem.W.Fast.tw17396088081275447847 : Nat := 0
def PySem.W.Fast.tw8885668531264797844 : Nat := 0
def PySem.W.Fast.tw16743859945327120247 : Nat := 0
def PySem.W.Fast.tw7656834323329387801 : Nat := 0
def PySem.W.Fast.tw8903582933212703872 : Nat := 0
def PySem.W.Fast.tw13602935195212534347 : Nat := 0
def PySem.W.Fast.tw6886813856997854957 : Nat := 0
def PySem.W.Fast.tw14162380096517421194 : Nat := 0
def PySem.W.Fast.tw294164673830124501 : Nat := 0
def PySem.W.Fast.tw8065393422550613096 : Nat := 0
def PySem.W.Fast.tw9418072624650742471 : Nat := 0
def PySem.W.Fast.tw17222082207741597099 : Nat := 0
def PySem.W.Fast.tw10665811298442228187 : Nat := 0
def PySem.W.Fast.tw9994035358727603457 : Nat := 0
def PySem.W.Fast.tw7470482728003157249 : Nat := 0
def PySem.W.Fast.tw14924891670653003402 : Nat := 0
def PySem.W.Fast.tw14050843683112162630 : Nat := 0
def PySem.W.Fast.tw8928429249014257114 : Nat := 0
def PySem.W.Fast.tw10436321807402387537 : Nat := 0
def PySem.W.Fast.tw7278559621765416372 : Nat := 0
def PySem.W.Fast.tw7475866256555832810 : Nat := 0
def PySem.W.Fast.tw15455307930252324272 : Nat := 0
def PySem.W.Fast.tw3131671779095732842 : Nat := 0
def PySem.W.Fast.tw13111866109404508886 : Nat := 0
def PySem.W.Fast.tw16585603069375130982 : Nat := 0
def PySem.W.Fast.tw12684406990847100024 : Nat := 0
def PySem.W.Fast.tw8165096559475490129 : Nat := 0
def PySem.W.Fast.tw4779224615352673480 : Nat := 0
def PySem.W.Fast.tw15187092819857621823 : Nat := 0
def PySem.W.Fast.tw7791606424445411032 : Nat := 0
def PySem.W.Fast.tw9870508820141211723 : Nat := 0
def PySem.W.Fast.tw8797008229387832012 : Nat := 0
def PySem.W.Fast.tw13751752036665419237 : Nat := 0
def PySem.W.Fast.tw18242072363854294448 : Nat := 0
def PySem.W.Fast.tw12871929757808621497 : Nat := 0
def PySem.W.Fast.tw10588357646157035566 : Nat := 0
def PySem.W.Fast.tw10130366974615738190 : Nat := 0
def PySem.W.Fast.tw12841264453370877991 : Nat := 0
def PySem.W.Fast.tw5186095460580912836 : Nat := 0
def PySem.W.Fast.tw10092316177613138544 : Nat := 0
def PySem.W.Fast.tw5349838092650416036 : Nat := 0
def PySem.W.Fast.tw12929018950734634782 : Nat := 0
def PySem.W.Fast.tw9646239597897341394 : Nat := 0
def PySem.W.Fast.tw12827537098438271657 : Nat := 0
def PySem.W.Fast.tw8982495791286768412 : Nat := 0
def PySem.W.Fast.tw1366875963500162570 : Nat := 0
def PySem.W.Fast.tw2862863705783854008 : Nat := 0
def PySem.W.Fast.tw6011372409215357554 : Nat := 0
def PySem.W.Fast.tw17665661538790949203 : Nat := 0
def PySem.W.Fast.tw5420143664344371426 : Nat := 0
def PySem.W.Fast.tw11782363412434309052 : Nat := 0
def PySem.W.Fast.tw12930531715724506894 : Nat := 0
def PySem.W.Fast.tw9475249033913939013 : Nat := 0
def PySem.W.Fast.tw13726419941572698009 : Nat := 0
def PySem.W.Fast.tw11184410144075590413 : Nat := 0
def PySem.W.Fast.tw16495564923822760971 : Nat := 0
def PySem.W.Fast.tw8065408725881383929 : Nat := 0
def PySem.W.Fast.tw6664775650757142937 : Nat := 0
def PySem.W.Fast.tw13608561103218684476 : Nat := 0
def PySem.W.Fast.tw1923682062683338725 : Nat := 0
def PySem.W.Fast.tw132088002776510757 : Nat := 0
def PySem.W.Fast.tw13802676716603423395 : Nat := 0
def PySem.W.Fast.tw15343647717197488357 : Nat := 0
def PySem.W.Fast.tw5114714326156960530 : Nat := 0
def PySem.W.Fast.tw297681827127839561 : Nat := 0
def PySem.W.Fast.tw544025712973943796 : Nat := 0
def PySem.W.Fast.tw6838169819313444125 : Nat := 0
def PySem.W.Fast.tw4789755826523073480 : Nat := 0
def PySem.W.Fast.tw10199492777680099835 : Nat := 0
def PySem.W.Fast.tw3134009387515573651 : Nat := 0
def PySem.W.Fast.tw13148666551775985077 : Nat := 0
def PySem.W.Fast.tw15297507643643083804 : Nat := 0
def PySem.W.Fast.tw1063292376192054647 : Nat := 0
def PySem.W.Fast.tw9784158758436899722 : Nat := 0
def PySem.W.Fast.tw7931750214311729960 : Nat := 0
def PySem.W.Fast.tw7851869149590616981 : Nat := 0
def PySem.W.Fast.tw6047760760529592010 : Nat := 0
def PySem.W.Fast.tw7390212499802285901 : Nat := 0
def PySem.W.Fast.tw5211392010218724702 : Nat := 0
def PySem.W.Fast.tw5384396303235348053 : Nat := 0
def PySem.W.Fast.tw14509204902924753797 : Nat := 0
def PySem.W.Fast.tw1673736076399469914 : Nat := 0
def PySem.W.Fast.tw6096769328448855889 : Nat := 0
def PySem.W.Fast.tw6667341006573873428 : Nat := 0
def PySem.W.Fast.tw13362856440714233177 : Nat := 0
def PySem.W.Fast.tw15645723035148667915 : Nat := 0
def PySem.W.Fast.tw662991273950051544 : Nat := 0
def PySem.W.Fast.tw8302635910257677516 : Nat := 0
def PySem.W.Fast.tw4538675359166041083 : Nat := 0
def PySem.W.Fast.tw12571313715079903970 : Nat := 0
def PySem.W.Fast.tw11013436157666235077 : Nat := 0
def PySem.W.Fast.tw17808736425828132571 : Nat := 0
def PySem.W.Fast.tw12248502444258211757 : Nat := 0
def PySem.W.Fast.tw14983144719535766660 : Nat := 0
def PySem.W.Fast.tw162069647414101988 : Nat := 0
def PySem.W.Fast.tw14406204593682570554 : Nat := 0
def PySem.W.Fast.tw10068435779831436783 : Nat := 0
def PySem.W.Fast.tw16333676537657942961 : Nat := 0
def PySem.W.Fast.tw16439353122759946815 : Nat := 0
def PySem.W.Fast.tw18281094048010933153 : Nat := 0
def PySem.W.Fast.tw4138877407021666516 : Nat := 0
def PySem.W.Fast.tw5156064245916895479 : Nat := 0
def PySem.W.Fast.tw1224332855894800701 : Nat := 0
def PySem.W.Fast.tw16697001319383427904 : Nat := 0
def PySem.W.Fast.tw17993889659143907711 : Nat := 0
def PySem.W.Fast.tw3394068028444701218 : Nat := 0
def PySem.W.Fast.tw16427070401981389972 : Nat := 0
def PySem.W.Fast.tw8161936365752809905 : Nat := 0
def PySem.W.Fast.tw4562923612222700019 : Nat := 0
def PySem.W.Fast.tw9679178145769862114 : Nat := 0
def PySem.W.Fast.tw10703142911161446263 : Nat := 0
def PySem.W.Fast.tw5810440167672629791 : Nat := 0
def PySem.W.Fast.tw5610316083767497552 : Nat := 0
def PySem.W.Fast.tw2053571906997433421 : Nat := 0
def PySem.W.Fast.tw4391903421334831486 : Nat := 0
def PySem.W.Fast.tw15077385929546146569 : Nat := 0
def PySem.W.Fast.tw6702608445622343884 : Nat := 0
def PySem.W.Fast.tw12392181713854481665 : Nat := 0
def PySem.W.Fast.tw15870963167064503076 : Nat := 0
def PySem.W.Fast.tw10525879714771363691 : Nat := 0
def PySem.W.Fast.tw658115066723598945 : Nat := 0
def PySem.W.Fast.tw6139711630954844406 : Nat := 0
def PySem.W.Fast.tw1090721943914720931 : Nat := 0
def PySem.W.Fast.tw7051952429347129288 : Nat := 0
def PySem.W.Fast.tw11424524946982466001 : Nat := 0
def PySem.W.Fast.tw7711659911000859840 : Nat := 0
def PySem.W.Fast.tw11136903669515648586 : Nat := 0
def PySem.W.Fast.tw9015829781624112664 : Nat := 0
def PySem.W.Fast.tw17832223662186287514 : Nat := 0
def PySem.W.Fast.tw9536666080743716895 : Nat := 0
def PySem.W.Fast.tw5663404760537362540 : Nat := 0
def PySem.W.Fast.tw13864646126386654298 : Nat := 0
def PySem.W.Fast.tw10970758593840403290 : Nat := 0
def PySem.W.Fast.tw6260186031398171867 : Nat := 0
def PySem.W.Fast.tw4936288349129714883 : Nat := 0
def PySem.W.Fast.tw572782899068337674 : Nat := 0
def PySem.W.Fast.tw13119416103837587039 : Nat := 0
def PySem.W.Fast.tw14389718018990913809 : Nat := 0
def PySem.W.Fast.tw13627047977366638233 : Nat := 0
def PySem.W.Fast.tw16605762079077195536 : Nat := 0
def PySem.W.Fast.tw5338126386456893010 : Nat := 0
def PySem.W.Fast.tw15127242839051729393 : Nat := 0
def PySem.W.Fast.tw3928195590879690938 : Nat := 0
def PySem.W.Fast.tw4732561567473679291 : Nat := 0
def PySem.W.Fast.tw9295282669490599499 : Nat := 0
def PySem.W.Fast.tw13162880994892984027 : Nat := 0
def PySem.W.Fast.tw2309244260358203412 : Nat := 0
def PySem.W.Fast.tw1219429578822392742 : Nat := 0
def PySem.W.Fast.tw18006766118342098920 : Nat := 0
def PySem.W.Fast.tw12730367680219052536 : Nat := 0
def PySem.W.Fast.tw9078898207665794206 : Nat := 0
def PySem.W.Fast.tw5556035509141662932 : Nat := 0
def PySem.W.Fast.tw2694420497259564042 : Nat := 0
def PySem.W.Fast.tw17848802923902779898 : Nat := 0
def PySem.W.Fast.tw5973248682747012757 : Nat := 0
def PySem.W.Fast.tw8666428743161524255 : Nat := 0
def PySem.W.Fast.tw17079038513732144221 : Nat := 0
def PySem.W.Fast.tw12587757630004640850 : Nat := 0
def PySem.W.Fast.tw8123508472916554888 : Nat := 0
def PySem.W.Fast.tw14505609325178342752 : Nat := 0
def PySem.W.Fast.tw8293688530201073165 : Nat := 0
def PySem.W.Fast.tw13074196539296848035 : Nat := 0
def PySem.W.Fast.tw12854442567890761423 : Nat := 0
def PySem.W.Fast.tw12411027122803371853 : Nat := 0
def PySem.W.Fast.tw17586137830952416378 : Nat := 0
def PySem.W.Fast.tw7930932572998108132 : Nat := 0
def PySem.W.Fast.tw4594770809972119750 : Nat := 0
def PySem.W.Fast.tw7130694082431586038 : Nat := 0
def PySem.W.Fast.tw15067187673748162663 : Nat := 0
def PySem.W.Fast.tw9053267887556288886 : Nat := 0
def PySem.W.Fast.tw3077853549805439183 : Nat := 0
def PySem.W.Fast.tw15775786336921996611 : Nat := 0
def PySem.W.Fast.tw1585952975407715026 : Nat := 0
def PySem.W.Fast.tw1933082402840152304 : Nat := 0
def PySem.W.Fast.tw1193185892864239059 : Nat := 0
def PySem.W.Fast.tw14714896932604417998 : Nat := 0
def PySem.W.Fast.tw10860329317654763108 : Nat := 0
def PySem.W.Fast.tw5082301070175147462 : Nat := 0
def PySem.W.Fast.tw13450532336530473582 : Nat := 0
def PySem.W.Fast.tw2966211981881643712 : Nat := 0
def PySem.W.Fast.tw15919948353759241575 : Nat := 0
def PySem.W.Fast.tw17477985658299504611 : Nat := 0
def PySem.W.Fast.tw18295044056660273249 : Nat := 0
def PySem.W.Fast.tw17873242962762947976 : Nat := 0
def PySem.W.Fast.tw1672920586945052586 : Nat := 0
def PySem.W.Fast.tw6213632201774634058 : Nat := 0
def PySem.W.Fast.tw5099423689572002142 : Nat := 0
def PySem.W.Fast.tw11353636859381383000 : Nat := 0
def PySem.W.Fast.tw9634328191416198313 : Nat := 0
def PySem.W.Fast.tw5885029700039853493 : Nat := 0
def PySem.W.Fast.tw13186574340895412975 : Nat := 0
def PySem.W.Fast.tw10637483891397129794 : Nat := 0
def PySem.W.Fast.tw5336853117256300556 : Nat := 0
def PySem.W.Fast.tw2438945914269193820 : Nat := 0
def PySem.W.Fast.tw8695961983516820268 : Nat := 0
def PySem.W.Fast.tw3490479283930091104 : Nat := 0
def PySem.W.Fast.tw2656723606480891322 : Nat := 0
def PySem.W.Fast.tw7560460245487555320 : Nat := 0
def PySem.W.Fast.tw14964918694421672273 : Nat := 0
def PySem.W.Fast.tw13620025987655337660 : Nat := 0
def PySem.W.Fast.tw15004390424163368596 : Nat := 0
def PySem.W.Fast.tw11812723511010974689 : Nat := 0
def PySem.W.Fast.tw19837025567023376 : Nat := 0
def PySem.W.Fast.tw6530477468060626501 : Nat := 0
def PySem.W.Fast.tw1411256867804464522 : Nat := 0
def PySem.W.Fast.tw5330624590052302455 : Nat := 0
def PySem.W.Fast.tw16296886149636664276 : Nat := 0
def PySem.W.Fast.tw2578049224328872961 : Nat := 0
def PySem.W.Fast.tw4135833866470446207 : Nat := 0
def PySem.W.Fast.tw12038429522224875927 : Nat := 0
def PySem.W.Fast.tw13204749479872397693 : Nat := 0
def PySem.W.Fast.tw15602364432947411359 : Nat := 0
def PySem.W.Fast.tw1753349519933617309 : Nat := 0
def PySem.W.Fast.tw12255357565983182613 : Nat := 0
def PySem.W.Fast.tw6948403257374741378 : Nat := 0
def PySem.W.Fast.tw6521889062329791609 : Nat := 0
def PySem.W.Fast.tw17369038359643494687 : Nat := 0
def PySem.W.Fast.tw2448321442044222142 : Nat := 0
def PySem.W.Fast.tw12937146559945885275 : Nat := 0
def PySem.W.Fast.tw16031173000378024863 : Nat := 0
def PySem.W.Fast.tw15011861040460580682 : Nat := 0
def PySem.W.Fast.tw9998368858539401461 : Nat := 0
def PySem.W.Fast.tw7717144281459948892 : Nat := 0
def PySem.W.Fast.tw4294064088905330992 : Nat := 0
def PySem.W.Fast.tw10331438897476499260 : Nat := 0
def PySem.W.Fast.tw9818650587244620380 : Nat := 0
def PySem.W.Fast.tw12050256957800609614 : Nat := 0
def PySem.W.Fast.tw2250767170412836314 : Nat := 0
def PySem.W.Fast.tw4338192069945393356 : Nat := 0
def PySem.W.Fast.tw9983931967600053752 : Nat := 0
def PySem.W.Fast.tw5281688299652079257 : Nat := 0
def PySem.W.Fast.tw876118014029117065 : Nat := 0
def PySem.W.Fast.tw12510732475753387870 : Nat := 0
def PySem.W.Fast.tw6956786367168497844 : Nat := 0
def PySem.W.Fast.tw1043089296138419475 : Nat := 0
def PySem.W.Fast.tw16512398187249263009 : Nat := 0
def PySem.W.Fast.tw8134642297787440383 : Nat := 0
def PySem.W.Fast.tw8017212255754008617 : Nat := 0
def PySem.W.Fast.tw2731502238218167499 : Nat := 0
def PySem.W.Fast.tw13418800875125737156 : Nat := 0
def PySem.W.Fast.tw12674283504695191441 : Nat := 0
def PySem.W.Fast.tw4815335382165615806 : Nat := 0
def PySem.W.Fast.tw15570388737644792618 : Nat := 0
def PySem.W.Fast.tw2859082890214156535 : Nat := 0
def PySem.W.Fast.tw7897426415611241029 : Nat := 0
def PySem.W.Fast.tw7734748412140790848 : Nat := 0
def PySem.W.Fast.tw1002397296786609085 : Nat := 0
def PySem.W.Fast.tw11339749547001837901 : Nat := 0
def PySem.W.Fast.tw8133356701124994800 : Nat := 0
def PySem.W.Fast.tw6692558908710306161 : Nat := 0
def PySem.W.Fast.tw9289939107541923710 : Nat := 0
def PySem.W.Fast.tw5269609435863578919 : Nat := 0
def PySem.W.Fast.tw16763752333390237846 : Nat := 0
def PySem.W.Fast.tw5991776687941582470 : Nat := 0
def PySem.W.Fast.tw12918466685656225153 : Nat := 0
def PySem.W.Fast.tw17756778031902154959 : Nat := 0
def PySem.W.Fast.tw8665155515531325379 : Nat := 0
def PySem.W.Fast.tw6562733043014172405 : Nat := 0
def PySem.W.Fast.tw4987029323315461794 : Nat := 0
def PySem.W.Fast.tw17163760825879305447 : Nat := 0
def PySem.W.Fast.tw8798372841023699977 : Nat := 0
def PySem.W.Fast.tw14582769986836865218 : Nat := 0
def PySem.W.Fast.tw17585797029638577033 : Nat := 0
def PySem.W.Fast.tw13242149576385329691 : Nat := 0
def PySem.W.Fast.tw17243761139825797806 : Nat := 0
def PySem.W.Fast.tw17177311656107172548 : Nat := 0
def PySem.W.Fast.tw8711829943864910969 : Nat := 0
def PySem.W.Fast.tw11985127929300426816 : Nat := 0
def PySem.W.Fast.tw11369996068275435507 : Nat := 0
def PySem.W.Fast.tw14020156540756774316 : Nat := 0
def PySem.W.Fast.tw12912981480188055898 : Nat := 0
def PySem.W.Fast.tw9066235736792252552 : Nat := 0
def PySem.W.Fast.tw16781127943274785333 : Nat := 0
def PySem.W.Fast.tw9461216773735224951 : Nat := 0
def PySem.W.Fast.tw7136168043674096798 : Nat := 0
def PySem.W.Fast.tw12451485693630824102 : Nat := 0
def PySem.W.Fast.tw17555429218458520886 : Nat := 0
def PySem.W.Fast.tw18051323764653829026 : Nat := 0
def PySem.W.Fast.tw8491979619735548822 : Nat := 0
def PySem.W.Fast.tw5686056530771219168 : Nat := 0
def PySem.W.Fast.tw17073273333926906914 : Nat := 0
def PySem.W.Fast.tw10398626335163365562 : Nat := 0
def PySem.W.Fast.tw17681596965877187165 : Nat := 0
def PySem.W.Fast.tw7890147424395548673 : Nat := 0
def PySem.W.Fast.tw7859759200339677115 : Nat := 0
def PySem.W.Fast.tw984148471302925338 : Nat := 0
def PySem.W.Fast.tw3651412107043725447 : Nat := 0
def PySem.W.Fast.tw8668056476770222084 : Nat := 0
def PySem.W.Fast.tw16311000868433308506 : Nat := 0
def PySem.W.Fast.tw4525887313559295909 : Nat := 0
def PySem.W.Fast.tw2081887859947689142 : Nat := 0
def PySem.W.Fast.tw11667557821824803711 : Nat := 0
def PySem.W.Fast.tw6115124863429483970 : Nat := 0
def PySem.W.Fast.tw11917883717079101583 : Nat := 0
def PySem.W.Fast.tw14189711306829287778 : Nat := 0
def PySem.W.Fast.tw2645597780781549911 : Nat := 0
def PySem.W.Fast.tw4779775282443366699 : Nat := 0
def PySem.W.Fast.tw6965339021030538768 : Nat := 0
def PySem.W.Fast.tw9410560827486041447 : Nat := 0
def PySem.W.Fast.tw10773578620222396015 : Nat := 0
def PySem.W.Fast.tw8341379886059274779 : Nat := 0
def PySem.W.Fast.tw12821238448168790814 : Nat := 0
def PySem.W.Fast.tw7184868876916287433 : Nat := 0
def PySem.W.Fast.tw15812443078455407160 : Nat := 0
def PySem.W.Fast.tw16834863747271822015 : Nat := 0
def PySem.W.Fast.tw13592598924056413042 : Nat := 0
def PySem.W.Fast.tw8376992972439861778 : Nat := 0
def PySem.W.Fast.tw9627202078315167038 : Nat := 0
def PySem.W.Fast.tw13879496832056746133 : Nat := 0
def PySem.W.Fast.tw14664008056879715478 : Nat := 0
def PySem.W.Fast.tw10411956799878044512 : Nat := 0
def PySem.W.Fast.tw3049744172910256302 : Nat := 0
def PySem.W.Fast.tw15804641039163754517 : Nat := 0
def PySem.W.Fast.tw9310303256393896303 : Nat := 0
def PySem.W.Fast.tw3778793241013105996 : Nat := 0
def PySem.W.Fast.tw116165877342224816 : Nat := 0
def PySem.W.Fast.tw5708192327900457723 : Nat := 0
def PySem.W.Fast.tw4134009014047860361 : Nat := 0
def PySem.W.Fast.tw16080585892764879535 : Nat := 0
def PySem.W.Fast.tw6660076725055580442 : Nat := 0
def PySem.W.Fast.tw5278862769852823489 : Nat := 0
def PySem.W.Fast.tw2796562137463090193 : Nat := 0
def PySem.W.Fast.tw10621417833603908522 : Nat := 0
def PySem.W.Fast.tw4244908341578450958 : Nat := 0
def PySem.W.Fast.tw8187877964382290271 : Nat := 0
def PySem.W.Fast.tw9337786941089948917 : Nat := 0
def PySem.W.Fast.tw12457867937115237554 : Nat := 0
def PySem.W.Fast.tw3420224031949583989 : Nat := 0
def PySem.W.Fast.tw1931404967408995209 : Nat := 0
def PySem.W.Fast.tw12700328744724021099 : Nat := 0
def PySem.W.Fast.tw13278778176371524034 : Nat := 0
def PySem.W.Fast.tw4822468993563602561 : Nat := 0
def PySem.W.Fast.tw14434438489231553011 : Nat := 0
def PySem.W.Fast.tw15084719326442227928 : Nat := 0
def PySem.W.Fast.tw14589192897367529954 : Nat := 0
def PySem.W.Fast.tw3358027613472346744 : Nat := 0
def PySem.W.Fast.tw18300756316987467417 : Nat := 0
def PySem.W.Fast.tw3131622071526993058 : Nat := 0
def PySem.W.Fast.tw980089952026186456 : Nat := 0
def PySem.W.Fast.tw902885926934581376 : Nat := 0
def PySem.W.Fast.tw13122107982007686311 : Nat := 0
def PySem.W.Fast.tw12829392434532037454 : Nat := 0
def PySem.W.Fast.tw8846238211241918522 : Nat := 0
def PySem.W.Fast.tw8819433751837331730 : Nat := 0
def PySem.W.Fast.tw14880916877445632941 : Nat := 0
def PySem.W.Fast.tw17786003146000582898 : Nat := 0
def PySem.W.Fast.tw1794627709261786283 : Nat := 0
def PySem.W.Fast.tw5200512763918957698 : Nat := 0
def PySem.W.Fast.tw3522511082980570151 : Nat := 0
def PySem.W.Fast.tw8791181674671965936 : Nat := 0
def PySem.W.Fast.tw14618533690519523739 : Nat := 0
def PySem.W.Fast.tw6054731955314255713 : Nat := 0
def PySem.W.Fast.tw10931912268511878011 : Nat := 0
def PySem.W.Fast.tw3261010583534231456 : Nat := 0
def PySem.W.Fast.tw389418223730329778 : Nat := 0
def PySem.W.Fast.tw15562062212436308862 : Nat := 0
def PySem.W.Fast.tw7588747245919667984 : Nat := 0
def PySem.W.Fast.tw9184457667370033095 : Nat := 0
def PySem.W.Fast.tw11525565875601964077 : Nat := 0
def PySem.W.Fast.tw2387165608944155663 : Nat := 0
def PySem.W.Fast.tw6759760851649266962 : Nat := 0
def PySem.W.Fast.tw17016289213908058926 : Nat := 0
def PySem.W.Fast.tw9275167468509730841 : Nat := 0
def PySem.W.Fast.tw2589988664062278374 : Nat := 0
def PySem.W.Fast.tw16457628526329378408 : Nat := 0
def PySem.W.Fast.tw10077078970853437749 : Nat := 0
def PySem.W.Fast.tw5046591164162857461 : Nat := 0
def PySem.W.Fast.tw12753255608640038050 : Nat := 0
def PySem.W.Fast.tw9021824321663966827 : Nat := 0
def PySem.W.Fast.tw13898343990389910933 : Nat := 0
def PySem.W.Fast.tw17584125749747230035 : Nat := 0
def PySem.W.Fast.tw166333000345669792 : Nat := 0
def PySem.W.Fast.tw16663331416299146101 : Nat := 0
def PySem.W.Fast.tw771435707945812570 : Nat := 0
def PySem.W.Fast.tw13559224975940530427 : Nat := 0
def PySem.W.Fast.tw7444773346095582958 : Nat := 0
def PySem.W.Fast.tw6412845643649370922 : Nat := 0
def PySem.W.Fast.tw7902740896596213678 : Nat := 0
def PySem.W.Fast.tw5303789306615075898 : Nat := 0
def PySem.W.Fast.tw2378798673150409569 : Nat := 0
def PySem.W.Fast.tw14133876154951166039 : Nat := 0
def PySem.W.Fast.tw2921398679130254760 : Nat := 0
def PySem.W.Fast.tw12684161681158618088 : Nat := 0
def PySem.W.Fast.tw16955143749321414869 : Nat := 0
def PySem.W.Fast.tw3079212099262497649 : Nat := 0
def PySem.W.Fast.tw10181224796252841478 : Nat := 0
def PySem.W.Fast.tw1378201848570113890 : Nat := 0
def PySem.W.Fast.tw10319346928565417175 : Nat := 0
def PySem.W.Fast.tw4045769257516210143 : Nat := 0
def PySem.W.Fast.tw2195877268426609752 : Nat := 0
def PySem.W.Fast.tw17356439743628711757 : Nat := 0
def PySem.W.Fast.tw8782756440047793765 : Nat := 0
def PySem.W.Fast.tw4757354949533742730 : Nat := 0
def PySem.W.Fast.tw5493773126974063753 : Nat := 0
def PySem.W.Fast.tw5571368803690221800 : Nat := 0
def PySem.W.Fast.tw8465082378363712648 : Nat := 0
def PySem.W.Fast.tw16209191043097380140 : Nat := 0
def PySem.W.Fast.tw3887405883083432733 : Nat := 0
def PySem.W.Fast.tw11854216124011209156 : Nat := 0
def PySem.W.Fast.tw13553333773827280260 : Nat := 0
def PySem.W.Fast.tw14394944097798312145 : Nat := 0
def PySem.W.Fast.tw9631029241639764689 : Nat := 0
def PySem.W.Fast.tw13240618565185623745 : Nat := 0
def PySem.W.Fast.tw16014138702399934166 : Nat := 0
def PySem.W.Fast.tw5610380184733062030 : Nat := 0
def PySem.W.Fast.tw4904940300086912157 : Nat := 0
def PySem.W.Fast.tw5000691117109570696 : Nat := 0
def PySem.W.Fast.tw5001763539694311538 : Nat := 0
def PySem.W.Fast.tw7753127391268576410 : Nat := 0
def PySem.W.Fast.tw13939092659123985743 : Nat := 0
def PySem.W.Fast.tw13763553338352489696 : Nat := 0
def PySem.W.Fast.tw11363597288106994401 : Nat := 0
def PySem.W.Fast.tw1378252665453848144 : Nat := 0
def PySem.W.Fast.tw5676477798283876424 : Nat := 0
def PySem.W.Fast.tw12911724751361489001 : Nat := 0
def PySem.W.Fast.tw6291436893500868864 : Nat := 0
def PySem.W.Fast.tw17727949667111268604 : Nat := 0
def PySem.W.Fast.tw6149913523652139678 : Nat := 0
def PySem.W.Fast.tw8122866937028190867 : Nat := 0
def PySem.W.Fast.tw16729831215326283547 : Nat := 0
def PySem.W.Fast.tw4709890971282667469 : Nat := 0
def PySem.W.Fast.tw17702835699544943282 : Nat := 0
def PySem.W.Fast.tw12336575812098965444 : Nat := 0
def PySem.W.Fast.tw481199328103741244 : Nat := 0
def PySem.W.Fast.tw7074711430469715590 : Nat := 0
def PySem.W.Fast.tw18271750160841939181 : Nat := 0
def PySem.W.Fast.tw7213904646738049287 : Nat := 0
def PySem.W.Fast.tw7123219750873425153 : Nat := 0
def PySem.W.Fast.tw13369036418751415901 : Nat := 0
def PySem.W.Fast.tw4856880709265892443 : Nat := 0
def PySem.W.Fast.tw6399508312098471354 : Nat := 0
def PySem.W.Fast.tw11848260881853253710 : Nat := 0
def PySem.W.Fast.tw8532723242263249228 : Nat := 0
def PySem.W.Fast.tw16538052334013710726 : Nat := 0
def PySem.W.Fast.tw9830113087817812231 : Nat := 0
def PySem.W.Fast.tw274354277112488781 : Nat := 0
def PySem.W.Fast.tw12051282747799012816 : Nat := 0
def PySem.W.Fast.tw8765555733035172730 : Nat := 0
def PySem.W.Fast.tw9018353468645010523 : Nat := 0
def PySem.W.Fast.tw4333341519006765497 : Nat := 0
def PySem.W.Fast.tw2684064286794013039 : Nat := 0
def PySem.W.Fast.tw16872704624989751366 : Nat := 0
def PySem.W.Fast.tw10295230707846657265 : Nat := 0
def PySem.W.Fast.tw982427502031304393 : Nat := 0
def PySem.W.Fast.tw10999596797785615308 : Nat := 0
def PySem.W.Fast.tw2503277575783863679 : Nat := 0
def PySem.W.Fast.tw10513871440755969003 : Nat := 0
def PySem.W.Fast.tw7027147783408763792 : Nat := 0
def PySem.W.Fast.tw2018157886986898066 : Nat := 0
def PySem.W.Fast.tw6968168169252407492 : Nat := 0
def PySem.W.Fast.tw15541685454842801922 : Nat := 0
def PySem.W.Fast.tw17455422268004940401 : Nat := 0
def PySem.W.Fast.tw10399403340446954632 : Nat := 0
def PySem.W.Fast.tw2248277912573274736 : Nat := 0
def PySem.W.Fast.tw7792774922876985010 : Nat := 0
def PySem.W.Fast.tw3170509177932418139 : Nat := 0
def PySem.W.Fast.tw1299714880189415864 : Nat := 0
def PySem.W.Fast.tw6682454684927999161 : Nat := 0
def PySem.W.Fast.tw11580908484818807432 : Nat := 0
def PySem.W.Fast.tw12096953413907485755 : Nat := 0
def PySem.W.Fast.tw10301923292682921287 : Nat := 0
def PySem.W.Fast.tw11683508973635572695 : Nat := 0
def PySem.W.Fast.tw15216812678568438426 : Nat := 0
def PySem.W.Fast.tw3536652032518292241 : Nat := 0
def PySem.W.Fast.tw13348557399341800354 : Nat := 0
def PySem.W.Fast.tw5755738882863565371 : Nat := 0
def PySem.W.Fast.tw3621048004055037140 : Nat := 0
def PySem.W.Fast.tw2939195810910397873 : Nat := 0
def PySem.W.Fast.tw18073575900349251501 : Nat := 0
def PySem.W.Fast.tw4659856584298335939 : Nat := 0
def PySem.W.Fast.tw4562796923087052545 : Nat := 0
def PySem.W.Fast.tw17015110250463202914 : Nat := 0
def PySem.W.Fast.tw7698613536858606592 : Nat := 0
def PySem.W.Fast.tw14422516183296118785 : Nat := 0
def PySem.W.Fast.tw15763597036810694305 : Nat := 0
def PySem.W.Fast.tw7388606492878752578 : Nat := 0
def PySem.W.Fast.tw14034488983454840193 : Nat := 0
def PySem.W.Fast.tw16072487023832332014 : Nat := 0
def PySem.W.Fast.tw9383276243294880731 : Nat := 0
def PySem.W.Fast.tw16089971629877071703 : Nat := 0
def PySem.W.Fast.tw17603220101610060737 : Nat := 0
def PySem.W.Fast.tw9346980012412081481 : Nat := 0
def PySem.W.Fast.tw7467700135375699855 : Nat := 0
def PySem.W.Fast.tw3608414284560746927 : Nat := 0
def PySem.W.Fast.tw15799279807511079647 : Nat := 0
def PySem.W.Fast.tw16474733171610628180 : Nat := 0
def PySem.W.Fast.tw13544444389294674222 : Nat := 0
def PySem.W.Fast.tw2396970670700714044 : Nat := 0
def PySem.W.Fast.tw1555449264852710060 : Nat := 0
def PySem.W.Fast.tw5348704690217391274 : Nat := 0
def PySem.W.Fast.tw1018163232325346355 : Nat := 0
def PySem.W.Fast.tw14520132920778717429 : Nat := 0
def PySem.W.Fast.tw12990698166232035485 : Nat := 0
def PySem.W.Fast.tw7454152067946399427 : Nat := 0
def PySem.W.Fast.tw16093387115778148184 : Nat := 0
def PySem.W.Fast.tw16718844493350775482 : Nat := 0
def PySem.W.Fast.tw12126385904057939442 : Nat := 0
def PySem.W.Fast.tw9402269070637338339 : Nat := 0
def PySem.W.Fast.tw420557868396767636 : Nat := 0
def PySem.W.Fast.tw10468060207179665965 : Nat := 0
def PySem.W.Fast.tw9533567679751578915 : Nat := 0
def PySem.W.Fast.tw5981886358696666983 : Nat := 0
def PySem.W.Fast.tw4230909776917832256 : Nat := 0
def PySem.W.Fast.tw11181952521414833081 : Nat := 0
def PySem.W.Fast.tw12309548440145086310 : Nat := 0
def PySem.W.Fast.tw17608383057577975585 : Nat := 0
def PySem.W.Fast.tw16611951885123070279 : Nat := 0
def PySem.W.Fast.tw7777353097670051556 : Nat := 0
def PySem.W.Fast.tw10173589672798397143 : Nat := 0
def PySem.W.Fast.tw12669285919837108232 : Nat := 0
def PySem.W.Fast.tw16496693599886482235 : Nat := 0
def PySem.W.Fast.tw1590338771252133927 : Nat := 0
def PySem.W.Fast.tw9407811912003207098 : Nat := 0
def PySem.W.Fast.tw6622438159976639504 : Nat := 0
def PySem.W.Fast.tw2593939858135945251 : Nat := 0
def PySem.W.Fast.tw619603166179862894 : Nat := 0
def PySem.W.Fast.tw12646693768740979630 : Nat := 0
def PySem.W.Fast.tw2667958717891078100 : Nat := 0
def PySem.W.Fast.tw3835526577125992942 : Nat := 0
def PySem.W.Fast.tw16833320807695806026 : Nat := 0
def PySem.W.Fast.tw18372904350477914396 : Nat := 0
def PySem.W.Fast.tw8449829719460865968 : Nat := 0
def PySem.W.Fast.tw1113842919825635375 : Nat := 0
def PySem.W.Fast.tw10492019526263962442 : Nat := 0
def PySem.W.Fast.tw15594037114241737297 : Nat := 0
def PySem.W.Fast.tw15522241238084480853 : Nat := 0
def PySem.W.Fast.tw601832212605952353 : Nat := 0
def PySem.W.Fast.tw782328049690778361 : Nat := 0
def PySem.W.Fast.tw12668923945640894470 : Nat := 0
def PySem.W.Fast.tw2588190997621534127 : Nat := 0
def PySem.W.Fast.tw15155190023513579672 : Nat := 0
def PySem.W.Fast.tw14759866673795220586 : Nat := 0
def PySem.W.Fast.tw18121657725549348766 : Nat := 0
def PySem.W.Fast.tw14458975430284646389 : Nat := 0
def PySem.W.Fast.tw9147073762981065713 : Nat := 0
def PySem.W.Fast.tw912955487486883815 : Nat := 0
def PySem.W.Fast.tw5497003366071959420 : Nat := 0
def PySem.W.Fast.tw1853999884493963601 : Nat := 0
def PySem.W.Fast.tw198995699013062205 : Nat := 0
def PySem.W.Fast.tw14563644458971504269 : Nat := 0
def PySem.W.Fast.tw7349253880743140094 : Nat := 0
def PySem.W.Fast.tw3616357414720456710 : Nat := 0
def PySem.W.Fast.tw7577862669562894986 : Nat := 0
def PySem.W.Fast.tw13145381986896816856 : Nat := 0
def PySem.W.Fast.tw9304691860364844984 : Nat := 0
def PySem.W.Fast.tw339217247209274456 : Nat := 0
def PySem.W.Fast.tw3946773438977650263 : Nat := 0
def PySem.W.Fast.tw14798518939867859204 : Nat := 0
def PySem.W.Fast.tw13760979385494888246 : Nat := 0
def PySem.W.Fast.tw16583029612570923798 : Nat := 0
def PySem.W.Fast.tw12171736627787961640 : Nat := 0
def PySem.W.Fast.tw15941364476246173784 : Nat := 0
def PySem.W.Fast.tw3919104156659217979 : Nat := 0
def PySem.W.Fast.tw436904303417825327 : Nat := 0
def PySem.W.Fast.tw16133893937954156738 : Nat := 0
def PySem.W.Fast.tw3571982320225203137 : Nat := 0
def PySem.W.Fast.tw9852662610721980510 : Nat := 0
def PySem.W.Fast.tw6783298636118884562 : Nat := 0
def PySem.W.Fast.tw169468588725796842 : Nat := 0
def PySem.W.Fast.tw6173532947990490369 : Nat := 0
def PySem.W.Fast.tw2126816826902372931 : Nat := 0
def PySem.W.Fast.tw15115064329838125007 : Nat := 0
def PySem.W.Fast.tw16249068728332808827 : Nat := 0
def PySem.W.Fast.tw13866367217535505262 : Nat := 0
def PySem.W.Fast.tw17907560712379594200 : Nat := 0
def PySem.W.Fast.tw15439613014549360706 : Nat := 0
def PySem.W.Fast.tw17414441743504492573 : Nat := 0
def PySem.W.Fast.tw1037056460787127884 : Nat := 0
def PySem.W.Fast.tw10901446553217719731 : Nat := 0
def PySem.W.Fast.tw8669841059090295005 : Nat := 0
def PySem.W.Fast.tw5934792087994501058 : Nat := 0
def PySem.W.Fast.tw8880265560922309796 : Nat := 0
def PySem.W.Fast.tw8428855028766788700 : Nat := 0
def PySem.W.Fast.tw17505699539180084709 : Nat := 0
def PySem.W.Fast.tw11581142834036325274 : Nat := 0
def PySem.W.Fast.tw14244234186676995866 : Nat := 0
def PySem.W.Fast.tw6863712443142226118 : Nat := 0
def PySem.W.Fast.tw3833346994075736990 : Nat := 0
def PySem.W.Fast.tw8063333649104012359 : Nat := 0
def PySem.W.Fast.tw6914969223141882132 : Nat := 0
def PySem.W.Fast.tw2892775433144895214 : Nat := 0
def PySem.W.Fast.tw16606611001015919265 : Nat := 0
def PySem.W.Fast.tw10906837563520562863 : Nat := 0
def PySem.W.Fast.tw16828944326825474283 : Nat := 0
def PySem.W.Fast.tw1749674707181255953 : Nat := 0
def PySem.W.Fast.tw4319712358704608374 : Nat := 0
def PySem.W.Fast.tw5731204929817250480 : Nat := 0
def PySem.W.Fast.tw17619451409269136404 : Nat := 0
def PySem.W.Fast.tw14470252378433358027 : Nat := 0
def PySem.W.Fast.tw12102607294773238495 : Nat := 0
def PySem.W.Fast.tw11559341031092267986 : Nat := 0
def PySem.W.Fast.tw1375231570071246855 : Nat := 0
def PySem.W.Fast.tw17814192149071831489 : Nat := 0
def PySem.W.Fast.tw4751289788403057631 : Nat := 0
def PySem.W.Fast.tw15630498467517736664 : Nat := 0
def PySem.W.Fast.tw6321376305548205170 : Nat := 0
def PySem.W.Fast.tw7181955168607672895 : Nat := 0
def PySem.W.Fast.tw520650235740352003 : Nat := 0
def PySem.W.Fast.tw2470139160331521672 : Nat := 0
def PySem.W.Fast.tw11289845260970683923 : Nat := 0
def PySem.W.Fast.tw10070210790239320039 : Nat := 0
def PySem.W.Fast.tw16392929303210003467 : Nat := 0
def PySem.W.Fast.tw17443811235439622095 : Nat := 0
def PySem.W.Fast.tw10410941254543089677 : Nat := 0
def PySem.W.Fast.tw386326580532563471 : Nat := 0
def PySem.W.Fast.tw17004337267157969045 : Nat := 0
def PySem.W.Fast.tw2687902079813573117 : Nat := 0
def PySem.W.Fast.tw17166566679450155652 : Nat := 0
def PySem.W.Fast.tw3130262690907389299 : Nat := 0
def PySem.W.Fast.tw14533894204849476153 : Nat := 0
def PySem.W.Fast.tw7475144857952600360 : Nat := 0
def PySem.W.Fast.tw5024231815084761204 : Nat := 0
def PySem.W.Fast.tw11466409150703684923 : Nat := 0
def PySem.W.Fast.tw16207716626952661899 : Nat := 0
def PySem.W.Fast.tw7356510271576504808 : Nat := 0
def PySem.W.Fast.tw16591465478859450610 : Nat := 0
def PySem.W.Fast.tw13335055998711499107 : Nat := 0
def PySem.W.Fast.tw7073910543193550364 : Nat := 0
def PySem.W.Fast.tw6979512557052019589 : Nat := 0
def PySem.W.Fast.tw6151845095372252146 : Nat := 0
def PySem.W.Fast.tw18372926839080934616 : Nat := 0
def PySem.W.Fast.tw907317518850992269 : Nat := 0
def PySem.W.Fast.tw6461938202700767226 : Nat := 0
def PySem.W.Fast.tw10742757510063746333 : Nat := 0
def PySem.W.Fast.tw18373885347216113424 : Nat := 0
def PySem.W.Fast.tw3143136306231036166 : Nat := 0
def PySem.W.Fast.tw14772963373438812050 : Nat := 0
def PySem.W.Fast.tw11484450854165946163 : Nat := 0
def PySem.W.Fast.tw3547595625544548513 : Nat := 0
def PySem.W.Fast.tw10809623972686933038 : Nat := 0
def PySem.W.Fast.tw12506193193664334538 : Nat := 0
def PySem.W.Fast.tw14524628678246964860 : Nat := 0
def PySem.W.Fast.tw3798012512729789868 : Nat := 0
def PySem.W.Fast.tw16362356118606210097 : Nat := 0
def PySem.W.Fast.tw3394041653363717035 : Nat := 0
def PySem.W.Fast.tw8538398432141373217 : Nat := 0
def PySem.W.Fast.tw5371283762813104901 : Nat := 0
def PySem.W.Fast.tw15196113696083125857 : Nat := 0
def PySem.W.Fast.tw4967075348468255994 : Nat := 0
def PySem.W.Fast.tw2459131570520973565 : Nat := 0
def PySem.W.Fast.tw4617268686515181637 : Nat := 0
def PySem.W.Fast.tw3232661609688857935 : Nat := 0
def PySem.W.Fast.tw10055782675891017328 : Nat := 0
def PySem.W.Fast.tw15290920408907162797 : Nat := 0
def PySem.W.Fast.tw4173002973822645587 : Nat := 0
def PySem.W.Fast.tw4874156535797542754 : Nat := 0
def PySem.W.Fast.tw8348435016330796201 : Nat := 0
def PySem.W.Fast.tw7523442056428050788 : Nat := 0
def PySem.W.Fast.tw14103608060298120136 : Nat := 0
def PySem.W.Fast.tw14613630581740543660 : Nat := 0
def PySem.W.Fast.tw2170139455378681183 : Nat := 0
def PySem.W.Fast.tw8743081939595118148 : Nat := 0
def PySem.W.Fast.tw14150964913690672937 : Nat := 0
def PySem.W.Fast.tw12346220670504807085 : Nat := 0
def PySem.W.Fast.tw4952489363818653882 : Nat := 0
def PySem.W.Fast.tw2853434150852546646 : Nat := 0
def PySem.W.Fast.tw2195910363890411066 : Nat := 0
def PySem.W.Fast.tw14902114692270671031 : Nat := 0
def PySem.W.Fast.tw10703004677139946564 : Nat := 0
def PySem.W.Fast.tw4932082232074462873 : Nat := 0
def PySem.W.Fast.tw11429361432315193343 : Nat := 0
def PySem.W.Fast.tw1199385286811108778 : Nat := 0
def PySem.W.Fast.tw8309382573712754659 : Nat := 0
def PySem.W.Fast.tw11266526815122218531 : Nat := 0
def PySem.W.Fast.tw9452373379382376835 : Nat := 0
def PySem.W.Fast.tw8589804856098739569 : Nat := 0
def PySem.W.Fast.tw17921228317793236274 : Nat := 0
def PySem.W.Fast.tw25473102259123012 : Nat := 0
def PySem.W.Fast.tw10792783808929909787 : Nat := 0
def PySem.W.Fast.tw14923473172395346747 : Nat := 0
def PySem.W.Fast.tw17241890416650054995 : Nat := 0
def PySem.W.Fast.tw18339325392012530172 : Nat := 0
def PySem.W.Fast.tw8956012060003316962 : Nat := 0
def PySem.W.Fast.tw17998527929016110567 : Nat := 0
def PySem.W.Fast.tw10324016533763562102 : Nat := 0
def PySem.W.Fast.tw13391543456743634757 : Nat := 0
def PySem.W.Fast.tw15093253385416361397 : Nat := 0
def PySem.W.Fast.tw8888184934551505866 : Nat := 0
def PySem.W.Fast.tw5978341231635274129 : Nat := 0
def PySem.W.Fast.tw10197516885411926008 : Nat := 0
def PySem.W.Fast.tw8175732080423721824 : Nat := 0
def PySem.W.Fast.tw9276814634858482052 : Nat := 0
def PySem.W.Fast.tw12369258476557124458 : Nat := 0
def PySem.W.Fast.tw10343812241548187509 : Nat := 0
def PySem.W.Fast.tw14963494897685545105 : Nat := 0
def PySem.W.Fast.tw1197658491651329067 : Nat := 0
def PySem.W.Fast.tw8005781117013772006 : Nat := 0
def PySem.W.Fast.tw12206079594657624146 : Nat := 0
def PySem.W.Fast.tw9026482865567037269 : Nat := 0
def PySem.W.Fast.tw11053484116980199110 : Nat := 0
def PySem.W.Fast.tw16767639701619369405 : Nat := 0
def PySem.W.Fast.tw10406320292711635154 : Nat := 0
def PySem.W.Fast.tw16713257772464233867 : Nat := 0
def PySem.W.Fast.tw3535123702488354001 : Nat := 0
def PySem.W.Fast.tw9168273523397799380 : Nat := 0
def PySem.W.Fast.tw13674540671435694435 : Nat := 0
def PySem.W.Fast.tw12508977790269428946 : Nat := 0
def PySem.W.Fast.tw13954273534611287268 : Nat := 0
def PySem.W.Fast.tw654013948040533677 : Nat := 0
def PySem.W.Fast.tw16430966088396812210 : Nat := 0
def PySem.W.Fast.tw3420403704470329073 : Nat := 0
def PySem.W.Fast.tw16423915073855712626 : Nat := 0
def PySem.W.Fast.tw2426676531880065464 : Nat := 0
def PySem.W.Fast.tw631851271245017868 : Nat := 0
def PySem.W.Fast.tw17691630084200236510 : Nat := 0
def PySem.W.Fast.tw2160804485852492177 : Nat := 0
def PySem.W.Fast.tw1914824072605683691 : Nat := 0
def PySem.W.Fast.tw9175857351994800760 : Nat := 0
def PySem.W.Fast.tw10387138947018821453 : Nat := 0
def PySem.W.Fast.tw17613219360885236463 : Nat := 0
def PySem.W.Fast.tw4802919156090081817 : Nat := 0
def PySem.W.Fast.tw13058617083361716182 : Nat := 0
def PySem.W.Fast.tw11657084491689939496 : Nat := 0
def PySem.W.Fast.tw1306448479681521119 : Nat := 0
def PySem.W.Fast.tw17300785957754691600 : Nat := 0
def PySem.W.Fast.tw10224873446640883187 : Nat := 0
def PySem.W.Fast.tw15952676638283607753 : Nat := 0
def PySem.W.Fast.tw11202710578294569176 : Nat := 0
def PySem.W.Fast.tw10041087194481505143 : Nat := 0
def PySem.W.Fast.tw8445487394006109681 : Nat := 0
def PySem.W.Fast.tw10165033508603631728 : Nat := 0
def PySem.W.Fast.tw14281427475694382673 : Nat := 0
def PySem.W.Fast.tw12746039422605811566 : Nat := 0
def PySem.W.Fast.tw14165047631384129156 : Nat := 0
def PySem.W.Fast.tw17597875500307229045 : Nat := 0
def PySem.W.Fast.tw12043005554038310557 : Nat := 0
def PySem.W.Fast.tw17783138116027600452 : Nat := 0
def PySem.W.Fast.tw10324066252410341545 : Nat := 0
def PySem.W.Fast.tw11904104043122739029 : Nat := 0
def PySem.W.Fast.tw17082234001653193789 : Nat := 0
def PySem.W.Fast.tw11289114180647053240 : Nat := 0
def PySem.W.Fast.tw3562623678682763189 : Nat := 0
def PySem.W.Fast.tw10199778037487222185 : Nat := 0
def PySem.W.Fast.tw10494024514029061336 : Nat := 0
def PySem.W.Fast.tw3993123080267349009 : Nat := 0
def PySem.W.Fast.tw3814792375264611429 : Nat := 0
def PySem.W.Fast.tw2290985949405495380 : Nat := 0
def PySem.W.Fast.tw7886653554501937741 : Nat := 0
def PySem.W.Fast.tw15258080464591221629 : Nat := 0
def PySem.W.Fast.tw1777000800899887947 : Nat := 0
def PySem.W.Fast.tw16668825855867826218 : Nat := 0
def PySem.W.Fast.tw7006115644202214583 : Nat := 0
def PySem.W.Fast.tw17504421927833119801 : Nat := 0
def PySem.W.Fast.tw97824659814414795 : Nat := 0
def PySem.W.Fast.tw264229640631249357 : Nat := 0
def PySem.W.Fast.tw18036558974600547498 : Nat := 0
def PySem.W.Fast.tw11783479530661086260 : Nat := 0
def PySem.W.Fast.tw10032069874438763654 : Nat := 0
def PySem.W.Fast.tw17378929899784372018 : Nat := 0
def PySem.W.Fast.tw789959134251096959 : Nat := 0
def PySem.W.Fast.tw17358269677914292354 : Nat := 0
def PySem.W.Fast.tw13712106050342615528 : Nat := 0
def PySem.W.Fast.tw7659635910611824236 : Nat := 0
def PySem.W.Fast.tw8890493240014583680 : Nat := 0
def PySem.W.Fast.tw15895195570656314505 : Nat := 0
def PySem.W.Fast.tw9783839450405436481 : Nat := 0
def PySem.W.Fast.tw12953530835612961565 : Nat := 0
def PySem.W.Fast.tw11349440168269331327 : Nat := 0
def PySem.W.Fast.tw8073574833865762294 : Nat := 0
def PySem.W.Fast.tw5430502156815199881 : Nat := 0
def PySem.W.Fast.tw2057826778790249826 : Nat := 0
def PySem.W.Fast.tw10975741771662186639 : Nat := 0
def PySem.W.Fast.tw3481763082399761136 : Nat := 0
def PySem.W.Fast.tw11542628341416314766 : Nat := 0
def PySem.W.Fast.tw4587266694119444971 : Nat := 0
def PySem.W.Fast.tw6978911632549856139 : Nat := 0
def PySem.W.Fast.tw1584405952440890311 : Nat := 0
def PySem.W.Fast.tw4680706182099591539 : Nat := 0
def PySem.W.Fast.tw4445269251900889503 : Nat := 0
def PySem.W.Fast.tw15180309565860450312 : Nat := 0
def PySem.W.Fast.tw9337710434262083573 : Nat := 0
def PySem.W.Fast.tw16610997592206505349 : Nat := 0
def PySem.W.Fast.tw16901557437060724628 : Nat := 0
def PySem.W.Fast.tw4189718080685537852 : Nat := 0
def PySem.W.Fast.tw9662159931774367196 : Nat := 0
def PySem.W.Fast.tw12984674637194705348 : Nat := 0
def PySem.W.Fast.tw7735795648521404690 : Nat := 0
def PySem.W.Fast.tw13955266560726650679 : Nat := 0
def PySem.W.Fast.tw10593329368447563420 : Nat := 0
def PySem.W.Fast.tw9256857855558570862 : Nat := 0
def PySem.W.Fast.tw926318619420495192 : Nat := 0
def PySem.W.Fast.tw5039485031133019658 : Nat := 0
def PySem.W.Fast.tw14656189724602782214 : Nat := 0
def PySem.W.Fast.tw5141920922294708235 : Nat := 0
def PySem.W.Fast.tw2763143901168486039 : Nat := 0
def PySem.W.Fast.tw14737942722655310879 : Nat := 0
def PySem.W.Fast.tw936510568648326496 : Nat := 0
def PySem.W.Fast.tw4039834702669625432 : Nat := 0
def PySem.W.Fast.tw16353196317587849770 : Nat := 0
def PySem.W.Fast.tw3206100901542647949 : Nat := 0
def PySem.W.Fast.tw3814029053782686049 : Nat := 0
def PySem.W.Fast.tw9228765446662420707 : Nat := 0
def PySem.W.Fast.tw13078308270907819394 : Nat := 0
def PySem.W.Fast.tw17228409852984284995 : Nat := 0
def PySem.W.Fast.tw5181244155976110583 : Nat := 0
def PySem.W.Fast.tw4658400696677589325 : Nat := 0
def PySem.W.Fast.tw5628279398292674549 : Nat := 0
def PySem.W.Fast.tw11293244655149708364 : Nat := 0
def PySem.W.Fast.tw14723840676603345187 : Nat := 0
def PySem.W.Fast.tw13904691528529087456 : Nat := 0
def PySem.W.Fast.tw9618468451405846335 : Nat := 0
def PySem.W.Fast.tw14285384345666562954 : Nat := 0
def PySem.W.Fast.tw400132653199832958 : Nat := 0
def PySem.W.Fast.tw4534136266058028114 : Nat := 0
def PySem.W.Fast.tw3118332403178307623 : Nat := 0
def PySem.W.Fast.tw7372032819434522951 : Nat := 0
def PySem.W.Fast.tw16660298412245357433 : Nat := 0
def PySem.W.Fast.tw1187289712387566722 : Nat := 0
def PySem.W.Fast.tw7773651678203341412 : Nat := 0
def PySem.W.Fast.tw11114454931649505459 : Nat := 0
def PySem.W.Fast.tw7917871572009546565 : Nat := 0
def PySem.W.Fast.tw10122305885388627737 : Nat := 0
def PySem.W.Fast.tw6256904629569687897 : Nat := 0
def PySem.W.Fast.tw13919623441364571786 : Nat := 0
def PySem.W.Fast.tw1343317111806138726 : Nat := 0
def PySem.W.Fast.tw8403054073064695082 : Nat := 0
def PySem.W.Fast.tw14520668756001480584 : Nat := 0
def PySem.W.Fast.tw17570701573879349904 : Nat := 0
def PySem.W.Fast.tw15151056788328842811 : Nat := 0
def PySem.W.Fast.tw14284875107541946600 : Nat := 0
def PySem.W.Fast.tw18166272702188644155 : Nat := 0
def PySem.W.Fast.tw12713104254481802891 : Nat := 0
def PySem.W.Fast.tw13897934212231300853 : Nat := 0
def PySem.W.Fast.tw12521715971046076815 : Nat := 0
def PySem.W.Fast.tw13660273816166112604 : Nat := 0
def PySem.W.Fast.tw2588868059699953934 : Nat := 0
def PySem.W.Fast.tw14871146103314906149 : Nat := 0
def PySem.W.Fast.tw12983551318290465470 : Nat := 0
def PySem.W.Fast.tw15285526666171726521 : Nat := 0
def PySem.W.Fast.tw3591998469320598413 : Nat := 0
def PySem.W.Fast.tw5083696761660809792 : Nat := 0
def PySem.W.Fast.tw3792332485677091618 : Nat := 0
def PySem.W.Fast.tw734300790587825354 : Nat := 0
def PySem.W.Fast.tw7701196963989485612 : Nat := 0
def PySem.W.Fast.tw14894131547552084285 : Nat := 0
def PySem.W.Fast.tw15487698300285399474 : Nat := 0
def PySem.W.Fast.tw7877058797170213541 : Nat := 0
def PySem.W.Fast.tw15657875070593874712 : Nat := 0
def PySem.W.Fast.tw11214513112348121143 : Nat := 0
def PySem.W.Fast.tw17487085566767969767 : Nat := 0
def PySem.W.Fast.tw3360451483828698679 : Nat := 0
def PySem.W.Fast.tw6124181532997820509 : Nat := 0
def PySem.W.Fast.tw18172464686455187317 : Nat := 0
def PySem.W.Fast.tw7753891750277855141 : Nat := 0
def PySem.W.Fast.tw7941693235413508615 : Nat := 0
def PySem.W.Fast.tw2588103083627695129 : Nat := 0
def PySem.W.Fast.tw13522910763103075382 : Nat := 0
def PySem.W.Fast.tw10852887244318946908 : Nat := 0
def PySem.W.Fast.tw12307154117192545297 : Nat := 0
def PySem.W.Fast.tw17080825592623249305 : Nat := 0
def PySem.W.Fast.tw16390018186531265426 : Nat := 0
def PySem.W.Fast.tw10004237966995907058 : Nat := 0
def PySem.W.Fast.tw17967985710708309294 : Nat := 0
def PySem.W.Fast.tw17950153894604147708 : Nat := 0
def PySem.W.Fast.tw9627158487871090610 : Nat := 0
def PySem.W.Fast.tw15968523809088068762 : Nat := 0
def PySem.W.Fast.tw2496259571384204481 : Nat := 0
def PySem.W.Fast.tw7557112564569101553 : Nat := 0
def PySem.W.Fast.tw5611522356732260062 : Nat := 0
def PySem.W.Fast.tw18413389094985486819 : Nat := 0
def PySem.W.Fast.tw11346405601051522909 : Nat := 0
def PySem.W.Fast.tw11112499977525596836 : Nat := 0
def PySem.W.Fast.tw3995329971580136582 : Nat := 0
def PySem.W.Fast.tw13278017031662540011 : Nat := 0
def PySem.W.Fast.tw14001249540648424360 : Nat := 0
def PySem.W.Fast.tw5913131903440398390 : Nat := 0
def PySem.W.Fast.tw14559671457060210609 : Nat := 0
def PySem.W.Fast.tw13653421758945159023 : Nat := 0
def PySem.W.Fast.tw14614835709875227387 : Nat := 0
def PySem.W.Fast.tw6243884181662339554 : Nat := 0
def PySem.W.Fast.tw6015804193959075864 : Nat := 0
def PySem.W.Fast.tw16734723348715521855 : Nat := 0
def PySem.W.Fast.tw5341890850165529893 : Nat := 0
def PySem.W.Fast.tw1249191796956742186 : Nat := 0
def PySem.W.Fast.tw13849904658938349921 : Nat := 0
def PySem.W.Fast.tw7996545629512231378 : Nat := 0
def PySem.W.Fast.tw11152588913992446421 : Nat := 0
def PySem.W.Fast.tw15386332438608672471 : Nat := 0
def PySem.W.Fast.tw16161753708642314990 : Nat := 0
def PySem.W.Fast.tw4518020837254745922 : Nat := 0
def PySem.W.Fast.tw5883597135934224244 : Nat := 0
def PySem.W.Fast.tw10110421033667269373 : Nat := 0
def PySem.W.Fast.tw2161763781731322273 : Nat := 0
def PySem.W.Fast.tw2063648966306807607 : Nat := 0
def PySem.W.Fast.tw2570089530973116272 : Nat := 0
def PySem.W.Fast.tw3421928611116190595 : Nat := 0
def PySem.W.Fast.tw4677865695036754426 : Nat := 0
def PySem.W.Fast.tw5395243746850503783 : Nat := 0
def PySem.W.Fast.tw10290144129645431724 : Nat := 0
def PySem.W.Fast.tw10896665534428368904 : Nat := 0
def PySem.W.Fast.tw820870692180438677 : Nat := 0
def PySem.W.Fast.tw8887505443784368228 : Nat := 0
def PySem.W.Fast.tw7740437888951616205 : Nat := 0
def PySem.W.Fast.tw5002904698067614509 : Nat := 0
def PySem.W.Fast.tw4300105815886452323 : Nat := 0
def PySem.W.Fast.tw1678471108762236348 : Nat := 0
def PySem.W.Fast.tw292778485233916088 : Nat := 0
def PySem.W.Fast.tw16018529142805122585 : Nat := 0
def PySem.W.Fast.tw4187648167501909201 : Nat := 0
def PySem.W.Fast.tw8584412866429950475 : Nat := 0
def PySem.W.Fast.tw18321736399031050166 : Nat := 0
def PySem.W.Fast.tw6331868036515987498 : Nat := 0
def PySem.W.Fast.tw15973546435994280565 : Nat := 0
def PySem.W.Fast.tw16374944168281762131 : Nat := 0
def PySem.W.Fast.tw8890691031473661270 : Nat := 0
def PySem.W.Fast.tw4449904085912176077 : Nat := 0
def PySem.W.Fast.tw13140689877746907273 : Nat := 0
def PySem.W.Fast.tw5254916102670511146 : Nat := 0
def PySem.W.Fast.tw219636489672359616 : Nat := 0
def PySem.W.Fast.tw5896752845544871724 : Nat := 0
def PySem.W.Fast.tw16566108178269141350 : Nat := 0
def PySem.W.Fast.tw7967090159589534147 : Nat := 0
def PySem.W.Fast.tw13928056088098906091 : Nat := 0
def PySem.W.Fast.tw10807427212621273786 : Nat := 0
def PySem.W.Fast.tw10321996475685213934 : Nat := 0
def PySem.W.Fast.tw12829068241253124770 : Nat := 0
def PySem.W.Fast.tw12805665998145028827 : Nat := 0
def PySem.W.Fast.tw15188141266349343285 : Nat := 0
def PySem.W.Fast.tw6140570371969593167 : Nat := 0
def PySem.W.Fast.tw7141958535567231844 : Nat := 0
def PySem.W.Fast.tw15668537896455124931 : Nat := 0
def PySem.W.Fast.tw15380478853221180378 : Nat := 0
def PySem.W.Fast.tw2770665472550469818 : Nat := 0
def PySem.W.Fast.tw18279864292955695912 : Nat := 0
def PySem.W.Fast.tw11697908223846938237 : Nat := 0
def PySem.W.Fast.tw12814109203649486871 : Nat := 0
def PySem.W.Fast.tw3595608851522946863 : Nat := 0
def PySem.W.Fast.tw17523705744755866987 : Nat := 0
def PySem.W.Fast.tw13399855883173292678 : Nat := 0
def PySem.W.Fast.tw16049146412944730380 : Nat := 0
def PySem.W.Fast.tw7337162204662370867 : Nat := 0
def PySem.W.Fast.tw17745051401396272078 : Nat := 0
def PySem.W.Fast.tw6621657482404754381 : Nat := 0
def PySem.W.Fast.tw7399530276516952539 : Nat := 0
def PySem.W.Fast.tw3912930441045341206 : Nat := 0
def PySem.W.Fast.tw11405461246287976253 : Nat := 0
def PySem.W.Fast.tw9517970973077542780 : Nat := 0
def PySem.W.Fast.tw12944976065362727776 : Nat := 0
def PySem.W.Fast.tw7451681383150066299 : Nat := 0
def PySem.W.Fast.tw2766084270653526081 : Nat := 0
def PySem.W.Fast.tw11295419862203184734 : Nat := 0
def PySem.W.Fast.tw10211434220805019267 : Nat := 0
def PySem.W.Fast.tw8755466688941049984 : Nat := 0
def PySem.W.Fast.tw9267396672215326355 : Nat := 0
def PySem.W.Fast.tw18054066722426930953 : Nat := 0
def PySem.W.Fast.tw8763486521367463837 : Nat := 0
def PySem.W.Fast.tw6599779229666397597 : Nat := 0
def PySem.W.Fast.tw5972697535326937147 : Nat := 0
def PySem.W.Fast.tw547243296269026660 : Nat := 0
def PySem.W.Fast.tw17286047924583641131 : Nat := 0
def PySem.W.Fast.tw6858489565962774381 : Nat := 0
def PySem.W.Fast.tw8679590729993068179 : Nat := 0
def PySem.W.Fast.tw7431332097714130287 : Nat := 0
def PySem.W.Fast.tw7315336740588291451 : Nat := 0
def PySem.W.Fast.tw15993758300000132354 : Nat := 0
def PySem.W.Fast.tw1520748296995403519 : Nat := 0
def PySem.W.Fast.tw10543708076218153017 : Nat := 0
def PySem.W.Fast.tw11966120298509205043 : Nat := 0
def PySem.W.Fast.tw3948444474298090804 : Nat := 0
def PySem.W.Fast.tw1813990194432533886 : Nat := 0
def PySem.W.Fast.tw2802606059690629922 : Nat := 0
def PySem.W.Fast.tw10493108803135013961 : Nat := 0
def PySem.W.Fast.tw16321249097175299193 : Nat := 0
def PySem.W.Fast.tw2596651858797665860 : Nat := 0
def PySem.W.Fast.tw687316351514160147 : Nat := 0
def PySem.W.Fast.tw428679661726716869 : Nat := 0
def PySem.W.Fast.tw2330737502427506819 : Nat := 0
def PySem.W.Fast.tw3748812992247659242 : Nat := 0
def PySem.W.Fast.tw7603863246037038597 : Nat := 0
def PySem.W.Fast.tw5377874623761277344 : Nat := 0
def PySem.W.Fast.tw4933088465336543126 : Nat := 0
def PySem.W.Fast.tw6359035793955148269 : Nat := 0
def PySem.W.Fast.tw7537760246268213562 : Nat := 0
def PySem.W.Fast.tw4480884154231018905 : Nat := 0
def PySem.W.Fast.tw9055241070361496471 : Nat := 0
def PySem.W.Fast.tw5692627303113446200 : Nat := 0
def PySem.W.Fast.tw8898733853580544486 : Nat := 0
def PySem.W.Fast.tw18047040413865051270 : Nat := 0
def PySem.W.Fast.tw12195540608613459526 : Nat := 0
def PySem.W.Fast.tw16600820072998486798 : Nat := 0
def PySem.W.Fast.tw4302860881013379794 : Nat := 0
def PySem.W.Fast.tw11536028158916829817 : Nat := 0
def PySem.W.Fast.tw5638845828078917048 : Nat := 0
def PySem.W.Fast.tw8056037098728087313 : Nat := 0
def PySem.W.Fast.tw15149074980808227410 : Nat := 0
def PySem.W.Fast.tw64049447143795569 : Nat := 0
def PySem.W.Fast.tw12696767251931359864 : Nat := 0
def PySem.W.Fast.tw15397408386417493293 : Nat := 0
def PySem.W.Fast.tw7634961589835586786 : Nat := 0
def PySem.W.Fast.tw8440566376263166109 : Nat := 0
def PySem.W.Fast.tw4445652662412340743 : Nat := 0
def PySem.W.Fast.tw3498073409983958218 : Nat := 0
def PySem.W.Fast.tw3403939036100107650 : Nat := 0
def PySem.W.Fast.tw15018091661051148849 : Nat := 0
def PySem.W.Fast.tw16701686986379773681 : Nat := 0
def PySem.W.Fast.tw5864837155860052611 : Nat := 0
def PySem.W.Fast.tw10765642716743101290 : Nat := 0
def PySem.W.Fast.tw2935384551902380831 : Nat := 0
def PySem.W.Fast.tw13631018269574654787 : Nat := 0
def PySem.W.Fast.tw8262876379739962503 : Nat := 0
def PySem.W.Fast.tw6433246206145695204 : Nat := 0
def PySem.W.Fast.tw3986473939616747663 : Nat := 0
def PySem.W.Fast.tw13930115042746277821 : Nat := 0
def PySem.W.Fast.tw13423521317057251201 : Nat := 0
def PySem.W.Fast.tw11850893526689073450 : Nat := 0
def PySem.W.Fast.tw4190365928997946000 : Nat := 0
def PySem.W.Fast.tw16365808891101425378 : Nat := 0
def PySem.W.Fast.tw2246904970454107743 : Nat := 0
def PySem.W.Fast.tw2986948499950752047 : Nat := 0
def PySem.W.Fast.tw8343816993676928704 : Nat := 0
def PySem.W.Fast.tw10281112092128787484 : Nat := 0
def PySem.W.Fast.tw5367369471143304289 : Nat := 0
def PySem.W.Fast.tw9925282583690670741 : Nat := 0
def PySem.W.Fast.tw16181797393403934843 : Nat := 0
def PySem.W.Fast.tw4893224590557810925 : Nat := 0
def PySem.W.Fast.tw2941577058699043960 : Nat := 0
def PySem.W.Fast.tw5590588357330224242 : Nat := 0
def PySem.W.Fast.tw16426329393443869963 : Nat := 0
def PySem.W.Fast.tw14494636485090548347 : Nat := 0
def PySem.W.Fast.tw15914052163905582282 : Nat := 0
def PySem.W.Fast.tw16669719014754916957 : Nat := 0
def PySem.W.Fast.tw9787438027236182256 : Nat := 0
def PySem.W.Fast.tw1631366294142774836 : Nat := 0
def PySem.W.Fast.tw16179589888998963020 : Nat := 0
def PySem.W.Fast.tw10111968164052750134 : Nat := 0
def PySem.W.Fast.tw15195566834370206600 : Nat := 0
def PySem.W.Fast.tw18223816199009770754 : Nat := 0
def PySem.W.Fast.tw9331460447876417327 : Nat := 0
def PySem.W.Fast.tw6092847284028800168 : Nat := 0
def PySem.W.Fast.tw11051057448707154638 : Nat := 0
def PySem.W.Fast.tw692726156049304155 : Nat := 0
def PySem.W.Fast.tw3293660880657446811 : Nat := 0
def PySem.W.Fast.tw4814556531758917868 : Nat := 0
def PySem.W.Fast.tw3959017534431517673 : Nat := 0
def PySem.W.Fast.tw15910676857630266838 : Nat := 0
def PySem.W.Fast.tw3452844443547879314 : Nat := 0
def PySem.W.Fast.tw3418487535111988217 : Nat := 0
def PySem.W.Fast.tw13945404477325769350 : Nat := 0
def PySem.W.Fast.tw9741976131871405700 : Nat := 0
def PySem.W.Fast.tw17500358238229800932 : Nat := 0
def PySem.W.Fast.tw10785631814215069862 : Nat := 0
def PySem.W.Fast.tw1223979639332986912 : Nat := 0
def PySem.W.Fast.tw17148833937236569043 : Nat := 0
def PySem.W.Fast.tw9621869073285067440 : Nat := 0
def PySem.W.Fast.tw6226370925488329789 : Nat := 0
def PySem.W.Fast.tw15617697313227301280 : Nat := 0
def PySem.W.Fast.tw17152585009222181067 : Nat := 0
def PySem.W.Fast.tw17673717742101662025 : Nat := 0
def PySem.W.Fast.tw6944954382791522454 : Nat := 0
def PySem.W.Fast.tw14154308894462669126 : Nat := 0
def PySem.W.Fast.tw4557530037928690981 : Nat := 0
def PySem.W.Fast.tw3961094923759911705 : Nat := 0
def PySem.W.Fast.tw7535129022233203089 : Nat := 0
def PySem.W.Fast.tw6168292493529292499 : Nat := 0
def PySem.W.Fast.tw16728897359218222617 : Nat := 0
def PySem.W.Fast.tw6920184422333173204 : Nat := 0
def PySem.W.Fast.tw13428684978952784133 : Nat := 0
def PySem.W.Fast.tw9552734266068739047 : Nat := 0
def PySem.W.Fast.tw17377748136516115320 : Nat := 0
def PySem.W.Fast.tw1233359374443269384 : Nat := 0
def PySem.W.Fast.tw13550318510165359676 : Nat := 0
def PySem.W.Fast.tw4495406715543561368 : Nat := 0
def PySem.W.Fast.tw9285196594819576296 : Nat := 0
def PySem.W.Fast.tw7967172920752710855 : Nat := 0
def PySem.W.Fast.tw47879858555253960 : Nat := 0
def PySem.W.Fast.tw7658103315848776246 : Nat := 0
def PySem.W.Fast.tw2736829761268162551 : Nat := 0
def PySem.W.Fast.tw13742249305766482098 : Nat := 0
def PySem.W.Fast.tw17637579052128383142 : Nat := 0
def PySem.W.Fast.tw16699129167793625731 : Nat := 0
def PySem.W.Fast.tw15639040614143867777 : Nat := 0
def PySem.W.Fast.tw2043202403431913637 : Nat := 0
def PySem.W.Fast.tw1768439476696878573 : Nat := 0
def PySem.W.Fast.tw514423873232926924 : Nat := 0
def PySem.W.Fast.tw14214393285735899713 : Nat := 0
def PySem.W.Fast.tw10021184044482886991 : Nat := 0
def PySem.W.Fast.tw596225718902060091 : Nat := 0
def PySem.W.Fast.tw10084109372269611257 : Nat := 0
def PySem.W.Fast.tw10317753156677737193 : Nat := 0
def PySem.W.Fast.tw6553295558999457695 : Nat := 0
def PySem.W.Fast.tw8560114967803111304 : Nat := 0
def PySem.W.Fast.tw3512967331099238634 : Nat := 0
def PySem.W.Fast.tw13906083987839254016 : Nat := 0
def PySem.W.Fast.tw7851218140239965493 : Nat := 0
def PySem.W.Fast.tw8881109957320410103 : Nat := 0
def PySem.W.Fast.tw1345745581828849282 : Nat := 0
def PySem.W.Fast.tw1108888293876631410 : Nat := 0
def PySem.W.Fast.tw10717756603031836971 : Nat := 0
def PySem.W.Fast.tw16858209362755093092 : Nat := 0
def PySem.W.Fast.tw4118744680278006919 : Nat := 0
def PySem.W.Fast.tw42520766771297841 : Nat := 0
def PySem.W.Fast.tw17352399949829996464 : Nat := 0
def PySem.W.Fast.tw14220870658223224264 : Nat := 0
def PySem.W.Fast.tw11165712386346614311 : Nat := 0
def PySem.W.Fast.tw335276003383189647 : Nat := 0
def PySem.W.Fast.tw2845930783855537470 : Nat := 0
def PySem.W.Fast.tw5457592434927211282 : Nat := 0
def PySem.W.Fast.tw9704879219852485257 : Nat := 0
def PySem.W.Fast.tw2851742569492539630 : Nat := 0
def PySem.W.Fast.tw15708257545399719127 : Nat := 0
def PySem.W.Fast.tw15208568312064124316 : Nat := 0
def PySem.W.Fast.tw2059955006435185977 : Nat := 0
def PySem.W.Fast.tw13745001758706589460 : Nat := 0
def PySem.W.Fast.tw17801017707779690118 : Nat := 0
def PySem.W.Fast.tw10125412399390638392 : Nat := 0
def PySem.W.Fast.tw1239990807306435717 : Nat := 0
def PySem.W.Fast.tw17731840748235731430 : Nat := 0
def PySem.W.Fast.tw7673172142582952757 : Nat := 0
def PySem.W.Fast.tw2807482152078730298 : Nat := 0
def PySem.W.Fast.tw2724223364068361023 : Nat := 0
def PySem.W.Fast.tw5998502561229069016 : Nat := 0
def PySem.W.Fast.tw4478425765793870358 : Nat := 0
def PySem.W.Fast.tw5417377557080709811 : Nat := 0
def PySem.W.Fast.tw14556130923291028858 : Nat := 0
def PySem.W.Fast.tw9092378109055084323 : Nat := 0
def PySem.W.Fast.tw12940997492008705455 : Nat := 0
def PySem.W.Fast.tw4467956876288920377 : Nat := 0
def PySem.W.Fast.tw14809610194626663136 : Nat := 0
def PySem.W.Fast.tw10620754502786960823 : Nat := 0
def PySem.W.Fast.tw17002440186483049115 : Nat := 0
def PySem.W.Fast.tw6518561436836878718 : Nat := 0
def PySem.W.Fast.tw4287973018613030220 : Nat := 0
def PySem.W.Fast.tw11151566614124070597 : Nat := 0
def PySem.W.Fast.tw14169049736889636848 : Nat := 0
def PySem.W.Fast.tw8571974420501739236 : Nat := 0
def PySem.W.Fast.tw68940254495728257 : Nat := 0
def PySem.W.Fast.tw11842690477052505089 : Nat := 0
def PySem.W.Fast.tw7684959702218916317 : Nat := 0
def PySem.W.Fast.tw7800657987501366150 : Nat := 0
def PySem.W.Fast.tw12642794042706204681 : Nat := 0
def PySem.W.Fast.tw13896566976539004166 : Nat := 0
def PySem.W.Fast.tw18381019112054829072 : Nat := 0
def PySem.W.Fast.tw15056644545024065338 : Nat := 0
def PySem.W.Fast.tw12210079927098733203 : Nat := 0
def PySem.W.Fast.tw12272713906080050523 : Nat := 0
def PySem.W.Fast.tw13704813576056502857 : Nat := 0
def PySem.W.Fast.tw6426932916833801194 : Nat := 0
def PySem.W.Fast.tw9195746187915808220 : Nat := 0
def PySem.W.Fast.tw7812816598721125761 : Nat := 0
def PySem.W.Fast.tw18270565318261900676 : Nat := 0
def PySem.W.Fast.tw15610832712353231909 : Nat := 0
def PySem.W.Fast.tw9723120157260263595 : Nat := 0
def PySem.W.Fast.tw14229726277784171895 : Nat := 0
def PySem.W.Fast.tw6047967284356392621 : Nat := 0
def PySem.W.Fast.tw9944629160606059214 : Nat := 0
def PySem.W.Fast.tw13478863898403050889 : Nat := 0
def PySem.W.Fast.tw12847832699367119502 : Nat := 0
def PySem.W.Fast.tw8480101548517580068 : Nat := 0
def PySem.W.Fast.tw13506744030802794084 : Nat := 0
def PySem.W.Fast.tw5063811014753202154 : Nat := 0
def PySem.W.Fast.tw12508070344448645399 : Nat := 0
def PySem.W.Fast.tw5186324603037250266 : Nat := 0
def PySem.W.Fast.tw18111691527682318813 : Nat := 0
def PySem.W.Fast.tw6049021468757082284 : Nat := 0
def PySem.W.Fast.tw13543728571799127089 : Nat := 0
def PySem.W.Fast.tw14740137898304193149 : Nat := 0
def PySem.W.Fast.tw12574132023059791027 : Nat := 0
def PySem.W.Fast.tw4253622863520403613 : Nat := 0
def PySem.W.Fast.tw6713389539714538206 : Nat := 0
def PySem.W.Fast.tw5632155456104314070 : Nat := 0
def PySem.W.Fast.tw14053929776949174334 : Nat := 0
def PySem.W.Fast.tw9617307936086761552 : Nat := 0
def PySem.W.Fast.tw16070333561748421764 : Nat := 0
def PySem.W.Fast.tw11659696808891047401 : Nat := 0
def PySem.W.Fast.tw573057655772376607 : Nat := 0
def PySem.W.Fast.tw2372750549493564921 : Nat := 0
def PySem.W.Fast.tw16964142355169093534 : Nat := 0
def PySem.W.Fast.tw13309444173636236083 : Nat := 0
def PySem.W.Fast.tw1173691671848504 : Nat := 0
def PySem.W.Fast.tw8893652168356621683 : Nat := 0
def PySem.W.Fast.tw14106416951988777130 : Nat := 0
def PySem.W.Fast.tw4444411852782043226 : Nat := 0
def PySem.W.Fast.tw16989347057030975651 : Nat := 0
def PySem.W.Fast.tw6119827377202187659 : Nat := 0
def PySem.W.Fast.tw6142812982001723788 : Nat := 0
def PySem.W.Fast.tw10310261655498249674 : Nat := 0
def PySem.W.Fast.tw1448244905610794274 : Nat := 0
def PySem.W.Fast.tw8972716537178861895 : Nat := 0
def PySem.W.Fast.tw9339329413777179236 : Nat := 0
def PySem.W.Fast.tw2086486415437894982 : Nat := 0
def PySem.W.Fast.tw2651132752326565050 : Nat := 0
def PySem.W.Fast.tw4044830026759485935 : Nat := 0
def PySem.W.Fast.tw1227324156988266253 : Nat := 0
def PySem.W.Fast.tw12497817747064372977 : Nat := 0
def PySem.W.Fast.tw6983032663577803391 : Nat := 0
def PySem.W.Fast.tw5871773885936337062 : Nat := 0
def PySem.W.Fast.tw17171700539014295757 : Nat := 0
def PySem.W.Fast.tw3791127817762481647 : Nat := 0
def PySem.W.Fast.tw10386525035316306046 : Nat := 0
def PySem.W.Fast.tw9865107214727421751 : Nat := 0
def PySem.W.Fast.tw1377753908816856992 : Nat := 0
def PySem.W.Fast.tw675566238442744440 : Nat := 0
def PySem.W.Fast.tw3273502555221287901 : Nat := 0
def PySem.W.Fast.tw14036538209850428332 : Nat := 0
def PySem.W.Fast.tw297029345526545919 : Nat := 0
def PySem.W.Fast.tw783831197921040796 : Nat := 0
def PySem.W.Fast.tw2583775116296918058 : Nat := 0
def PySem.W.Fast.tw15225761862748232100 : Nat := 0
def PySem.W.Fast.tw5393360751844541778 : Nat := 0
def PySem.W.Fast.tw17279858517980490745 : Nat := 0
def PySem.W.Fast.tw12677643439694425835 : Nat := 0
def PySem.W.Fast.tw58225087695440066 : Nat := 0
def PySem.W.Fast.tw5869317139891036445 : Nat := 0
def PySem.W.Fast.tw12809609862453843164 : Nat := 0
def PySem.W.Fast.tw819448004491916186 : Nat := 0
def PySem.W.Fast.tw8591172775721095576 : Nat := 0
def PySem.W.Fast.tw781705652262949290 : Nat := 0
def PySem.W.Fast.tw6273409193694995568 : Nat := 0
def PySem.W.Fast.tw4078869022302716725 : Nat := 0
def PySem.W.Fast.tw15135692794192929777 : Nat := 0
def PySem.W.Fast.tw1770028151166060183 : Nat := 0
def PySem.W.Fast.tw11850064042616793090 : Nat := 0
def PySem.W.Fast.tw17218746340267524773 : Nat := 0
def PySem.W.Fast.tw5845706317195748435 : Nat := 0
def PySem.W.Fast.tw13304821825751849533 : Nat := 0
def PySem.W.Fast.tw1489971968773099174 : Nat := 0
def PySem.W.Fast.tw2938450050752483743 : Nat := 0
def PySem.W.Fast.tw15500157628086048857 : Nat := 0
def PySem.W.Fast.tw18229283672440875990 : Nat := 0
def PySem.W.Fast.tw4478912235636363845 : Nat := 0
def PySem.W.Fast.tw1732867413488422810 : Nat := 0
def PySem.W.Fast.tw5226284396933791750 : Nat := 0
def PySem.W.Fast.tw16026095877365297693 : Nat := 0
def PySem.W.Fast.tw17177979159296095476 : Nat := 0
def PySem.W.Fast.tw5436495532971230822 : Nat := 0
def PySem.W.Fast.tw766917856140196393 : Nat := 0
def PySem.W.Fast.tw6199265288240770942 : Nat := 0
def PySem.W.Fast.tw6682514038440800287 : Nat := 0
def PySem.W.Fast.tw12295993766063282825 : Nat := 0
def PySem.W.Fast.tw16080575659216256290 : Nat := 0
def PySem.W.Fast.tw1381625540747740999 : Nat := 0
def PySem.W.Fast.tw17158492786395680618 : Nat := 0
def PySem.W.Fast.tw3224795044216439959 : Nat := 0
def PySem.W.Fast.tw3653560258947341380 : Nat := 0
def PySem.W.Fast.tw13108852491803777031 : Nat := 0
def PySem.W.Fast.tw3443963035337888686 : Nat := 0
def PySem.W.Fast.tw14289253803461214821 : Nat := 0
def PySem.W.Fast.tw5830583621721905187 : Nat := 0
def PySem.W.Fast.tw7977530566749668946 : Nat := 0
def PySem.W.Fast.tw13740294984459744748 : Nat := 0
def PySem.W.Fast.tw2030986468088455463 : Nat := 0
def PySem.W.Fast.tw2198354579467112736 : Nat := 0
def PySem.W.Fast.tw5431112886323914425 : Nat := 0
def PySem.W.Fast.tw5775271020727641559 : Nat := 0
def PySem.W.Fast.tw11057465359333143749 : Nat := 0
def PySem.W.Fast.tw15296354853222020589 : Nat := 0
def PySem.W.Fast.tw9366873469920919326 : Nat := 0
def PySem.W.Fast.tw2954366938891265560 : Nat := 0
def PySem.W.Fast.tw13421237679420353047 : Nat := 0
def PySem.W.Fast.tw3282933481541813353 : Nat := 0
def PySem.W.Fast.tw13036569759206980481 : Nat := 0
def PySem.W.Fast.tw3699051610923262682 : Nat := 0
def PySem.W.Fast.tw13313565363962564380 : Nat := 0
def PySem.W.Fast.tw10016759169708858244 : Nat := 0
def PySem.W.Fast.tw9368351190871655166 : Nat := 0
def PySem.W.Fast.tw14181958778875529289 : Nat := 0
def PySem.W.Fast.tw9963931974708743775 : Nat := 0
def PySem.W.Fast.tw2878471925317031557 : Nat := 0
def PySem.W.Fast.tw9648442837288843014 : Nat := 0
def PySem.W.Fast.tw16378016008792942413 : Nat := 0
def PySem.W.Fast.tw3795014057556896533 : Nat := 0
def PySem.W.Fast.tw9626473095991639015 : Nat := 0
def PySem.W.Fast.tw16384940071362494166 : Nat := 0
def PySem.W.Fast.tw3400628024035603812 : Nat := 0
def PySem.W.Fast.tw17840308477171279749 : Nat := 0
def PySem.W.Fast.tw1672432491900960899 : Nat := 0
def PySem.W.Fast.tw944894833707428258 : Nat := 0
def PySem.W.Fast.tw7553846471290726978 : Nat := 0
def PySem.W.Fast.tw5416573497655318975 : Nat := 0
def PySem.W.Fast.tw9939269516318878321 : Nat := 0
def PySem.W.Fast.tw4518842278343196412 : Nat := 0
def PySem.W.Fast.tw5071916630330776590 : Nat := 0
def PySem.W.Fast.tw17444626051024704942 : Nat := 0
def PySem.W.Fast.tw1047945616327520938 : Nat := 0
def PySem.W.Fast.tw15724090425439077158 : Nat := 0
def PySem.W.Fast.tw1306326705765242833 : Nat := 0
def PySem.W.Fast.tw1525351161958458139 : Nat := 0
def PySem.W.Fast.tw5024082163521227688 : Nat := 0
def PySem.W.Fast.tw10936245662866139895 : Nat := 0
def PySem.W.Fast.tw8535322352673673509 : Nat := 0
def PySem.W.Fast.tw8608740259326892601 : Nat := 0
def PySem.W.Fast.tw15604539125286263400 : Nat := 0
def PySem.W.Fast.tw6414864974697952957 : Nat := 0
def PySem.W.Fast.tw16140252800961730765 : Nat := 0
def PySem.W.Fast.tw15474106732558521069 : Nat := 0
def PySem.W.Fast.tw9898225773291256749 : Nat := 0
def PySem.W.Fast.tw7273939885622407724 : Nat := 0
def PySem.W.Fast.tw3161759432538307825 : Nat := 0
def PySem.W.Fast.tw7161128641850748338 : Nat := 0
def PySem.W.Fast.tw10896791486529733518 : Nat := 0
def PySem.W.Fast.tw9698584452044809503 : Nat := 0
def PySem.W.Fast.tw6306406775225727651 : Nat := 0
def PySem.W.Fast.tw17538487286248264741 : Nat := 0
def PySem.W.Fast.tw4804971481562272848 : Nat := 0
def PySem.W.Fast.tw8056223546508698389 : Nat := 0
def PySem.W.Fast.tw13636519216941380044 : Nat := 0
def PySem.W.Fast.tw15282184250815111770 : Nat := 0
def PySem.W.Fast.tw17241827843172035392 : Nat := 0
def PySem.W.Fast.tw11093520165265472807 : Nat := 0
def PySem.W.Fast.tw5697251470287359280 : Nat := 0
def PySem.W.Fast.tw12736732767828583677 : Nat := 0
def PySem.W.Fast.tw2563298201130871461 : Nat := 0
def PySem.W.Fast.tw378010223362380361 : Nat := 0
def PySem.W.Fast.tw7159149270231286283 : Nat := 0
def PySem.W.Fast.tw9714900039590789053 : Nat := 0
def PySem.W.Fast.tw14293208622011689347 : Nat := 0
def PySem.W.Fast.tw9326122235321233299 : Nat := 0
def PySem.W.Fast.tw12742384076590709484 : Nat := 0
def PySem.W.Fast.tw1149427492791622564 : Nat := 0
def PySem.W.Fast.tw418664402781376139 : Nat := 0
def PySem.W.Fast.tw12482997877434183307 : Nat := 0
def PySem.W.Fast.tw16995585264680405383 : Nat := 0
def PySem.W.Fast.tw4617063955237129537 : Nat := 0
def PySem.W.Fast.tw3415662039963477449 : Nat := 0
def PySem.W.Fast.tw17660846639440049384 : Nat := 0
def PySem.W.Fast.tw184775032280099081 : Nat := 0
def PySem.W.Fast.tw118113105595733603 : Nat := 0
def PySem.W.Fast.tw11171952467266422217 : Nat := 0
def PySem.W.Fast.tw15951624887151462053 : Nat := 0
def PySem.W.Fast.tw11642514647163105394 : Nat := 0
def PySem.W.Fast.tw3990517033652462191 : Nat := 0
def PySem.W.Fast.tw7201274911529711069 : Nat := 0
def PySem.W.Fast.tw9373407808020748405 : Nat := 0
def PySem.W.Fast.tw15284532731715095319 : Nat := 0
def PySem.W.Fast.tw15453626082454449875 : Nat := 0
def PySem.W.Fast.tw15176236936741808376 : Nat := 0
def PySem.W.Fast.tw12998408880507431036 : Nat := 0
def PySem.W.Fast.tw1475699770843429329 : Nat := 0
def PySem.W.Fast.tw2468727642375632563 : Nat := 0
def PySem.W.Fast.tw12962074608792326503 : Nat := 0
def PySem.W.Fast.tw11036733500308601820 : Nat := 0
def PySem.W.Fast.tw9143254423361863386 : Nat := 0
def PySem.W.Fast.tw15262001727376567281 : Nat := 0
def PySem.W.Fast.tw2739470197065642551 : Nat := 0
def PySem.W.Fast.tw7639054728282832012 : Nat := 0
def PySem.W.Fast.tw2896498483348607727 : Nat := 0
def PySem.W.Fast.tw8453962516701239139 : Nat := 0
def PySem.W.Fast.tw14194609930166838547 : Nat := 0
def PySem.W.Fast.tw4003899565734994808 : Nat := 0
def PySem.W.Fast.tw6635003416410602348 : Nat := 0
def PySem.W.Fast.tw14371932112733087858 : Nat := 0
def PySem.W.Fast.tw17012385099705110575 : Nat := 0
def PySem.W.Fast.tw17798832501711992060 : Nat := 0
def PySem.W.Fast.tw18209930495551119281 : Nat := 0
def PySem.W.Fast.tw7880411188971496772 : Nat := 0
def PySem.W.Fast.tw6546052782695606039 : Nat := 0
def PySem.W.Fast.tw11404112263275093628 : Nat := 0
def PySem.W.Fast.tw2614148845762921395 : Nat := 0
def PySem.W.Fast.tw12573777393508645031 : Nat := 0
def PySem.W.Fast.tw7252398922773800300 : Nat := 0
def PySem.W.Fast.tw8554068161103330741 : Nat := 0
def PySem.W.Fast.tw5345883365678918524 : Nat := 0
def PySem.W.Fast.tw13717847017749564383 : Nat := 0
def PySem.W.Fast.tw10685933828798953945 : Nat := 0
def PySem.W.Fast.tw10781908356776021926 : Nat := 0
def PySem.W.Fast.tw646341773082926029 : Nat := 0
def PySem.W.Fast.tw1342709503984126525 : Nat := 0
def PySem.W.Fast.tw6729041087675500014 : Nat := 0
def PySem.W.Fast.tw13776996362935046600 : Nat := 0
def PySem.W.Fast.tw6801054261137403603 : Nat := 0
def PySem.W.Fast.tw5689416139194355424 : Nat := 0
def PySem.W.Fast.tw13013883041337206887 : Nat := 0
def PySem.W.Fast.tw13463351702742505958 : Nat := 0
def PySem.W.Fast.tw11195269291001456091 : Nat := 0
def PySem.W.Fast.tw17593102290260077785 : Nat := 0
def PySem.W.Fast.tw14330783349098046252 : Nat := 0
def PySem.W.Fast.tw12163278897857905018 : Nat := 0
def PySem.W.Fast.tw10705276836074658318 : Nat := 0
def PySem.W.Fast.tw3671713796376270065 : Nat := 0
def PySem.W.Fast.tw11476610762049283596 : Nat := 0
def PySem.W.Fast.tw8966631004380096306 : Nat := 0
def PySem.W.Fast.tw18269527268844261972 : Nat := 0
def PySem.W.Fast.tw8075690231137097024 : Nat := 0
def PySem.W.Fast.tw12053895899843993915 : Nat := 0
def PySem.W.Fast.tw15237501645013311381 : Nat := 0
def PySem.W.Fast.tw6428567651206767812 : Nat := 0
def PySem.W.Fast.tw13061528706864657765 : Nat := 0
def PySem.W.Fast.tw850521794289453139 : Nat := 0
def PySem.W.Fast.tw12878625643035582094 : Nat := 0
def PySem.W.Fast.tw1821112377291529280 : Nat := 0
def PySem.W.Fast.tw9202998518872288027 : Nat := 0
def PySem.W.Fast.tw5841265772481816690 : Nat := 0
def PySem.W.Fast.tw9775325199594106285 : Nat := 0
def PySem.W.Fast.tw15060223102831373328 : Nat := 0
def PySem.W.Fast.tw15618495435975503193 : Nat := 0
def PySem.W.Fast.tw4812733582888620689 : Nat := 0
def PySem.W.Fast.tw11130931467146790122 : Nat := 0
def PySem.W.Fast.tw11754664929664371862 : Nat := 0
def PySem.W.Fast.tw6288664996739031905 : Nat := 0
def PySem.W.Fast.tw17229940214126871319 : Nat := 0
def PySem.W.Fast.tw18007912060336281624 : Nat := 0
def PySem.W.Fast.tw10885790742283964341 : Nat := 0
def PySem.W.Fast.tw11916847045713984687 : Nat := 0
def PySem.W.Fast.tw7473940833128563017 : Nat := 0
def PySem.W.Fast.tw17612561492833242852 : Nat := 0
def PySem.W.Fast.tw11753226404617497317 : Nat := 0
def PySem.W.Fast.tw2519733934930789667 : Nat := 0
def PySem.W.Fast.tw678246277241979127 : Nat := 0
def PySem.W.Fast.tw7377382045465560900 : Nat := 0
def PySem.W.Fast.tw14554885032354538433 : Nat := 0
def PySem.W.Fast.tw8682508423611075916 : Nat := 0
def PySem.W.Fast.tw17156668937651687159 : Nat := 0
def PySem.W.Fast.tw4713154599532491196 : Nat := 0
def PySem.W.Fast.tw8045340580916202707 : Nat := 0
def PySem.W.Fast.tw12412765193989571471 : Nat := 0
def PySem.W.Fast.tw7022213331555513686 : Nat := 0
def PySem.W.Fast.tw880186821878725941 : Nat := 0
def PySem.W.Fast.tw4744465922476435011 : Nat := 0
def PySem.W.Fast.tw5935472826055148371 : Nat := 0
def PySem.W.Fast.tw5208475498987977682 : Nat := 0
def PySem.W.Fast.tw17393499871663071808 : Nat := 0
def PySem.W.Fast.tw11290697833978846072 : Nat := 0
def PySem.W.Fast.tw16474553823732484550 : Nat := 0
def PySem.W.Fast.tw10701463426496776273 : Nat := 0
def PySem.W.Fast.tw11163242752340314691 : Nat := 0
def PySem.W.Fast.tw8851308412181096555 : Nat := 0
def PySem.W.Fast.tw3445630737179522334 : Nat := 0
def PySem.W.Fast.tw17961619696115354982 : Nat := 0
def PySem.W.Fast.tw18089506489105820663 : Nat := 0
def PySem.W.Fast.tw928880083159263851 : Nat := 0
def PySem.W.Fast.tw1885458380723494228 : Nat := 0
def PySem.W.Fast.tw12457855498144029162 : Nat := 0
def PySem.W.Fast.tw5478396633282699864 : Nat := 0
def PySem.W.Fast.tw2669375098962629726 : Nat := 0
def PySem.W.Fast.tw8242807055741244725 : Nat := 0
def PySem.W.Fast.tw7396499891649896452 : Nat := 0
def PySem.W.Fast.tw6458816846915816721 : Nat := 0
def PySem.W.Fast.tw6501692014565498678 : Nat := 0
def PySem.W.Fast.tw15506536580354340590 : Nat := 0
def PySem.W.Fast.tw14343655294718525897 : Nat := 0
def PySem.W.Fast.tw14063677529576077531 : Nat := 0
def PySem.W.Fast.tw11990732853666024835 : Nat := 0
def PySem.W.Fast.tw11705721131802294681 : Nat := 0
def PySem.W.Fast.tw4722866866170245715 : Nat := 0
def PySem.W.Fast.tw8743731092177044208 : Nat := 0
def PySem.W.Fast.tw7288811607356640753 : Nat := 0
def PySem.W.Fast.tw10622611670181001622 : Nat := 0
def PySem.W.Fast.tw5330635319693751009 : Nat := 0
def PySem.W.Fast.tw17085726176583944347 : Nat := 0
def PySem.W.Fast.tw4765614007361305169 : Nat := 0
def PySem.W.Fast.tw5785334994709325814 : Nat := 0
def PySem.W.Fast.tw2080704469851593857 : Nat := 0
def PySem.W.Fast.tw16655355254249032475 : Nat := 0
def PySem.W.Fast.tw18341956497290528388 : Nat := 0
def PySem.W.Fast.tw11381191456493570904 : Nat := 0
def PySem.W.Fast.tw11955422662202268938 : Nat := 0
def PySem.W.Fast.tw8955321290005171403 : Nat := 0
def PySem.W.Fast.tw17612197350080723206 : Nat := 0
def PySem.W.Fast.tw14861519412634846224 : Nat := 0
def PySem.W.Fast.tw5819088702569004869 : Nat := 0
def PySem.W.Fast.tw4136765155382192483 : Nat := 0
def PySem.W.Fast.tw16780497073808061288 : Nat := 0
def PySem.W.Fast.tw11648317555289575117 : Nat := 0
def PySem.W.Fast.tw12276236802438601142 : Nat := 0
def PySem.W.Fast.tw15976797213880528172 : Nat := 0
def PySem.W.Fast.tw13033435760062339593 : Nat := 0
def PySem.W.Fast.tw9360083667251523101 : Nat := 0
def PySem.W.Fast.tw9890694413557799919 : Nat := 0
def PySem.W.Fast.tw6776753883047626886 : Nat := 0
def PySem.W.Fast.tw16275658205135048325 : Nat := 0
def PySem.W.Fast.tw7512303331391987425 : Nat := 0
def PySem.W.Fast.tw10404197879792609793 : Nat := 0
def PySem.W.Fast.tw16715233690245010210 : Nat := 0
def PySem.W.Fast.tw14304340468955784219 : Nat := 0
def PySem.W.Fast.tw10121896292011178511 : Nat := 0
def PySem.W.Fast.tw4901551683113804612 : Nat := 0
def PySem.W.Fast.tw14824835834148506942 : Nat := 0
def PySem.W.Fast.tw15212313296512834029 : Nat := 0
def PySem.W.Fast.tw59806503760070700 : Nat := 0
def PySem.W.Fast.tw4659098338762888506 : Nat := 0
def PySem.W.Fast.tw13225016415825841907 : Nat := 0
def PySem.W.Fast.tw590127215074106558 : Nat := 0
def PySem.W.Fast.tw3442988988656823239 : Nat := 0
def PySem.W.Fast.tw7643169546158753117 : Nat := 0
def PySem.W.Fast.tw3656759701901291996 : Nat := 0
def PySem.W.Fast.tw5254227172852003533 : Nat := 0
def PySem.W.Fast.tw6423434979414909115 : Nat := 0
def PySem.W.Fast.tw5179378823714640650 : Nat := 0
def PySem.W.Fast.tw14097301828268236489 : Nat := 0
def PySem.W.Fast.tw6716302989927847460 : Nat := 0
def PySem.W.Fast.tw14472733818743345187 : Nat := 0
def PySem.W.Fast.tw13469931718829398388 : Nat := 0
def PySem.W.Fast.tw13225431935321437268 : Nat := 0
def PySem.W.Fast.tw6269560867707188040 : Nat := 0
def PySem.W.Fast.tw16730463354198738360 : Nat := 0
def PySem.W.Fast.tw18235354270035077272 : Nat := 0
def PySem.W.Fast.tw12201612329773956355 : Nat := 0
def PySem.W.Fast.tw14799452296904939557 : Nat := 0
def PySem.W.Fast.tw13537121215757666240 : Nat := 0
def PySem.W.Fast.tw17540727272233198824 : Nat := 0
def PySem.W.Fast.tw14941562605516792870 : Nat := 0
def PySem.W.Fast.tw3491666900356920165 : Nat := 0
def PySem.W.Fast.tw9498391465049092596 : Nat := 0
def PySem.W.Fast.tw6190331350690256137 : Nat := 0
def PySem.W.Fast.tw4171846269984201087 : Nat := 0
def PySem.W.Fast.tw7071689266133643370 : Nat := 0
def PySem.W.Fast.tw17372466335952009337 : Nat := 0
def PySem.W.Fast.tw15181315738376796891 : Nat := 0
def PySem.W.Fast.tw9215508717348972857 : Nat := 0
def PySem.W.Fast.tw7872221538933304451 : Nat := 0
def PySem.W.Fast.tw15667631861531418207 : Nat := 0
def PySem.W.Fast.tw2730991877354907970 : Nat := 0
def PySem.W.Fast.tw11839143264390835480 : Nat := 0
def PySem.W.Fast.tw3297092636459634059 : Nat := 0
def PySem.W.Fast.tw15311114885101746217 : Nat := 0
def PySem.W.Fast.tw8427219327087175700 : Nat := 0
def PySem.W.Fast.tw11142199936654561421 : Nat := 0
def PySem.W.Fast.tw7258739253660598965 : Nat := 0
def PySem.W.Fast.tw2681789237366831634 : Nat := 0
def PySem.W.Fast.tw14315388489545279361 : Nat := 0
def PySem.W.Fast.tw12026049481804577904 : Nat := 0
def PySem.W.Fast.tw11098146529997963335 : Nat := 0
def PySem.W.Fast.tw14983317372693852674 : Nat := 0
def PySem.W.Fast.tw7991639849445280479 : Nat := 0
def PySem.W.Fast.tw3116930883064045776 : Nat := 0
def PySem.W.Fast.tw1822974506041309092 : Nat := 0
def PySem.W.Fast.tw11762923297947108627 : Nat := 0
def PySem.W.Fast.tw11378205244579141416 : Nat := 0
def PySem.W.Fast.tw8703180798533479688 : Nat := 0
def PySem.W.Fast.tw8071617512049295698 : Nat := 0
def PySem.W.Fast.tw9369831423395023767 : Nat := 0
def PySem.W.Fast.tw15734866978699938067 : Nat := 0
def PySem.W.Fast.tw12704927957155465168 : Nat := 0
def PySem.W.Fast.tw17040662001906922247 : Nat := 0
def PySem.W.Fast.tw14095106678005445580 : Nat := 0
def PySem.W.Fast.tw1365818246371200953 : Nat := 0
def PySem.W.Fast.tw10731019061679708117 : Nat := 0
def PySem.W.Fast.tw11437266533538931259 : Nat := 0
def PySem.W.Fast.tw7339225419987063604 : Nat := 0
def PySem.W.Fast.tw5952777209119527180 : Nat := 0
def PySem.W.Fast.tw7379092944437800495 : Nat := 0
def PySem.W.Fast.tw16776407538280788128 : Nat := 0
def PySem.W.Fast.tw15286623089456371887 : Nat := 0
def PySem.W.Fast.tw17134934243012630923 : Nat := 0
def PySem.W.Fast.tw14222324110795746380 : Nat := 0
def PySem.W.Fast.tw18012212639287899461 : Nat := 0
def PySem.W.Fast.tw11676775322580604379 : Nat := 0
def PySem.W.Fast.tw4697515224481108598 : Nat := 0
def PySem.W.Fast.tw4010228851972132302 : Nat := 0
def PySem.W.Fast.tw16875742574177749100 : Nat := 0
def PySem.W.Fast.tw7577927609872648052 : Nat := 0
def PySem.W.Fast.tw6752190924774501847 : Nat := 0
def PySem.W.Fast.tw6595758339751515348 : Nat := 0
def PySem.W.Fast.tw13377257789952949818 : Nat := 0
def PySem.W.Fast.tw7645048588543805879 : Nat := 0
def PySem.W.Fast.tw13280065605555403310 : Nat := 0
def PySem.W.Fast.tw3355455760477111989 : Nat := 0
def PySem.W.Fast.tw9739776456780551679 : Nat := 0
def PySem.W.Fast.tw5645321136202697212 : Nat := 0
def PySem.W.Fast.tw4094434840575560955 : Nat := 0
def PySem.W.Fast.tw4177460264506195656 : Nat := 0
def PySem.W.Fast.tw1782447949205039047 : Nat := 0
def PySem.W.Fast.tw9561573017883023001 : Nat := 0
def PySem.W.Fast.tw4443566501085961402 : Nat := 0
def PySem.W.Fast.tw6720691986469655249 : Nat := 0
def PySem.W.Fast.tw5196073320028598397 : Nat := 0
def PySem.W.Fast.tw18002249952947422206 : Nat := 0
def PySem.W.Fast.tw9279065042551088419 : Nat := 0
def PySem.W.Fast.tw11861296525803571926 : Nat := 0
def PySem.W.Fast.tw17629371747514759364 : Nat := 0
def PySem.W.Fast.tw4091053896734883489 : Nat := 0
def PySem.W.Fast.tw16044030675688630542 : Nat := 0
def PySem.W.Fast.tw13306690554318668004 : Nat := 0
def PySem.W.Fast.tw5557471395859730723 : Nat := 0
def PySem.W.Fast.tw1042918561224137799 : Nat := 0
def PySem.W.Fast.tw15407144606741028808 : Nat := 0
def PySem.W.Fast.tw14003468890892380042 : Nat := 0
def PySem.W.Fast.tw1843264053188844337 : Nat := 0
def PySem.W.Fast.tw660982789496737613 : Nat := 0
def PySem.W.Fast.tw4029757376266253913 : Nat := 0
def PySem.W.Fast.tw9170875882227383537 : Nat := 0
def PySem.W.Fast.tw2729375814066558749 : Nat := 0
def PySem.W.Fast.tw2540709853674613761 : Nat := 0
def PySem.W.Fast.tw13813856501606588998 : Nat := 0
def PySem.W.Fast.tw3140418076330091055 : Nat := 0
def PySem.W.Fast.tw11998065906527982724 : Nat := 0
def PySem.W.Fast.tw6045770665267967 : Nat := 0
def PySem.W.Fast.tw10772872557079401833 : Nat := 0
def PySem.W.Fast.tw16047730609980011028 : Nat := 0
def PySem.W.Fast.tw11567885542316315813 : Nat := 0
def PySem.W.Fast.tw8172532366315380163 : Nat := 0
def PySem.W.Fast.tw9644060016440768727 : Nat := 0
def PySem.W.Fast.tw12193251671252297859 : Nat := 0
def PySem.W.Fast.tw15656363259550727323 : Nat := 0
def PySem.W.Fast.tw5880664549350561903 : Nat := 0
def PySem.W.Fast.tw5414145811847868531 : Nat := 0
def PySem.W.Fast.tw10887613738073959614 : Nat := 0
def PySem.W.Fast.tw12394114055018659369 : Nat := 0
def PySem.W.Fast.tw13013335516253809010 : Nat := 0
def PySem.W.Fast.tw12849577686350341089 : Nat := 0
def PySem.W.Fast.tw3120679214077339432 : Nat := 0
def PySem.W.Fast.tw1791889237099065829 : Nat := 0
def PySem.W.Fast.tw16486817970771468341 : Nat := 0
def PySem.W.Fast.tw10659237447703552255 : Nat := 0
def PySem.W.Fast.tw10579075460760585687 : Nat := 0
def PySem.W.Fast.tw16308190002189823679 : Nat := 0
def PySem.W.Fast.tw2167592934430699125 : Nat := 0
def PySem.W.Fast.tw11152648926479045468 : Nat := 0
def PySem.W.Fast.tw16324695559730424153 : Nat := 0
def PySem.W.Fast.tw8122416783233413594 : Nat := 0
def PySem.W.Fast.tw6135210928511222152 : Nat := 0
def PySem.W.Fast.tw11216022471293989984 : Nat := 0
def PySem.W.Fast.tw15010068320304261543 : Nat := 0
def PySem.W.Fast.tw13618801554654816449 : Nat := 0
def PySem.W.Fast.tw11233110351031308238 : Nat := 0
def PySem.W.Fast.tw674269198906601212 : Nat := 0
def PySem.W.Fast.tw13036773108338940626 : Nat := 0
def PySem.W.Fast.tw11275221319976182827 : Nat := 0
def PySem.W.Fast.tw17463472993694345099 : Nat := 0
def PySem.W.Fast.tw476842875072384737 : Nat := 0
def PySem.W.Fast.tw11494698217791276347 : Nat := 0
def PySem.W.Fast.tw3532948988912629739 : Nat := 0
def PySem.W.Fast.tw3005362321051122713 : Nat := 0
def PySem.W.Fast.tw6823957475618829213 : Nat := 0
def PySem.W.Fast.tw2193230491495899026 : Nat := 0
def PySem.W.Fast.tw14094761664508264989 : Nat := 0
def PySem.W.Fast.tw17721089568633973662 : Nat := 0
def PySem.W.Fast.tw10151945700023544733 : Nat := 0
def PySem.W.Fast.tw5176795047810753905 : Nat := 0
def PySem.W.Fast.tw6404957327820017552 : Nat := 0
def PySem.W.Fast.tw18210028032886593890 : Nat := 0
def PySem.W.Fast.tw11948737483970356865 : Nat := 0
def PySem.W.Fast.tw14367663623104590991 : Nat := 0
def PySem.W.Fast.tw7519974659640913324 : Nat := 0
def PySem.W.Fast.tw1218321981255226328 : Nat := 0
def PySem.W.Fast.tw459555736876766366 : Nat := 0
def PySem.W.Fast.tw11923609873839780846 : Nat := 0
def PySem.W.Fast.tw12842011052903820524 : Nat := 0
def PySem.W.Fast.tw4884429756404306688 : Nat := 0
def PySem.W.Fast.tw7419984894394523206 : Nat := 0
def PySem.W.Fast.tw9726795633057917939 : Nat := 0
def PySem.W.Fast.tw15569114180199230166 : Nat := 0
def PySem.W.Fast.tw14765168605376163467 : Nat := 0
def PySem.W.Fast.tw3406962680924278794 : Nat := 0
def PySem.W.Fast.tw9181316621073366606 : Nat := 0
def PySem.W.Fast.tw16874997658672354767 : Nat := 0
def PySem.W.Fast.tw13760771479372963773 : Nat := 0
def PySem.W.Fast.tw340667443460456250 : Nat := 0
def PySem.W.Fast.tw13493979852788843906 : Nat := 0
def PySem.W.Fast.tw11762404092763830839 : Nat := 0
def PySem.W.Fast.tw11266797726747409097 : Nat := 0
def PySem.W.Fast.tw14663134744560283446 : Nat := 0
def PySem.W.Fast.tw1276671697210363204 : Nat := 0
def PySem.W.Fast.tw14251585231534505394 : Nat := 0
def PySem.W.Fast.tw4788838135060837688 : Nat := 0
def PySem.W.Fast.tw16800590714020193819 : Nat := 0
def PySem.W.Fast.tw16998034898225218985 : Nat := 0
def PySem.W.Fast.tw11750790017479891669 : Nat := 0
def PySem.W.Fast.tw4285589737855039050 : Nat := 0
def PySem.W.Fast.tw3182776976178427390 : Nat := 0
def PySem.W.Fast.tw6902854619548107875 : Nat := 0
def PySem.W.Fast.tw16479041012781623578 : Nat := 0
def PySem.W.Fast.tw11528648202954134962 : Nat := 0
def PySem.W.Fast.tw6089944736034307764 : Nat := 0
def PySem.W.Fast.tw1581189158009349257 : Nat := 0
def PySem.W.Fast.tw2018975796050418621 : Nat := 0
def PySem.W.Fast.tw13374405923830090153 : Nat := 0
def PySem.W.Fast.tw1761161806553306980 : Nat := 0
def PySem.W.Fast.tw5372634742423325139 : Nat := 0
def PySem.W.Fast.tw7529193859925728613 : Nat := 0
def PySem.W.Fast.tw15885909596513619405 : Nat := 0
def PySem.W.Fast.tw7885017969340965472 : Nat := 0
def PySem.W.Fast.tw13390015597038532603 : Nat := 0
def PySem.W.Fast.tw8434390665563778640 : Nat := 0
def PySem.W.Fast.tw8394657926310576722 : Nat := 0
def PySem.W.Fast.tw16723108220723394626 : Nat := 0
def PySem.W.Fast.tw18296976317403329908 : Nat := 0
def PySem.W.Fast.tw3567598675574989946 : Nat := 0
def PySem.W.Fast.tw13567281349472527769 : Nat := 0
def PySem.W.Fast.tw17105982995425684711 : Nat := 0
def PySem.W.Fast.tw16653187439742422565 : Nat := 0
def PySem.W.Fast.tw3532890159560632728 : Nat := 0
def PySem.W.Fast.tw7063707027335036185 : Nat := 0
def PySem.W.Fast.tw11530940137904019373 : Nat := 0
def PySem.W.Fast.tw11868980911593363783 : Nat := 0
def PySem.W.Fast.tw14000957369969310617 : Nat := 0
def PySem.W.Fast.tw5669910620729331153 : Nat := 0
def PySem.W.Fast.tw6069558299219139809 : Nat := 0
def PySem.W.Fast.tw13810958459050006329 : Nat := 0
def PySem.W.Fast.tw3205890416173700442 : Nat := 0
def PySem.W.Fast.tw7800388015562153757 : Nat := 0
def PySem.W.Fast.tw2907543833064306427 : Nat := 0
def PySem.W.Fast.tw13075303594575131823 : Nat := 0
def PySem.W.Fast.tw6952092583900992840 : Nat := 0
def PySem.W.Fast.tw14273575281088397215 : Nat := 0
def PySem.W.Fast.tw11668194632721795807 : Nat := 0
def PySem.W.Fast.tw14577701873153229557 : Nat := 0
def PySem.W.Fast.tw7151497898249539866 : Nat := 0
def PySem.W.Fast.tw15980241258118319005 : Nat := 0
def PySem.W.Fast.tw2972625304146176729 : Nat := 0
def PySem.W.Fast.tw17946640262079015435 : Nat := 0
def PySem.W.Fast.tw14876147431821431532 : Nat := 0
def PySem.W.Fast.tw14608404746729498702 : Nat := 0
def PySem.W.Fast.tw7488739304965218919 : Nat := 0
def PySem.W.Fast.tw4136551084899865851 : Nat := 0
def PySem.W.Fast.tw8232901814073694696 : Nat := 0
def PySem.W.Fast.tw15541341890043899620 : Nat := 0
def PySem.W.Fast.tw11182685510001998775 : Nat := 0
def PySem.W.Fast.tw11033299131028715698 : Nat := 0
def PySem.W.Fast.tw17467269872565315014 : Nat := 0
def PySem.W.Fast.tw8062328902551701779 : Nat := 0
def PySem.W.Fast.tw10440900732895179539 : Nat := 0
def PySem.W.Fast.tw12140826748410309322 : Nat := 0
def PySem.W.Fast.tw3422097944472593563 : Nat := 0
def PySem.W.Fast.tw1168834101186846118 : Nat := 0
def PySem.W.Fast.tw4090543895711937801 : Nat := 0
def PySem.W.Fast.tw4122781765720714192 : Nat := 0
def PySem.W.Fast.tw3847195960103684961 : Nat := 0
def PySem.W.Fast.tw3230653987330479524 : Nat := 0
def PySem.W.Fast.tw2102671558590108413 : Nat := 0
def PySem.W.Fast.tw1223422377667227620 : Nat := 0
def PySem.W.Fast.tw6133414259105638149 : Nat := 0
def PySem.W.Fast.tw11602726237545967875 : Nat := 0
def PySem.W.Fast.tw8355721206699353038 : Nat := 0
def PySem.W.Fast.tw5908228809978303403 : Nat := 0
def PySem.W.Fast.tw7028999219311615149 : Nat := 0
def PySem.W.Fast.tw13790816382208906139 : Nat := 0
def PySem.W.Fast.tw11096565334248234932 : Nat := 0
def PySem.W.Fast.tw7336016955511361076 : Nat := 0
def PySem.W.Fast.tw11069629808683712357 : Nat := 0
def PySem.W.Fast.tw15359267295406388005 : Nat := 0
def PySem.W.Fast.tw10965834646788529662 : Nat := 0
def PySem.W.Fast.tw7173049415489076482 : Nat := 0
def PySem.W.Fast.tw596172981311168280 : Nat := 0
def PySem.W.Fast.tw11046226558102829892 : Nat := 0
def PySem.W.Fast.tw3130330899915436021 : Nat := 0
def PySem.W.Fast.tw9536508374318623348 : Nat := 0
def PySem.W.Fast.tw2358682222826810456 : Nat := 0
def PySem.W.Fast.tw12884024945800440869 : Nat := 0
def PySem.W.Fast.tw11416114598299739515 : Nat := 0
def PySem.W.Fast.tw7093062093423418469 : Nat := 0
def PySem.W.Fast.tw8343157480775462094 : Nat := 0
def PySem.W.Fast.tw8114789069063548216 : Nat := 0
def PySem.W.Fast.tw17880801757377670727 : Nat := 0
def PySem.W.Fast.tw480839868267461858 : Nat := 0
def PySem.W.Fast.tw15140388437867985119 : Nat := 0
def PySem.W.Fast.tw5705585765243688708 : Nat := 0
def PySem.W.Fast.tw5847287377640231098 : Nat := 0
def PySem.W.Fast.tw16152555880169055248 : Nat := 0
def PySem.W.Fast.tw2651492421333436290 : Nat := 0
def PySem.W.Fast.tw17409120157854238289 : Nat := 0
def PySem.W.Fast.tw7728531824337000737 : Nat := 0
def PySem.W.Fast.tw14945636129172342437 : Nat := 0
def PySem.W.Fast.tw1408352329293220417 : Nat := 0
def PySem.W.Fast.tw14811176555570558713 : Nat := 0
def PySem.W.Fast.tw6722434993338874538 : Nat := 0
def PySem.W.Fast.tw18117926644017843074 : Nat := 0
def PySem.W.Fast.tw4236078744775590355 : Nat := 0
def PySem.W.Fast.tw11956624191764190324 : Nat := 0
def PySem.W.Fast.tw6795979080453408781 : Nat := 0
def PySem.W.Fast.tw8761621165124717210 : Nat := 0
def PySem.W.Fast.tw13242685247729819889 : Nat := 0
def PySem.W.Fast.tw4177849081468397495 : Nat := 0
def PySem.W.Fast.tw2674571620176032907 : Nat := 0
def PySem.W.Fast.tw17418331192936864896 : Nat := 0
def PySem.W.Fast.tw4463357210811184939 : Nat := 0
def PySem.W.Fast.tw269505668473531384 : Nat := 0
def PySem.W.Fast.tw1612625293410996003 : Nat := 0
def PySem.W.Fast.tw1489904468758969756 : Nat := 0
def PySem.W.Fast.tw11448494054760807967 : Nat := 0
def PySem.W.Fast.tw12665501417241039867 : Nat := 0
def PySem.W.Fast.tw11901711482102010942 : Nat := 0
def PySem.W.Fast.tw13754869531353983372 : Nat := 0
def PySem.W.Fast.tw6857476165284305153 : Nat := 0
def PySem.W.Fast.tw15237832426600183203 : Nat := 0
def PySem.W.Fast.tw8859029706863927497 : Nat := 0
def PySem.W.Fast.tw2430006851469423654 : Nat := 0
def PySem.W.Fast.tw17085598696416846472 : Nat := 0
def PySem.W.Fast.tw2395427858809578982 : Nat := 0
def PySem.W.Fast.tw9949760392289834747 : Nat := 0
def PySem.W.Fast.tw13802056686828264689 : Nat := 0
def PySem.W.Fast.tw18125069892201114760 : Nat := 0
def PySem.W.Fast.tw13582499318520221222 : Nat := 0
def PySem.W.Fast.tw15199539697708667978 : Nat := 0
def PySem.W.Fast.tw11537242473512864066 : Nat := 0
def PySem.W.Fast.tw14563068855281648923 : Nat := 0
def PySem.W.Fast.tw10690356743564734116 : Nat := 0
def PySem.W.Fast.tw16570331662819022154 : Nat := 0
def PySem.W.Fast.tw1378575209379877092 : Nat := 0
def PySem.W.Fast.tw12512977032522250844 : Nat := 0
def PySem.W.Fast.tw14848135981968934083 : Nat := 0
def PySem.W.Fast.tw2529126062971304816 : Nat := 0
def PySem.W.Fast.tw1213633417940068243 : Nat := 0
def PySem.W.Fast.tw2867937735982790895 : Nat := 0
def PySem.W.Fast.tw7866289170157205051 : Nat := 0
def PySem.W.Fast.tw106698511300015311 : Nat := 0
def PySem.W.Fast.tw5486717380933530427 : Nat := 0
def PySem.W.Fast.tw11442883576336984769 : Nat := 0
def PySem.W.Fast.tw10260558261762814996 : Nat := 0
def PySem.W.Fast.tw17539927671380198901 : Nat := 0
def PySem.W.Fast.tw8244271612171973318 : Nat := 0
def PySem.W.Fast.tw2201888197476830288 : Nat := 0
def PySem.W.Fast.tw13548957691828223132 : Nat := 0
def PySem.W.Fast.tw9700068201456727152 : Nat := 0
def PySem.W.Fast.tw13364914293684003150 : Nat := 0
def PySem.W.Fast.tw8951490464973584614 : Nat := 0
def PySem.W.Fast.tw13764752459061094779 : Nat := 0
def PySem.W.Fast.tw5808432271608359296 : Nat := 0
def PySem.W.Fast.tw15565432438965117923 : Nat := 0
def PySem.W.Fast.tw3420600388464573264 : Nat := 0
def PySem.W.Fast.tw17126018620126354164 : Nat := 0
def PySem.W.Fast.tw5075213950437733359 : Nat := 0
def PySem.W.Fast.tw10413543378099346580 : Nat := 0
def PySem.W.Fast.tw15781178950544078801 : Nat := 0
def PySem.W.Fast.tw12320718166412758830 : Nat := 0
def PySem.W.Fast.tw18149718907407960856 : Nat := 0
def PySem.W.Fast.tw3412030424002865859 : Nat := 0
def PySem.W.Fast.tw16121357412505708238 : Nat := 0
def PySem.W.Fast.tw15984786574990060273 : Nat := 0
def PySem.W.Fast.tw15910853320980561834 : Nat := 0
def PySem.W.Fast.tw8946949488739764389 : Nat := 0
def PySem.W.Fast.tw5943519560180783989 : Nat := 0
def PySem.W.Fast.tw17372029889467601967 : Nat := 0
def PySem.W.Fast.tw17100837554577146492 : Nat := 0
def PySem.W.Fast.tw14986915569317390305 : Nat := 0
def PySem.W.Fast.tw13328287103822419246 : Nat := 0
def PySem.W.Fast.tw13346434069785199312 : Nat := 0
def PySem.W.Fast.tw13123896001559566084 : Nat := 0
def PySem.W.Fast.tw16555176852196496076 : Nat := 0
def PySem.W.Fast.tw7347066804707317103 : Nat := 0
def PySem.W.Fast.tw14844001538598114526 : Nat := 0
def PySem.W.Fast.tw4742588608294956592 : Nat := 0
def PySem.W.Fast.tw5335383651962558637 : Nat := 0
def PySem.W.Fast.tw8638912687334752605 : Nat := 0
def PySem.W.Fast.tw6600112704605281664 : Nat := 0
def PySem.W.Fast.tw15062411167177878396 : Nat := 0
def PySem.W.Fast.tw3874394979379893353 : Nat := 0
def PySem.W.Fast.tw6849437340188781370 : Nat := 0
def PySem.W.Fast.tw4602269409903489319 : Nat := 0
def PySem.W.Fast.tw5369630840938145170 : Nat := 0
def PySem.W.Fast.tw1656015133446009859 : Nat := 0
def PySem.W.Fast.tw6740105605674066405 : Nat := 0
def PySem.W.Fast.tw8850337261550137298 : Nat := 0
def PySem.W.Fast.tw11942744075606927328 : Nat := 0
def PySem.W.Fast.tw3694864408293766795 : Nat := 0
def PySem.W.Fast.tw5727178246990129455 : Nat := 0
def PySem.W.Fast.tw6357318049312157387 : Nat := 0
def PySem.W.Fast.tw14360787136980716811 : Nat := 0
def PySem.W.Fast.tw6087395636164848792 : Nat := 0
def PySem.W.Fast.tw3095597144108204608 : Nat := 0
def PySem.W.Fast.tw9111135233232010595 : Nat := 0
def PySem.W.Fast.tw4945666464173467595 : Nat := 0
def PySem.W.Fast.tw1060232610621885042 : Nat := 0
def PySem.W.Fast.tw9020730238944179630 : Nat := 0
def PySem.W.Fast.tw3425943597332124409 : Nat := 0
def PySem.W.Fast.tw14353712417211817975 : Nat := 0
def PySem.W.Fast.tw8395385381494068154 : Nat := 0
def PySem.W.Fast.tw10917650226063444537 : Nat := 0
def PySem.W.Fast.tw8989104589205486057 : Nat := 0
def PySem.W.Fast.tw3790361852316337232 : Nat := 0
def PySem.W.Fast.tw4308710785924896754 : Nat := 0
def PySem.W.Fast.tw10149345190653904625 : Nat := 0
def PySem.W.Fast.tw10689996655184510605 : Nat := 0
def PySem.W.Fast.tw10868959071689900758 : Nat := 0
def PySem.W.Fast.tw7499161475940722410 : Nat := 0
def PySem.W.Fast.tw12344230204389378003 : Nat := 0
def PySem.W.Fast.tw10993013785382972168 : Nat := 0
def PySem.W.Fast.tw10083704227717308385 : Nat := 0
def PySem.W.Fast.tw17728715673274111765 : Nat := 0
def PySem.W.Fast.tw1690584079420728862 : Nat := 0
def PySem.W.Fast.tw5832938793813461926 : Nat := 0
def PySem.W.Fast.tw14301091675651017806 : Nat := 0
def PySem.W.Fast.tw2515975968785686985 : Nat := 0
def PySem.W.Fast.tw17510345680572543585 : Nat := 0
def PySem.W.Fast.tw17510227268868711232 : Nat := 0
def PySem.W.Fast.tw10491142617288602431 : Nat := 0
def PySem.W.Fast.tw1483299564210717071 : Nat := 0
def PySem.W.Fast.tw10554525593511527305 : Nat := 0
def PySem.W.Fast.tw8578259929002669599 : Nat := 0
def PySem.W.Fast.tw12717184804070998274 : Nat := 0
def PySem.W.Fast.tw8134422485533342504 : Nat := 0
def PySem.W.Fast.tw1787843804256935018 : Nat := 0
def PySem.W.Fast.tw16262515473878992971 : Nat := 0
def PySem.W.Fast.tw11613177148238430469 : Nat := 0
def PySem.W.Fast.tw3313108684285316549 : Nat := 0
def PySem.W.Fast.tw7456228972054876199 : Nat := 0
def PySem.W.Fast.tw3415644319554699007 : Nat := 0
def PySem.W.Fast.tw840166645502145229 : Nat := 0
def PySem.W.Fast.tw2245332306688099715 : Nat := 0
def PySem.W.Fast.tw7758102034265563275 : Nat := 0
def PySem.W.Fast.tw10374334685921896907 : Nat := 0
def PySem.W.Fast.tw17620072445247174439 : Nat := 0
def PySem.W.Fast.tw17774829643330181491 : Nat := 0
def PySem.W.Fast.tw16631708061656219989 : Nat := 0
def PySem.W.Fast.tw533050704045726577 : Nat := 0
def PySem.W.Fast.tw14371556171458216908 : Nat := 0
def PySem.W.Fast.tw12185778103942623912 : Nat := 0
def PySem.W.Fast.tw10280615659088718073 : Nat := 0
def PySem.W.Fast.tw17001429250077496887 : Nat := 0
def PySem.W.Fast.tw7210498713231198434 : Nat := 0
def PySem.W.Fast.tw14642955240884868863 : Nat := 0
def PySem.W.Fast.tw483073345843630803 : Nat := 0
def PySem.W.Fast.tw7407257508755808898 : Nat := 0
def PySem.W.Fast.tw16044026300653090837 : Nat := 0
def PySem.W.Fast.tw18111602208669160100 : Nat := 0
def PySem.W.Fast.tw6711691512600205387 : Nat := 0
def PySem.W.Fast.tw4779847695094972427 : Nat := 0
def PySem.W.Fast.tw15391625056389421324 : Nat := 0
def PySem.W.Fast.tw14869813347372502995 : Nat := 0
def PySem.W.Fast.tw2822107861780847688 : Nat := 0
def PySem.W.Fast.tw2148607843281609726 : Nat := 0
def PySem.W.Fast.tw3495624973761389464 : Nat := 0
def PySem.W.Fast.tw6122604386062823926 : Nat := 0
def PySem.W.Fast.tw9197642470094158015 : Nat := 0
def PySem.W.Fast.tw9221027911141971780 : Nat := 0
def PySem.W.Fast.tw6764157823258405883 : Nat := 0
def PySem.W.Fast.tw754893956141040227 : Nat := 0
def PySem.W.Fast.tw10063158778628496882 : Nat := 0
def PySem.W.Fast.tw622236983818701429 : Nat := 0
def PySem.W.Fast.tw6201992760381549916 : Nat := 0
def PySem.W.Fast.tw11272883538819178536 : Nat := 0
def PySem.W.Fast.tw10399038257152839433 : Nat := 0
def PySem.W.Fast.tw130497002066086603 : Nat := 0
def PySem.W.Fast.tw5245058989571399070 : Nat := 0
def PySem.W.Fast.tw4272719488847309919 : Nat := 0
def PySem.W.Fast.tw10638799864655083762 : Nat := 0
def PySem.W.Fast.tw9012749046411771850 : Nat := 0
def PySem.W.Fast.tw10406499370616724459 : Nat := 0
def PySem.W.Fast.tw13771987130393613722 : Nat := 0
def PySem.W.Fast.tw11896186105737778447 : Nat := 0
def PySem.W.Fast.tw13457818824257477942 : Nat := 0
def PySem.W.Fast.tw17929538943900344923 : Nat := 0
def PySem.W.Fast.tw17402303094042203552 : Nat := 0
def PySem.W.Fast.tw922953087361471465 : Nat := 0
def PySem.W.Fast.tw9354276273428008926 : Nat := 0
def PySem.W.Fast.tw4531888826744280412 : Nat := 0
def PySem.W.Fast.tw16442438970031162443 : Nat := 0
def PySem.W.Fast.tw7263631549144484704 : Nat := 0
def PySem.W.Fast.tw16634826769119922524 : Nat := 0
def PySem.W.Fast.tw1872793975182410229 : Nat := 0
def PySem.W.Fast.tw12720661361457668531 : Nat := 0
def PySem.W.Fast.tw1925781977258136542 : Nat := 0
def PySem.W.Fast.tw18005378999512645538 : Nat := 0
def PySem.W.Fast.tw16201827720511375844 : Nat := 0
def PySem.W.Fast.tw7733048317198518438 : Nat := 0
def PySem.W.Fast.tw12832671206866190316 : Nat := 0
def PySem.W.Fast.tw5377935182665135047 : Nat := 0
def PySem.W.Fast.tw268557953637638084 : Nat := 0
def PySem.W.Fast.tw13319275483282684558 : Nat := 0
def PySem.W.Fast.tw5944284509119573386 : Nat := 0
def PySem.W.Fast.tw9107298840527426627 : Nat := 0
def PySem.W.Fast.tw6861318458907771053 : Nat := 0
def PySem.W.Fast.tw8595543581018802545 : Nat := 0
def PySem.W.Fast.tw10717614397423292185 : Nat := 0
def PySem.W.Fast.tw3873466996551217969 : Nat := 0
def PySem.W.Fast.tw14093942659242535224 : Nat := 0
def PySem.W.Fast.tw3567221177603848770 : Nat := 0
def PySem.W.Fast.tw3026776829614481408 : Nat := 0
def PySem.W.Fast.tw13390426377802851647 : Nat := 0
def PySem.W.Fast.tw1647767732579222939 : Nat := 0
def PySem.W.Fast.tw14488032881169224680 : Nat := 0
def PySem.W.Fast.tw4675274644630196770 : Nat := 0
def PySem.W.Fast.tw5508573527913691600 : Nat := 0
def PySem.W.Fast.tw4213715236935350270 : Nat := 0
def PySem.W.Fast.tw1688508535136724676 : Nat := 0
def PySem.W.Fast.tw8720791311498145586 : Nat := 0
def PySem.W.Fast.tw3383479784025901470 : Nat := 0
def PySem.W.Fast.tw5725440433259434521 : Nat := 0
def PySem.W.Fast.tw16577377720113506232 : Nat := 0
def PySem.W.Fast.tw10446692778033685581 : Nat := 0
def PySem.W.Fast.tw16273178642794120923 : Nat := 0
def PySem.W.Fast.tw10951632222228198452 : Nat := 0
def PySem.W.Fast.tw4779054736102085786 : Nat := 0
def PySem.W.Fast.tw10391288034381789911 : Nat := 0
def PySem.W.Fast.tw2359793605337929925 : Nat := 0
def PySem.W.Fast.tw10621603432671041750 : Nat := 0
def PySem.W.Fast.tw7253941334518384344 : Nat := 0
def PySem.W.Fast.tw2849194503823993289 : Nat := 0
def PySem.W.Fast.tw15311552211753448725 : Nat := 0
def PySem.W.Fast.tw2530929472793999694 : Nat := 0
def PySem.W.Fast.tw14255119136503663791 : Nat := 0
def PySem.W.Fast.tw4513771683081675 : Nat := 0
def PySem.W.Fast.tw17835124895952875285 : Nat := 0
def PySem.W.Fast.tw6095095841979885083 : Nat := 0
def PySem.W.Fast.tw979985120603681364 : Nat := 0
def PySem.W.Fast.tw11097075840564257963 : Nat := 0
def PySem.W.Fast.tw3816309542832410724 : Nat := 0
def PySem.W.Fast.tw9408986054381816428 : Nat := 0
def PySem.W.Fast.tw4539444162690276275 : Nat := 0
def PySem.W.Fast.tw13639677246554960541 : Nat := 0
def PySem.W.Fast.tw4242140537643088924 : Nat := 0
def PySem.W.Fast.tw2467526205411455678 : Nat := 0
def PySem.W.Fast.tw8692238354147027282 : Nat := 0
def PySem.W.Fast.tw9686191265317935932 : Nat := 0
def PySem.W.Fast.tw17697338828905611203 : Nat := 0
def PySem.W.Fast.tw12930006447517820189 : Nat := 0
def PySem.W.Fast.tw8172454394914060490 : Nat := 0
def PySem.W.Fast.tw10480108589917386594 : Nat := 0
def PySem.W.Fast.tw16138449849767025998 : Nat := 0
def PySem.W.Fast.tw6860832405785080991 : Nat := 0
def PySem.W.Fast.tw12110082012699755732 : Nat := 0
def PySem.W.Fast.tw4632867330751487948 : Nat := 0
def PySem.W.Fast.tw5450691523012930190 : Nat := 0
def PySem.W.Fast.tw17466918611943171670 : Nat := 0
def PySem.W.Fast.tw15115128203830695985 : Nat := 0
def PySem.W.Fast.tw16233473701030493598 : Nat := 0
def PySem.W.Fast.tw8615905092361484499 : Nat := 0
def PySem.W.Fast.tw3103864887241330278 : Nat := 0
def PySem.W.Fast.tw12826882119189830322 : Nat := 0
def PySem.W.Fast.tw13701474196511390556 : Nat := 0
def PySem.W.Fast.tw450079784371895383 : Nat := 0
def PySem.W.Fast.tw2639828188700328397 : Nat := 0
def PySem.W.Fast.tw9602107516917478056 : Nat := 0
def PySem.W.Fast.tw1078241113080858103 : Nat := 0
def PySem.W.Fast.tw14628566609841553385 : Nat := 0
def PySem.W.Fast.tw3788151479391163641 : Nat := 0
def PySem.W.Fast.tw6222449189376286137 : Nat := 0
def PySem.W.Fast.tw11833036962400115571 : Nat := 0
def PySem.W.Fast.tw2831258062833528771 : Nat := 0
def PySem.W.Fast.tw2796252278709619614 : Nat := 0
def PySem.W.Fast.tw3005772211595858855 : Nat := 0
def PySem.W.Fast.tw16203312584640658051 : Nat := 0
def PySem.W.Fast.tw3414831051523750699 : Nat := 0
def PySem.W.Fast.tw3146114212729622558 : Nat := 0
def PySem.W.Fast.tw4531160307300784292 : Nat := 0
def PySem.W.Fast.tw5733249002270982914 : Nat := 0
def PySem.W.Fast.tw197259157483659474 : Nat := 0
def PySem.W.Fast.tw11674546485171934536 : Nat := 0
def PySem.W.Fast.tw7805892680255892427 : Nat := 0
def PySem.W.Fast.tw3260109999374633583 : Nat := 0
def PySem.W.Fast.tw10648170416259291149 : Nat := 0
def PySem.W.Fast.tw18241856377220181636 : Nat := 0
def PySem.W.Fast.tw5992656002168530219 : Nat := 0
def PySem.W.Fast.tw6942394184455760019 : Nat := 0
def PySem.W.Fast.tw16439867328128059266 : Nat := 0
def PySem.W.Fast.tw753107086808440808 : Nat := 0
def PySem.W.Fast.tw3346736139208276419 : Nat := 0
def PySem.W.Fast.tw12808223122735953375 : Nat := 0
def PySem.W.Fast.tw11118594661669537127 : Nat := 0
def PySem.W.Fast.tw3055973958856146398 : Nat := 0
def PySem.W.Fast.tw5410594264476835505 : Nat := 0
def PySem.W.Fast.tw12061417786533961877 : Nat := 0
def PySem.W.Fast.tw11111904285242327649 : Nat := 0
def PySem.W.Fast.tw47121002572890604 : Nat := 0
def PySem.W.Fast.tw3641603862999884112 : Nat := 0
def PySem.W.Fast.tw1464208575950645072 : Nat := 0
def PySem.W.Fast.tw16900483309133737874 : Nat := 0
def PySem.W.Fast.tw16208841033893896429 : Nat := 0
def PySem.W.Fast.tw6361510742522261251 : Nat := 0
def PySem.W.Fast.tw17143649324213466430 : Nat := 0
def PySem.W.Fast.tw11203906396438251517 : Nat := 0
def PySem.W.Fast.tw4628308101925316871 : Nat := 0
def PySem.W.Fast.tw2287852315284010200 : Nat := 0
def PySem.W.Fast.tw5381177115654734284 : Nat := 0
def PySem.W.Fast.tw4598096546127518336 : Nat := 0
def PySem.W.Fast.tw6349751431385092223 : Nat := 0
def PySem.W.Fast.tw10517219174889236056 : Nat := 0
def PySem.W.Fast.tw8653352974190388479 : Nat := 0
def PySem.W.Fast.tw10562101040210361862 : Nat := 0
def PySem.W.Fast.tw2699442676534789944 : Nat := 0
def PySem.W.Fast.tw16627861059548315737 : Nat := 0
def PySem.W.Fast.tw8976221510164866388 : Nat := 0
def PySem.W.Fast.tw9251141304907859884 : Nat := 0
def PySem.W.Fast.tw2326426942831388369 : Nat := 0
def PySem.W.Fast.tw11928072833465383078 : Nat := 0
def PySem.W.Fast.tw5521562101534425579 : Nat := 0
def PySem.W.Fast.tw14290517432472032269 : Nat := 0
def PySem.W.Fast.tw5734469300812673877 : Nat := 0
def PySem.W.Fast.tw3331836802591894559 : Nat := 0
def PySem.W.Fast.tw13567039801835599028 : Nat := 0
def PySem.W.Fast.tw1790655445485110766 : Nat := 0
def PySem.W.Fast.tw11178706027280331088 : Nat := 0
def PySem.W.Fast.tw377570227543590801 : Nat := 0
def PySem.W.Fast.tw3500302125953708408 : Nat := 0
def PySem.W.Fast.tw10242435441325225950 : Nat := 0
def PySem.W.Fast.tw2408827458168135224 : Nat := 0
def PySem.W.Fast.tw16221907548578035552 : Nat := 0
def PySem.W.Fast.tw13447664205728337421 : Nat := 0
def PySem.W.Fast.tw17321348462534810299 : Nat := 0
def PySem.W.Fast.tw10387928524080801824 : Nat := 0
def PySem.W.Fast.tw16731232469388980062 : Nat := 0
def PySem.W.Fast.tw2729656580536126390 : Nat := 0
def PySem.W.Fast.tw14356229789473454234 : Nat := 0
def PySem.W.Fast.tw16159595306607475311 : Nat := 0
def PySem.W.Fast.tw14970869178986040327 : Nat := 0
def PySem.W.Fast.tw11961483202634255486 : Nat := 0
def PySem.W.Fast.tw6180457293745178868 : Nat := 0
def PySem.W.Fast.tw12015093837218649338 : Nat := 0
def PySem.W.Fast.tw8395034442273545792 : Nat := 0
def PySem.W.Fast.tw10536266869514870336 : Nat := 0
def PySem.W.Fast.tw10447203160287101621 : Nat := 0
def PySem.W.Fast.tw8832492403546069225 : Nat := 0
def PySem.W.Fast.tw15847814514722298725 : Nat := 0
def PySem.W.Fast.tw12005638034481670673 : Nat := 0
def PySem.W.Fast.tw18400371554636531514 : Nat := 0
def PySem.W.Fast.tw6568342548260694483 : Nat := 0
def PySem.W.Fast.tw15023927515275961424 : Nat := 0
def PySem.W.Fast.tw17597955185880532239 : Nat := 0
def PySem.W.Fast.tw13330464864446636093 : Nat := 0
def PySem.W.Fast.tw13304686093073816892 : Nat := 0
def PySem.W.Fast.tw457113880459049366 : Nat := 0
def PySem.W.Fast.tw7099353385231270504 : Nat := 0
def PySem.W.Fast.tw9029414448439155908 : Nat := 0
def PySem.W.Fast.tw16193835585168435129 : Nat := 0
def PySem.W.Fast.tw15232759410807130780 : Nat := 0
def PySem.W.Fast.tw14376694303846387709 : Nat := 0
def PySem.W.Fast.tw11257590954817497099 : Nat := 0
def PySem.W.Fast.tw17123760900198060866 : Nat := 0
def PySem.W.Fast.tw10065808219235389752 : Nat := 0
def PySem.W.Fast.tw2702465649824658651 : Nat := 0
def PySem.W.Fast.tw1063768118141649898 : Nat := 0
def PySem.W.Fast.tw3585627861399126346 : Nat := 0
def PySem.W.Fast.tw16066091746559042284 : Nat := 0
def PySem.W.Fast.tw15565594965866113704 : Nat := 0
def PySem.W.Fast.tw530042594669471317 : Nat := 0
def PySem.W.Fast.tw6871861714848305757 : Nat := 0
def PySem.W.Fast.tw6693938934256968858 : Nat := 0
def PySem.W.Fast.tw11843887179351397844 : Nat := 0
def PySem.W.Fast.tw9365032075862672517 : Nat := 0
def PySem.W.Fast.tw9623952333349828062 : Nat := 0
def PySem.W.Fast.tw21760948191290857 : Nat := 0
def PySem.W.Fast.tw5226863955955572769 : Nat := 0
def PySem.W.Fast.tw10139270793683739901 : Nat := 0
def PySem.W.Fast.tw8504533072292856789 : Nat := 0
def PySem.W.Fast.tw10059518466811869990 : Nat := 0
def PySem.W.Fast.tw4604973117738273866 : Nat := 0
def PySem.W.Fast.tw814101321343656813 : Nat := 0
def PySem.W.Fast.tw18338135062928066887 : Nat := 0
def PySem.W.Fast.tw7443194361298082732 : Nat := 0
def PySem.W.Fast.tw2648239754354529277 : Nat := 0
def PySem.W.Fast.tw5767407703529257172 : Nat := 0
def PySem.W.Fast.tw14185699572320879120 : Nat := 0
def PySem.W.Fast.tw8793240413523323111 : Nat := 0
def PySem.W.Fast.tw7062176066804061563 : Nat := 0
def PySem.W.Fast.tw5207724567286273946 : Nat := 0
def PySem.W.Fast.tw7483335772704333229 : Nat := 0
def PySem.W.Fast.tw4840345807071692742 : Nat := 0
def PySem.W.Fast.tw9081664563283552552 : Nat := 0
def PySem.W.Fast.tw16547110184264920402 : Nat := 0
def PySem.W.Fast.tw8247182762237459026 : Nat := 0
def PySem.W.Fast.tw16108705752135738028 : Nat := 0
def PySem.W.Fast.tw9293493287127605268 : Nat := 0
set_option maxRecDepth 100000 in
set_option maxHeartbeats 0 in
open_top PySem.Challenge.hd84 for PySem.Challenge.rw_seatchains_k84_errors_of_certificates
end
set_option linter.all false
set_option maxRecDepth 100000
namespace Z
open PySem PySem.Spec L2
open PyProof.Rows hiding St
inductive PV where
 | non | bl (b : Bool) | int (i : Int) | str (x : Str)
 | tup (xs : List PV) | lst (xs : List PV) | scr (ns : List Int)
 | ins (C : Addr) (fs : List (Str × PV)) | dic (kvs : List (Key × PV)) | raw (v : V) | pln (xs : List PV) | exn (a : Addr) (d : Option Addr) (fs : List (Str × PV))
abbrev PV.dic0 : PV := .dic []
section
variable (K : PySem.W.Frag)
def TupAt (O : Addr → Prop) (H : Hp) (a : Addr) (vs : List V) : Prop :=
 (¬ O a ∧ Rd H a (.tup vs)) ∨
  ∃ (o : Obj) (its : Array Value) (n : Nat), K.lookup a = some o ∧ o.cls = .type "tuple" ∧ o.data = .seq its n ∧ its.size ≤ sizeLine ∧ Vals vs its.toList
theorem TupAt.sq {K : PySem.W.Frag} {O H a vs} (h : TupAt K O H a vs) : SqT K H a vs := by
 rcases h with ⟨_, h⟩ | h
 ·exact .inl h
 ·exact .inr h
mutual
def Rep (O : Addr → Prop) (H : Hp) : PV → V → Prop
 | .non, v => v = .non
 | .bl b, v => v = .bl b
 | .int i, v => v = .int i
 | .str x, v => v = .str x
 | .raw u, v => v = u
 | .scr ns, v => ∃ a o, v = .ref a ∧ ¬ O a ∧ H a = some (.frz o (.lst (ns.map V.int)))
 | .tup xs, v => ∃ a vs, v = .ref a ∧ TupAt K O H a vs ∧ Reps O H xs vs
 | .lst xs, v => ∃ a vs, v = .ref a ∧ ¬ O a ∧ H a = some (.lst vs) ∧ Reps O H xs vs
 | .ins C fs, v => ∃ a dx ws, v = .ref a ∧ ¬ O a ∧ H a = some (.ins C dx ws) ∧ RepF O H fs ws
 | .dic kvs, v => ∃ a ws, v = .ref a ∧ ¬ O a ∧ H a = some (.dK ws) ∧ RepD O H kvs ws
 | .pln xs, v => ∃ a vs o, v = .ref a ∧ ¬ O a ∧ H a = some (.frz o (.tup vs)) ∧ o.dict = none ∧ Reps O H xs vs
 | .exn a d fs, v => v = .ref a ∧ ∃ ws, (∀ x, d = some x → ¬ O x ∧ H x = some (.xd ws)) ∧ RepF O H fs ws
def Reps (O : Addr → Prop) (H : Hp) : List PV → List V → Prop
 | [], vs => vs = []
 | x :: xs, vs => ∃ v us, vs = v :: us ∧ Rep O H x v ∧ Reps O H xs us
def RepF (O : Addr → Prop) (H : Hp) : List (Str × PV) → List (Str × V) → Prop
 | [], vs => vs = []
 | (n, x) :: xs, vs => ∃ v us, vs = (n, v) :: us ∧ Rep O H x v ∧ RepF O H xs us
def RepD (O : Addr → Prop) (H : Hp) : List (Key × PV) → List (Key × V) → Prop
 | [], vs => vs = []
 | (n, x) :: xs, vs => ∃ v us, vs = (n, v) :: us ∧ Rep O H x v ∧ RepD O H xs us
end
end
def Car (O O' : Addr → Prop) (H H' : Hp) : Prop := ∀ a o, ¬ O a → H a = some o → (∀ ps, o ≠ .tbl ps) → H' a = some o ∧ ¬ O' a
section
variable {K : PySem.W.Frag} {O O' : Addr → Prop} {H H' : Hp}
theorem TupAt.car {a : Addr} {vs : List V} (c : Car O O' H H') (h : TupAt K O H a vs) : TupAt K O' H' a vs := by
 rcases h with ⟨n, h | ⟨o, h⟩⟩ | h
 ·exact .inl ⟨(c _ _ n h nofun).2, .inl (c _ _ n h nofun).1⟩
 ·exact .inl ⟨(c _ _ n h nofun).2, .inr ⟨o, (c _ _ n h nofun).1⟩⟩
 ·exact .inr h
mutual
theorem Rep.car (c : Car O O' H H') : ∀ (x : PV) (v : V), Rep K O H x v → Rep K O' H' x v
 | .non, _, h => by unfold Rep at h ⊢; exact h
 | .bl _, _, h => by unfold Rep at h ⊢; exact h
 | .int _, _, h => by unfold Rep at h ⊢; exact h
 | .str _, _, h => by unfold Rep at h ⊢; exact h
 | .raw _, _, h => by unfold Rep at h ⊢; exact h
 | .scr _, _, h => by
  unfold Rep at h ⊢
  obtain ⟨a, o, e, n, h⟩ := h
  exact ⟨a, o, e, (c _ _ n h nofun).2, (c _ _ n h nofun).1⟩
 | .dic kvs, _, h => by
  unfold Rep at h ⊢
  obtain ⟨a, ws, e, n, h, r⟩ := h
  exact ⟨a, ws, e, (c _ _ n h nofun).2, (c _ _ n h nofun).1, RepD.car c kvs ws r⟩
 | .pln xs, _, h => by
  unfold Rep at h ⊢
  obtain ⟨a, vs, o, e, n, h, d, r⟩ := h
  exact ⟨a, vs, o, e, (c _ _ n h nofun).2, (c _ _ n h nofun).1, d, Reps.car c xs vs r⟩
 | .exn _ d fs, _, h => by
  unfold Rep at h ⊢
  obtain ⟨e, ws, n, r⟩ := h
  exact ⟨e, ws, fun x hx => ⟨(c _ _ (n x hx).1 (n x hx).2 nofun).2, (c _ _ (n x hx).1 (n x hx).2 nofun).1⟩, RepF.car c fs ws r⟩
 | .tup xs, _, h => by
  unfold Rep at h ⊢
  obtain ⟨a, vs, e, t, r⟩ := h
  exact ⟨a, vs, e, t.car c, Reps.car c xs vs r⟩
 | .lst xs, _, h => by
  unfold Rep at h ⊢
  obtain ⟨a, vs, e, n, t, r⟩ := h
  exact ⟨a, vs, e, (c _ _ n t nofun).2, (c _ _ n t nofun).1, Reps.car c xs vs r⟩
 | .ins C fs, _, h => by
  unfold Rep at h ⊢
  obtain ⟨a, dx, ws, e, n, t, r⟩ := h
  exact ⟨a, dx, ws, e, (c _ _ n t nofun).2, (c _ _ n t nofun).1, RepF.car c fs ws r⟩
theorem Reps.car (c : Car O O' H H') : ∀ (xs : List PV) (vs : List V), Reps K O H xs vs → Reps K O' H' xs vs
 | [], _, h => by unfold Reps at h ⊢; exact h
 | x :: xs, _, h => by
  unfold Reps at h ⊢
  obtain ⟨v, us, e, r, t⟩ := h
  exact ⟨v, us, e, Rep.car c x v r, Reps.car c xs us t⟩
theorem RepF.car (c : Car O O' H H') : ∀ (xs : List (Str × PV)) (vs : List (Str × V)), RepF K O H xs vs → RepF K O' H' xs vs
 | [], _, h => by unfold RepF at h ⊢; exact h
 | (n, x) :: xs, _, h => by
  unfold RepF at h ⊢
  obtain ⟨v, us, e, r, t⟩ := h
  exact ⟨v, us, e, Rep.car c x v r, RepF.car c xs us t⟩
theorem RepD.car (c : Car O O' H H') : ∀ (xs : List (Key × PV)) (vs : List (Key × V)), RepD K O H xs vs → RepD K O' H' xs vs
 | [], _, h => by unfold RepD at h ⊢; exact h
 | (n, x) :: xs, _, h => by
  unfold RepD at h ⊢
  obtain ⟨v, us, e, r, t⟩ := h
  exact ⟨v, us, e, Rep.car c x v r, RepD.car c xs us t⟩
end
theorem Car.mono {O O' : Addr → Prop} {H : Hp} (h : ∀ a, O' a → O a) : Car O O' H H := fun a o n e _ => ⟨e, fun z => n (h a z)⟩
theorem Rep.mono {x v} (h : ∀ a, O' a → O a) (r : Rep K O H x v) : Rep K O' H x v := r.car (Car.mono h)
theorem Reps.mono {x v} (h : ∀ a, O' a → O a) (r : Reps K O H x v) : Reps K O' H x v := r.car (Car.mono h)
theorem RepF.mono {x v} (h : ∀ a, O' a → O a) (r : RepF K O H x v) : RepF K O' H x v := r.car (Car.mono h)
theorem RepD.mono {x v} (h : ∀ a, O' a → O a) (r : RepD K O H x v) : RepD K O' H x v := r.car (Car.mono h)
def Nw (H : Hp) (b : Addr) : Prop := ∀ o, H b = some o → ∃ ps, o = .tbl ps
theorem Nw.of {b : Addr} (h : H b = none) : Nw H b := fun o e => by rw [h] at e; cases e
theorem Nw.no {b : Addr} {o : HO} (n : Nw H b) (h : H b = some o) (t : ∀ ps, o ≠ .tbl ps) : False := by
 obtain ⟨ps, e⟩ := n o h
 exact t ps e
theorem nw_ne {a b : Addr} {u : HO} (z : b ≠ a) (n : Nw (upd H a u) b) : Nw H b := fun o h => n o (by rw [upd_ne z]; exact h)
theorem nw_same {a : Addr} {u : HO} (t : ∀ ps, u ≠ .tbl ps) : ¬ Nw (upd H a u) a := fun n => n.no upd_same t
theorem live_upd {a b : Addr} {u : HO} (t : ∀ ps, u ≠ .tbl ps) (n : ¬ Nw H b) : ¬ Nw (upd H a u) b := by
 by_cases z : b = a
 ·rw [z]; exact nw_same t
 ·exact fun q => n (nw_ne z q)
def Trk (O : Addr → Prop) (H : Hp) : Prop := ∀ a, O a → ¬ Nw H a
theorem Trk.same (t : Trk O H) (s : Same H H') : Trk O H' := fun a h e => t a h fun o q => e o (s a o q)
theorem Car.same (s : Same H H') : Car O O H H' := fun a o n e _ => ⟨s a o e, n⟩
theorem Same.new {p : Addr} {o : HO} (hp : H p = none) : Same H (upd H p o) := fun b u e => by rw [upd_ne (ne_of_none e hp)]; exact e
theorem Trk.fresh {p : Addr} (t : Trk O H) (hp : H p = none) : ¬ O p := fun h => t p h (Nw.of hp)
-- lists
theorem Reps.nil : Reps K O H [] [] := by unfold Reps; rfl
theorem Reps.cons {x xs v vs} (h : Rep K O H x v) (t : Reps K O H xs vs) : Reps K O H (x :: xs) (v :: vs) := by unfold Reps; exact ⟨v, vs, rfl, h, t⟩
theorem Reps.inv {x : PV} {xs : List PV} {vs : List V} (h : Reps K O H (x :: xs) vs) : ∃ v us, vs = v :: us ∧ Rep K O H x v ∧ Reps K O H xs us := by unfold Reps at h; exact h
theorem Reps.inv0 {vs : List V} (h : Reps K O H [] vs) : vs = [] := by unfold Reps at h; exact h
theorem Reps.len : ∀ {xs : List PV} {vs : List V}, Reps K O H xs vs → vs.length = xs.length
 | [], _, h => by rw [h.inv0]; rfl
 | x :: xs, _, h => by
  obtain ⟨v, us, rfl, _, t⟩ := h.inv
  rw [List.length_cons, List.length_cons, t.len]
theorem Reps.get : ∀ {xs : List PV} {vs : List V} {i : Nat} {x : PV}, Reps K O H xs vs → xs[i]? = some x → ∃ v, vs[i]? = some v ∧ Rep K O H x v
 | [], _, _, _, _, e => by simp at e
 | x :: xs, _, 0, _, h, e => by
  obtain ⟨v, us, rfl, r, t⟩ := h.inv
  simp at e; subst e; exact ⟨v, rfl, r⟩
 | x :: xs, _, i + 1, _, h, e => by
  obtain ⟨v, us, rfl, r, t⟩ := h.inv
  obtain ⟨u, h1, h2⟩ := t.get (i := i) (by simpa using e)
  exact ⟨u, by simpa using h1, h2⟩
theorem Reps.app : ∀ {xs ys : List PV} {vs us : List V}, Reps K O H xs vs → Reps K O H ys us → Reps K O H (xs ++ ys) (vs ++ us)
 | [], _, _, _, h, t => by rw [h.inv0]; exact t
 | x :: xs, _, _, _, h, t => by
  obtain ⟨v, us, rfl, r, q⟩ := h.inv
  exact .cons r (q.app t)
theorem Reps.take : ∀ {xs : List PV} {vs : List V} (n : Nat), Reps K O H xs vs → Reps K O H (xs.take n) (vs.take n)
 | [], _, n, h => by rw [h.inv0]; simp; exact .nil
 | x :: xs, _, 0, h => by simp; exact .nil
 | x :: xs, _, n + 1, h => by
  obtain ⟨v, us, rfl, r, q⟩ := h.inv
  exact .cons r (q.take n)
theorem Reps.drop : ∀ {xs : List PV} {vs : List V} (n : Nat), Reps K O H xs vs → Reps K O H (xs.drop n) (vs.drop n)
 | [], _, n, h => by rw [h.inv0]; simp; exact .nil
 | x :: xs, _, 0, h => by simpa using h
 | x :: xs, _, n + 1, h => by
  obtain ⟨v, us, rfl, r, q⟩ := h.inv
  exact q.drop n
theorem Reps.set : ∀ {xs : List PV} {vs : List V} {x v} (i : Nat), Reps K O H xs vs → Rep K O H x v → Reps K O H (xs.set i x) (vs.set i v)
 | [], _, _, _, n, h, _ => by rw [h.inv0]; exact .nil
 | y :: xs, _, _, _, 0, h, r => by
  obtain ⟨v, us, rfl, _, q⟩ := h.inv
  exact .cons r q
 | y :: xs, _, _, _, n + 1, h, r => by
  obtain ⟨v, us, rfl, r0, q⟩ := h.inv
  exact .cons r0 (q.set n r)
theorem RepF.look : ∀ {fs : List (Str × PV)} {ws : List (Str × V)}, RepF K O H fs ws → ∀ f : Str, (∀ x, fs.lookup f = some x → ∃ v, ws.lookup f = some v ∧ Rep K O H x v) ∧ (fs.lookup f = none → ws.lookup f = none)
 | [], _, h, f => by
  unfold RepF at h; subst h
  refine ⟨fun x e => ?_, fun _ => rfl⟩
  simp at e
 | (n, x) :: fs, _, h, f => by
  unfold RepF at h
  obtain ⟨v, us, rfl, r, t⟩ := h
  obtain ⟨h1, h2⟩ := t.look f
  by_cases e : f = n
  ·subst e
   simp only [List.lookup_cons_self]
   exact ⟨fun y q => by cases q; exact ⟨v, rfl, r⟩, fun q => nomatch q⟩
  ·have e' : (f == n) = false := by simpa using e
   simp only [List.lookup_cons, e']
   exact ⟨h1, h2⟩
theorem RepF.len : ∀ {fs : List (Str × PV)} {ws : List (Str × V)}, RepF K O H fs ws → ws.length = fs.length
 | [], _, h => by unfold RepF at h; rw [h]; rfl
 | (n, x) :: fs, _, h => by
  unfold RepF at h
  obtain ⟨v, us, rfl, r, t⟩ := h
  rw [List.length_cons, List.length_cons, t.len]
theorem RepD.nil : RepD K O H [] [] := by unfold RepD; rfl
theorem RepD.len : ∀ {fs : List (Key × PV)} {ws : List (Key × V)}, RepD K O H fs ws → ws.length = fs.length
 | [], _, h => by unfold RepD at h; rw [h]; rfl
 | (n, x) :: fs, _, h => by
  unfold RepD at h
  obtain ⟨v, us, rfl, r, t⟩ := h
  rw [List.length_cons, List.length_cons, t.len]
theorem RepD.keys : ∀ {fs : List (Key × PV)} {ws : List (Key × V)}, RepD K O H fs ws → ws.map (·.1) = fs.map (·.1)
 | [], _, h => by unfold RepD at h; rw [h]; rfl
 | (n, x) :: fs, _, h => by
  unfold RepD at h
  obtain ⟨v, us, rfl, r, t⟩ := h
  rw [List.map_cons, List.map_cons, t.keys]
end
inductive Ow where
 | l (xs : List PV) | o (C : Addr) (fs : List (Str × PV)) | d (kvs : List (Key × PV))
inductive Sl where
 | no | va (x : PV) | ow (o : Ow)
abbrev EP' := List Sl
def OwAt (K : PySem.W.Frag) (O : Addr → Prop) (H : Hp) (a : Addr) : Ow → Prop
 | .l xs => ∃ vs, H a = some (.lst vs) ∧ Reps K O H xs vs
 | .o C fs => ∃ dx ws, H a = some (.ins C dx ws) ∧ RepF K O H fs ws
 | .d kvs => ∃ ws, H a = some (.dK ws) ∧ RepD K O H kvs ws
def IsOwn (σ : St) (η : EP') (a : Addr) : Prop := ∃ (i : Nat) (o : Ow), σ[i]? = some (some (V.ref a)) ∧ η[i]? = some (Sl.ow o)
def Oof (F : Addr → Prop) (σ : St) (η : EP') : Addr → Prop := fun a => F a ∨ IsOwn σ η a
structure Rs (K : PySem.W.Frag) (T : List (Addr × Str)) (F : Addr → Prop) (σ : St) (η : EP') (H : Hp) : Prop where
 len : σ.length = η.length
 va : ∀ (i : Nat) (x : PV), η[i]? = some (Sl.va x) → ∃ v, σ[i]? = some (some v) ∧ Rep K (Oof F σ η) H x v
 ow : ∀ (i : Nat) (o : Ow), η[i]? = some (Sl.ow o) → ∃ a, σ[i]? = some (some (V.ref a)) ∧ OwAt K (Oof F σ η) H a o ∧ ¬ F a
 nd : ∀ (i j : Nat) (o o' : Ow) (a : Addr), η[i]? = some (Sl.ow o) → η[j]? = some (Sl.ow o') → σ[i]? = some (some (V.ref a)) → σ[j]? = some (some (V.ref a)) → i = j
 tr : Trk F H
 tb : LamX.Tabs T H
structure Ext (σ : St) (η : EP') (σ' : St) (η' : EP') (H H' : Hp) : Prop where
 keep : ∀ b o, H b = some o → ¬ IsOwn σ η b → (∀ ps, o ≠ .tbl ps) → H' b = some o
 live : ∀ b, ¬ Nw H b → ¬ Nw H' b
 new : ∀ b, IsOwn σ' η' b → IsOwn σ η b ∨ Nw H b
 fst : ∀ o' : Ow, η'[0]? = some (Sl.ow o') → ∃ o : Ow, η[0]? = some (Sl.ow o) ∧ σ'[0]? = σ[0]?
section
variable {K : PySem.W.Frag} {T : List (Addr × Str)} {F : Addr → Prop} {σ σ1 σ2 : St} {η η1 η2 : EP'} {H H1 H2 : Hp}
theorem Ext.refl : Ext σ η σ η H H := ⟨fun _ _ e _ _ => e, fun _ e => e, fun _ e => .inl e, fun o e => ⟨o, e, rfl⟩⟩
theorem Ext.trans (a : Ext σ η σ1 η1 H H1) (b : Ext σ1 η1 σ2 η2 H1 H2) : Ext σ η σ2 η2 H H2 := by
 refine ⟨fun c o e n t => b.keep c o (a.keep c o e n t) ?_ t, fun c e => b.live c (a.live c e), fun c z => ?_, fun o e => ?_⟩
 ·intro z
  rcases a.new c z with q | q
  ·exact n q
  ·exact q.no e t
 ·rcases b.new c z with q | q
  ·exact a.new c q
  ·by_cases e : Nw H c
   ·exact .inr e
   ·exact absurd q (a.live c e)
 ·obtain ⟨o1, e1, s1⟩ := b.fst o e
  obtain ⟨o2, e2, s2⟩ := a.fst o1 e1
  exact ⟨o2, e2, s1.trans s2⟩
theorem Ext.same (s : Same H H1) : Ext σ η σ η H H1 := by
 refine ⟨fun b o e _ _ => s b o e, fun b e q => e fun o r => q o (s b o r), fun _ z => .inl z, fun o e => ⟨o, e, rfl⟩⟩
theorem Ext.nw {b : Addr} (e : Ext σ η σ1 η1 H H1) (n : Nw H1 b) : Nw H b := Classical.byContradiction fun z => e.live b z n
theorem Rs.trO (R : Rs K T F σ η H) : Trk (Oof F σ η) H := by
 rintro a (h | ⟨i, o, h1, h2⟩) e
 ·exact R.tr a h e
 ·obtain ⟨b, q1, q2, _⟩ := R.ow i o h2
  rw [h1] at q1; cases q1
  cases o with
  | l xs => obtain ⟨vs, q, _⟩ := q2; exact e.no q nofun
  | o C fs => obtain ⟨dx, ws, q, _⟩ := q2; exact e.no q nofun
  | d kvs => obtain ⟨ws, q, _⟩ := q2; exact e.no q nofun
theorem Ext.car (e : Ext σ η σ1 η1 H H1) : Car (Oof F σ η) (Oof F σ1 η1) H H1 := fun a o n h t =>
 ⟨e.keep a o h (fun z => n (.inr z)) t, fun z => z.elim (fun z => n (.inl z)) fun z => (e.new a z).elim (fun z => n (.inr z)) fun q => q.no h t⟩
theorem OwAt.car {O O' : Addr → Prop} {a : Addr} {o : Ow} (c : Car O O' H H1) (h : OwAt K O H a o) (e : H1 a = H a) : OwAt K O' H1 a o := by
 cases o with
 | l xs =>
  obtain ⟨vs, q, r⟩ := h
  exact ⟨vs, e.trans q, r.car c⟩
 | o C fs =>
  obtain ⟨dx, ws, q, r⟩ := h
  exact ⟨dx, ws, e.trans q, r.car c⟩
 | d kvs =>
  obtain ⟨ws, q, r⟩ := h
  exact ⟨ws, e.trans q, r.car c⟩
theorem Rs.same (R : Rs K T F σ η H) (s : Same H H1) : Rs K T F σ η H1 := by
 have c : Car (Oof F σ η) (Oof F σ η) H H1 := Car.same s
 refine ⟨R.len, fun i x e => ?_, fun i o e => ?_, R.nd, R.tr.same s, R.tb.ext s⟩
 ·obtain ⟨v, h1, h2⟩ := R.va i x e
  exact ⟨v, h1, h2.car c⟩
 ·obtain ⟨a, h1, h2, h3⟩ := R.ow i o e
  refine ⟨a, h1, h2.car c ?_, h3⟩
  cases q : H a with
  | none => exact absurd (Nw.of q) (R.trO a (.inr ⟨i, o, h1, e⟩))
  | some u => exact s a u q
end
abbrev TEp := EP' → (PV → EP' → Prop) → Prop
abbrev TTp := EP' → (Bool → EP' → Prop) → Prop
abbrev TAp := EP' → (List PV → EP' → Prop) → Prop
structure EndsP where
 nx : EP' → Prop
 rt : PV → EP' → Prop
 bk : EP' → Prop := fun _ => False
 ct : EP' → Prop := fun _ => False
abbrev TSp := EndsP → EP' → Prop
def up (K : PySem.W.Frag) (T : List (Addr × Str)) (tp : TEp) : TE := fun σ H Q => ∃ F η P, Rs K T F σ η H ∧ tp η P ∧ ∀ x η' v H', P x η' → Ext σ η σ η' H H' → Rs K T F σ η' H' → Rep K (Oof F σ η') H' x v → Q v H'
def upB (K : PySem.W.Frag) (T : List (Addr × Str)) (tp : TTp) : TT := fun σ H Q => ∃ F η P, Rs K T F σ η H ∧ tp η P ∧ ∀ x η' H', P x η' → Ext σ η σ η' H H' → Rs K T F σ η' H' → Q x H'
def upA (K : PySem.W.Frag) (T : List (Addr × Str)) (tp : TAp) : TA := fun σ H Q => ∃ F η P, Rs K T F σ η H ∧ tp η P ∧ ∀ xs η' vs H', P xs η' → Ext σ η σ η' H H' → Rs K T F σ η' H' → Reps K (Oof F σ η') H' xs vs → Q vs H'
def upS (K : PySem.W.Frag) (T : List (Addr × Str)) (ts : TSp) : TS := fun D σ H => ∃ F η D', Rs K T F σ η H ∧ ts D' η ∧
 (∀ η' σ' H', D'.nx η' → Ext σ η σ' η' H H' → Rs K T F σ' η' H' → D.nx σ' H') ∧
 (∀ η' σ' H', D'.bk η' → Ext σ η σ' η' H H' → Rs K T F σ' η' H' → D.bk σ' H') ∧
 (∀ η' σ' H', D'.ct η' → Ext σ η σ' η' H H' → Rs K T F σ' η' H' → D.ct σ' H') ∧
 (∀ x η' σ' v H', D'.rt x η' → Ext σ η σ' η' H H' → Rs K T F σ' η' H' → Rep K (Oof F σ' η') H' x v → D.rt v H')
section
variable {X : Cx}
theorem PE.weak {e : Expr} {t t' : TE} (h : PE X e t) (w : ∀ σ H Q, t' σ H Q → t σ H Q) : PE X e t' := ⟨fun pins s σ H Q I q => h.run pins s σ H Q I (w _ _ _ q)⟩
theorem PT.weak {e : Expr} {t t' : TT} (h : PT X e t) (w : ∀ σ H Q, t' σ H Q → t σ H Q) : PT X e t' := ⟨fun pins s σ H Q I q => h.run pins s σ H Q I (w _ _ _ q)⟩
theorem PW.weak {e : Expr} {t t' : TT} (h : PW X e t) (w : ∀ σ H Q, t' σ H Q → t σ H Q) : PW X e t' := ⟨fun wh pins s σ H Q I q => h.run wh pins s σ H Q I (w _ _ _ q)⟩
theorem PA.weak {e : List Expr} {t t' : TA} (h : PA X e t) (w : ∀ σ H Q, t' σ H Q → t σ H Q) : PA X e t' := ⟨fun pos pins s σ H Q I q => h.run pos pins s σ H Q I (w _ _ _ q)⟩
theorem PS.weak {e : Stmt} {t t' : TS} (h : PS X e t) (w : ∀ D σ H, t' D σ H → t D σ H) : PS X e t' := ⟨fun pins s σ H D I q => h.run pins s σ H D I (w _ _ _ q)⟩
theorem PSs.weak {e : List Stmt} {t t' : TS} (h : PSs X e t) (w : ∀ D σ H, t' D σ H → t D σ H) : PSs X e t' := ⟨fun pins s σ H D I q => h.run pins s σ H D I (w _ _ _ q)⟩
end
section
variable {K : PySem.W.Frag} {T : List (Addr × Str)} {F : Addr → Prop} {σ : St} {η : EP'} {H H' : Hp} {i : Nat} {x : PV} {v : V} {a : Addr} {o : Ow}
theorem ne_set {α : Type} {l : List α} {i j : Nat} {x : α} (h : j ≠ i) : (l.set i x)[j]? = l[j]? := List.getElem?_set_ne (Ne.symm h)
theorem at_set {α : Type} {l : List α} {i : Nat} {x y : α} (h : (l.set i x)[i]? = some y) : y = x := by
 by_cases hi : i < l.length
 ·rw [List.getElem?_set_self hi] at h; exact (Option.some.inj h).symm
 ·rw [List.getElem?_eq_none (by simpa using hi)] at h; cases h
theorem own_set {b : Addr} {w : V} (h : IsOwn (σ.set i (some w)) (η.set i (.va x)) b) : IsOwn σ η b := by
 obtain ⟨j, o, h1, h2⟩ := h
 by_cases e : j = i
 ·subst e; cases at_set h2
 ·rw [ne_set e] at h1 h2; exact ⟨j, o, h1, h2⟩
theorem own_set1 {b : Addr} (h : IsOwn σ (η.set i (.va x)) b) : IsOwn σ η b := by
 obtain ⟨j, o, h1, h2⟩ := h
 by_cases e : j = i
 ·subst e; cases at_set h2
 ·rw [ne_set e] at h2; exact ⟨j, o, h1, h2⟩
theorem Oof_mono {σ' : St} {η' : EP'} (h : ∀ b, IsOwn σ' η' b → IsOwn σ η b) : ∀ b, Oof F σ' η' b → Oof F σ η b := fun b z => z.elim .inl fun z => .inr (h b z)
theorem OwAt.mono {O O' : Addr → Prop} (h : ∀ b, O' b → O b) (r : OwAt K O H a o) : OwAt K O' H a o := r.car (Car.mono h) rfl
theorem Rs.setv (R : Rs K T F σ η H) (r : Rep K (Oof F σ η) H x v) : Rs K T F (σ.set i (some v)) (η.set i (.va x)) H := by
 have m : ∀ b, Oof F (σ.set i (some v)) (η.set i (.va x)) b → Oof F σ η b := Oof_mono fun b z => own_set z
 refine ⟨by simpa using R.len, fun j y e => ?_, fun j o e => ?_, fun j k o o' a e1 e2 e3 e4 => ?_, R.tr, R.tb⟩
 ·by_cases h : j = i
  ·subst h
   have := at_set e; cases this
   have hj : j < η.length := by
    have := (List.getElem?_eq_some_iff.mp e).1; simpa using this
   exact ⟨v, by rw [List.getElem?_set_self (by rw [R.len]; exact hj)], r.mono m⟩
  ·rw [ne_set h] at e ⊢
   obtain ⟨w, h1, h2⟩ := R.va j y e
   exact ⟨w, h1, h2.mono m⟩
 ·by_cases h : j = i
  ·subst h; cases at_set e
  ·rw [ne_set h] at e ⊢
   obtain ⟨a, h1, h2, h3⟩ := R.ow j o e
   exact ⟨a, h1, h2.mono m, h3⟩
 ·have hj : j ≠ i := fun h => by subst h; cases at_set e1
  have hk : k ≠ i := fun h => by subst h; cases at_set e2
  rw [ne_set hj] at e1 e3
  rw [ne_set hk] at e2 e4
  exact R.nd j k o o' a e1 e2 e3 e4
theorem Ext.setv {w : V} : Ext σ η (σ.set i (some w)) (η.set i (.va x)) H H := ⟨fun _ _ e _ _ => e, fun _ e => e, fun _ z => .inl (own_set z), fun o e => by
 by_cases h : (0 : Nat) = i
 ·subst h; cases at_set e
 ·rw [ne_set h] at e ⊢
  exact ⟨o, e, rfl⟩⟩
def wkV : PV → PV
 | .pln xs => .tup xs
 | x => x
theorem Rep.wkV {O : Addr → Prop} {x : PV} {v : V} (h : Rep K O H x v) : Rep K O H (wkV x) v := by
 cases x <;> try exact h
 unfold Z.wkV
 unfold Rep at h ⊢
 obtain ⟨a, vs, o, e, n, h, d, r⟩ := h
 exact ⟨a, vs, e, .inl ⟨n, .inr ⟨o, h⟩⟩, r⟩
def frz : Ow → PV
 | .l xs => .lst xs
 | .o C fs => .ins C fs
 | .d kvs => .dic kvs
theorem OwAt.frz {O : Addr → Prop} (h : OwAt K O H a o) (n : ¬ O a) : Rep K O H (frz o) (.ref a) := by
 cases o with
 | l xs =>
  obtain ⟨vs, h1, h2⟩ := h
  unfold Z.frz Rep
  exact ⟨a, vs, rfl, n, h1, h2⟩
 | o C fs =>
  obtain ⟨dx, ws, h1, h2⟩ := h
  unfold Z.frz Rep
  exact ⟨a, dx, ws, rfl, n, h1, h2⟩
 | d kvs =>
  obtain ⟨ws, h1, h2⟩ := h
  unfold Z.frz Rep
  exact ⟨a, ws, rfl, n, h1, h2⟩
theorem Rs.freeze (R : Rs K T F σ η H) (e : η[i]? = some (.ow o)) : ∃ a, σ[i]? = some (some (V.ref a)) ∧ Rs K T F σ (η.set i (.va (frz o))) H ∧ Rep K (Oof F σ (η.set i (.va (frz o)))) H (frz o) (.ref a) := by
 obtain ⟨a, s, r, nf⟩ := R.ow i o e
 have m : ∀ b, Oof F σ (η.set i (.va (frz o))) b → Oof F σ η b := Oof_mono fun b z => own_set1 z
 have na : ¬ Oof F σ (η.set i (.va (frz o))) a := by
  rintro (z | ⟨j, o', h1, h2⟩)
  ·exact nf z
  ·have hj : j ≠ i := fun h => by subst h; cases at_set h2
   rw [ne_set hj] at h2
   exact hj (R.nd j i o' o a h2 e h1 s)
 have rep := (r.mono m).frz na
 refine ⟨a, s, ⟨by simpa using R.len, fun j y q => ?_, fun j o' q => ?_, fun j k p p' b e1 e2 e3 e4 => ?_, R.tr, R.tb⟩, rep⟩
 ·by_cases h : j = i
  ·subst h
   cases at_set q
   exact ⟨_, s, rep⟩
  ·rw [ne_set h] at q
   obtain ⟨w, h1, h2⟩ := R.va j y q
   exact ⟨w, h1, h2.mono m⟩
 ·by_cases h : j = i
  ·subst h; cases at_set q
  ·rw [ne_set h] at q
   obtain ⟨b, h1, h2, h3⟩ := R.ow j o' q
   exact ⟨b, h1, h2.mono m, h3⟩
 ·have hj : j ≠ i := fun h => by subst h; cases at_set e1
  have hk : k ≠ i := fun h => by subst h; cases at_set e2
  rw [ne_set hj] at e1
  rw [ne_set hk] at e2
  exact R.nd j k p p' b e1 e2 e3 e4
theorem Ext.freeze : Ext σ η σ (η.set i (.va x)) H H := ⟨fun _ _ e _ _ => e, fun _ e => e, fun _ z => .inl (own_set1 z), fun o e => by
 by_cases h : (0 : Nat) = i
 ·subst h; cases at_set e
 ·rw [ne_set h] at e
  exact ⟨o, e, rfl⟩⟩
end
section
variable {X : Cx} {T : List (Addr × Str)}
def Out (K : PySem.W.Frag) (O : Addr → Prop) (H : Hp) (P : PV → Prop) (Q : VK) : Prop := ∀ z v H', P z → Same H H' → Rep K O H' z v → Q v H'
abbrev R2p := PV → PV → (PV → Prop) → Prop
def r2 (K : PySem.W.Frag) (r : R2p) : R2 := fun x y H Q => ∃ O px py P, Trk O H ∧ Rep K O H px x ∧ Rep K O H py y ∧ r px py P ∧ Out K O H P Q
abbrev R1p := List PV → (PV → Prop) → Prop
def r1 (K : PySem.W.Frag) (r : R1p) : List V → Hp → VK → Prop := fun vs H Q => ∃ O ps P, Trk O H ∧ Reps K O H ps vs ∧ r ps P ∧ Out K O H P Q
def tOpP (r : R2p) (ta tb : TEp) : TEp := fun η P => ta η fun x η1 => tb η1 fun y η2 => r x y fun z => P z η2
def tCBP (r : R1p) (t : TAp) : TEp := fun η P => t η fun xs η1 => r xs fun z => P z η1
def tConP (x : PV) : TEp := fun η P => P x η
def tVarP (i : Nat) : TEp := fun η P => match η[i]? with
 | some (.va x) => P x η
 | some (.ow o) => P (frz o) (η.set i (.va (frz o)))
 | _ => False
def tNilP : TAp := fun η P => P [] η
def tConsP (ta : TEp) (t : TAp) : TAp := fun η P => ta η fun x η1 => t η1 fun xs η2 => P (x :: xs) η2
variable {e a b c : Expr} {es : List Expr} {ta tb tc : TEp} {t : TAp} {pos : Pos}
theorem z_var {i : Nat} {x : Str} (h : PE X (.Name x pos) (tVar i)) : PE X (.Name x pos) (up X.K T (tVarP i)) := by
 refine PE.weak h fun σ H Q q => ?_
 obtain ⟨F, η, P, R, h, k⟩ := q
 unfold tVarP at h
 split at h
 ·rename_i y e
  obtain ⟨v, h1, h2⟩ := R.va i y e
  exact ⟨v, h1, k _ _ _ _ h .refl R h2⟩
 ·rename_i o e
  obtain ⟨a, h1, h2, h3⟩ := R.freeze e
  exact ⟨_, h1, k _ _ _ _ h .freeze h2 h3⟩
 ·cases h
theorem zv (i : Nat) {x : Str} {pos : Pos} (hN : X.N[i]? = some x := by rfl) (hv : Vis X.env.scope x := by first | exact Or.inl rfl | exact Or.inr (Or.inl rfl) | exact Or.inr (Or.inr rfl)) (hd : (x == ("__debug__" : Str)) = false := by decide)
  (hcd : (x == ("__classdict__" : Str)) = false := by decide) : PE X (.Name x pos) (up X.K T (tVarP i)) := z_var (pe_var hN hv hd hcd)
theorem z_con {v : V} {x : PV} (h : PE X e (tC v)) (r : ∀ O H, Rep X.K O H x v) : PE X e (up X.K T (tConP x)) := by
 refine PE.weak h fun σ H Q q => ?_
 obtain ⟨F, η, P, R, h, k⟩ := q
 exact k _ _ _ _ h .refl R (r _ _)
theorem z_int {i j} : PE X (.Constant (.int i) j pos) (up X.K T (tConP (.int i))) := z_con pe_int fun _ _ => by unfold Rep; rfl
theorem z_bl {i j} : PE X (.Constant (.bool i) j pos) (up X.K T (tConP (.bl i))) := z_con pe_bl fun _ _ => by unfold Rep; rfl
theorem z_non {j} : PE X (.Constant .none j pos) (up X.K T (tConP .non)) := z_con pe_non fun _ _ => by unfold Rep; rfl
theorem z_str {i j} : PE X (.Constant (.str i) j pos) (up X.K T (tConP (.str i))) := z_con pe_str fun _ _ => by unfold Rep; rfl
theorem z_op {op : Operator} {r : R2p} (ho : OpR X (binaryOp op) (r2 X.K r)) (ha : PE X a (up X.K T ta)) (hb : PE X b (up X.K T tb)) : PE X (.BinOp a op b pos) (up X.K T (tOpP r ta tb)) := by
 refine PE.weak (pe_op ho ha hb) fun σ H Q q => ?_
 obtain ⟨F, η, P, R, h, k⟩ := q
 refine ⟨F, η, _, R, h, fun x η1 v H1 h1 e1 R1 r1' => ⟨F, η1, _, R1, h1, fun y η2 w H2 h2 e2 R2' rw' => ?_⟩⟩
 exact ⟨Oof F σ η2, x, y, _, R2'.trO, r1'.car e2.car, rw', h2, fun z u H3 pz s rz => k z η2 u H3 pz ((e1.trans e2).trans (.same s)) (R2'.same s) rz⟩
theorem z_cmp {op : CmpOp} {r : R2p} (ho : OpR X (compareOp op) (r2 X.K r)) (ha : PE X a (up X.K T ta)) (hb : PE X b (up X.K T tb)) (hm : behindInMarks op b = false := by first | exact nomark _ | rfl) : PE X (.Compare a [op] [b] pos) (up X.K T (tOpP r ta tb)) := by
 refine PE.weak (pe_cmpR ho ha hb hm) fun σ H Q q => ?_
 obtain ⟨F, η, P, R, h, k⟩ := q
 refine ⟨F, η, _, R, h, fun x η1 v H1 h1 e1 R1 r1' => ⟨F, η1, _, R1, h1, fun y η2 w H2 h2 e2 R2' rw' => ?_⟩⟩
 exact ⟨Oof F σ η2, x, y, _, R2'.trO, r1'.car e2.car, rw', h2, fun z u H3 pz s rz => k z η2 u H3 pz ((e1.trans e2).trans (.same s)) (R2'.same s) rz⟩
def tChainP (r r' : R2p) (ta tb tc : TEp) : TEp := fun η P => ta η fun x η1 => tb η1 fun y η2 => r x y fun z => ∃ k, z = .bl k ∧ if k = true then tc η2 fun w η3 => r' y w fun z' => P z' η3 else P (.bl false) η2
theorem za_nil : PA X [] (upA X.K T tNilP) := by
 refine PA.weak pa_nil fun σ H Q q => ?_
 obtain ⟨F, η, P, R, h, k⟩ := q
 exact k [] η [] H h .refl R .nil
theorem za_cons (ha : PE X e (up X.K T ta)) (hr : PA X es (upA X.K T t)) (hs : starEach (e :: es) X.env = (false, eval e X.env) :: starEach es X.env := by rfl) : PA X (e :: es) (upA X.K T (tConsP ta t)) := by
 refine PA.weak (pa_cons ha hr hs) fun σ H Q q => ?_
 obtain ⟨F, η, P, R, h, k⟩ := q
 refine ⟨F, η, _, R, h, fun x η1 v H1 h1 e1 R1 r1' => ⟨F, η1, _, R1, h1, fun y η2 w H2 h2 e2 R2' rw' => ?_⟩⟩
 exact k (x :: y) η2 (v :: w) H2 h2 (e1.trans e2) R2' (.cons (r1'.car e2.car) rw')
theorem z_callB {x : Str} {id : String} {r : R1p} {p : Pos} (hc : CallR X (.builtin id) (r1 X.K r)) (hg : Gl X x) (hm : X.mg x = none) (hv : bootBuiltins x = some (.builtin id)) (ha : PA X (e :: es) (upA X.K T t)) (hn : x ≠ "__name__" := by decide) (hdb : (x == ("__debug__" : Str)) = false := by decide)
  (he : starEach (e :: es) X.env = (false, eval e X.env) :: starEach es X.env := by rfl) (hpl : (backTo pos (starEach es X.env)).any (·.1) = false := by rfl) : PE X (.Call (.Name x p) (e :: es) [] pos) (up X.K T (tCBP r t)) := by
 refine PE.weak (pe_callB hc hg hm hv ha hn hdb he hpl) fun σ H Q q => ?_
 obtain ⟨F, η, P, R, h, k⟩ := q
 refine ⟨F, η, _, R, h, fun x η1 v H1 h1 e1 R1 r1' => ?_⟩
 exact ⟨Oof F σ η1, x, _, R1.trO, r1', h1, fun z u H3 pz s rz => k z η1 u H3 pz (e1.trans (.same s)) (R1.same s) rz⟩
theorem z_callTy {x : Str} {id : String} {r : R1p} {p : Pos} (hc : CallR X (.type id) (r1 X.K r)) (hg : Gl X x) (hm : X.mg x = none) (hv : bootBuiltins x = some (.type id)) (ha : PA X (e :: es) (upA X.K T t)) (hn : x ≠ "__name__" := by decide) (hdb : (x == ("__debug__" : Str)) = false := by decide)
  (he : starEach (e :: es) X.env = (false, eval e X.env) :: starEach es X.env := by rfl) (hpl : (backTo pos (starEach es X.env)).any (·.1) = false := by rfl) : PE X (.Call (.Name x p) (e :: es) [] pos) (up X.K T (tCBP r t)) := by
 refine PE.weak (pe_callTy hc hg hm hv ha hn hdb he hpl) fun σ H Q q => ?_
 obtain ⟨F, η, P, R, h, k⟩ := q
 refine ⟨F, η, _, R, h, fun x η1 v H1 h1 e1 R1 r1' => ?_⟩
 exact ⟨Oof F σ η1, x, _, R1.trO, r1', h1, fun z u H3 pz s rz => k z η1 u H3 pz (e1.trans (.same s)) (R1.same s) rz⟩
def tTupP (t : TAp) : TEp := fun η P => t η fun xs η1 => xs.length ≤ sizeLine ∧ P (.tup xs) η1
def tLstP (t : TAp) : TEp := fun η P => t η fun xs η1 => xs.length ≤ sizeLine ∧ P (.lst xs) η1
theorem rep_newT {K : PySem.W.Frag} {O : Addr → Prop} {H : Hp} {p : Addr} {xs : List PV} {vs : List V} (tr : Trk O H) (hp : H p = none) (r : Reps K O H xs vs) : Rep K O (upd H p (.tup vs)) (.tup xs) (.ref p) := by
 unfold Rep
 exact ⟨p, vs, rfl, .inl ⟨tr.fresh hp, .inl upd_same⟩, r.car (Car.same (Same.new hp))⟩
theorem rep_newL {K : PySem.W.Frag} {O : Addr → Prop} {H : Hp} {p : Addr} {xs : List PV} {vs : List V} (tr : Trk O H) (hp : H p = none) (r : Reps K O H xs vs) : Rep K O (upd H p (.lst vs)) (.lst xs) (.ref p) := by
 unfold Rep
 exact ⟨p, vs, rfl, tr.fresh hp, upd_same, r.car (Car.same (Same.new hp))⟩
theorem z_tup {x1} (h : PA X es (upA X.K T t)) : PE X (.Tuple es x1 pos) (up X.K T (tTupP t)) := by
 refine PE.weak (pe_tup h) fun σ H Q q => ?_
 obtain ⟨F, η, P, R, h, k⟩ := q
 refine ⟨F, η, _, R, h, fun xs η1 vs H1 h1 e1 R1 r1' => ⟨by rw [r1'.len]; exact h1.1, fun p hp => ?_⟩⟩
 exact k _ η1 _ _ h1.2 (e1.trans (.same (Same.new hp))) (R1.same (Same.new hp)) (rep_newT R1.trO hp r1')
theorem z_lst (h : PA X es (upA X.K T t)) : PE X (.List es pos) (up X.K T (tLstP t)) := by
 refine PE.weak (pe_lst h) fun σ H Q q => ?_
 obtain ⟨F, η, P, R, h, k⟩ := q
 refine ⟨F, η, _, R, h, fun xs η1 vs H1 h1 e1 R1 r1' => ⟨by rw [r1'.len]; exact h1.1, fun p hp => ?_⟩⟩
 exact k _ η1 _ _ h1.2 (e1.trans (.same (Same.new hp))) (R1.same (Same.new hp)) (rep_newL R1.trO hp r1')
def truth : PV → Option Bool
 | .bl b => some b
 | .non => some false
 | .int i => some (i != 0)
 | .lst xs => some (!xs.isEmpty)
 | .tup xs => some (!xs.isEmpty)
 | _ => none
def tBlP (ta : TEp) : TTp := fun η P => ta η fun x η1 => match x with | .bl b => P b η1 | _ => False
theorem zt_val (h : PE X e (up X.K T ta)) (he : ∀ whole, isTrue e X.env whole = (do let v ← whole; standAt e.pos; holding [v] (truthy v)) := by intro _; rfl) : PT X e (upB X.K T (tBlP ta)) := by
 refine PT.weak (pt_val h he) fun σ H Q q => ?_
 obtain ⟨F, η, P, R, h, k⟩ := q
 refine ⟨F, η, _, R, h, fun x η1 v H1 h1 e1 R1 r1' => ?_⟩
 split at h1
 ·unfold Rep at r1'
  exact ⟨_, r1', k _ η1 H1 h1 e1 R1⟩
 ·cases h1
theorem zt_cmp {op : CmpOp} {r : R2p} (ho : OpR X (compareOp op) (r2 X.K r)) (ha : PE X a (up X.K T ta)) (hb : PE X b (up X.K T tb)) (hm : behindInMarks op b = false := by first | exact nomark _ | rfl) : PT X (.Compare a [op] [b] pos) (upB X.K T (tBlP (tOpP r ta tb))) := by
 refine PT.weak (pt_cmpR ho ha hb hm) fun σ H Q q => ?_
 obtain ⟨F, η, P, R, h, k⟩ := q
 refine ⟨F, η, _, R, h, fun x η1 v H1 h1 e1 R1 r1' => ⟨F, η1, _, R1, h1, fun y η2 w H2 h2 e2 R2' rw' => ?_⟩⟩
 refine ⟨Oof F σ η2, x, y, _, R2'.trO, r1'.car e2.car, rw', h2, fun z u H3 pz s rz => ?_⟩
 dsimp only at pz
 split at pz
 ·unfold Rep at rz
  exact ⟨_, rz, k _ η2 H3 pz ((e1.trans e2).trans (.same s)) (R2'.same s)⟩
 ·cases pz
theorem z_chain {op op' : CmpOp} {r r' : R2p} (ho : OpR X (compareOp op) (r2 X.K r)) (ho' : OpR X (compareOp op') (r2 X.K r')) (ha : PE X a (up X.K T ta)) (hb : PE X b (up X.K T tb)) (hc : PE X c (up X.K T tc))
  (pf : PE X (.Compare a [op, op'] [b, c] pos) (tChain (r2 X.K r) (r2 X.K r') (up X.K T ta) (up X.K T tb) (up X.K T tc))) : PE X (.Compare a [op, op'] [b, c] pos) (up X.K T (tChainP r r' ta tb tc)) := by
 refine PE.weak pf fun σ H Q q => ?_
 obtain ⟨F, η, P, R, h, k⟩ := q
 refine ⟨F, η, _, R, h, fun x η1 v H1 h1 e1 R1 r1' => ⟨F, η1, _, R1, h1, fun y η2 w H2 h2 e2 R2' rw' => ?_⟩⟩
 refine ⟨Oof F σ η2, x, y, _, R2'.trO, r1'.car e2.car, rw', h2, fun z u H3 pz s rz => ?_⟩
 obtain ⟨kk, rfl, pz⟩ := pz
 unfold Rep at rz
 refine ⟨kk, rz, ?_⟩
 cases kk with
 | false => exact k _ η2 _ H3 pz ((e1.trans e2).trans (.same s)) (R2'.same s) (by unfold Rep; rfl)
 | true =>
  simp only [if_true] at pz ⊢
  refine ⟨F, η2, _, R2'.same s, pz, fun z' η3 u' H4 h4 e4 R4 r4 => ?_⟩
  exact ⟨Oof F σ η3, y, z', _, R4.trO, (rw'.car (Car.same s)).car e4.car, r4, h4, fun z2 u2 H5 p5 s5 r5 => k z2 η3 u2 H5 p5 ((((e1.trans e2).trans (.same s)).trans e4).trans (.same s5)) (R4.same s5) r5⟩
def tAndP (t u : TTp) : TTp := fun η P => t η fun c η1 => if c = true then u η1 P else P false η1
def tOrP (t u : TTp) : TTp := fun η P => t η fun c η1 => if c = true then P true η1 else u η1 P
def tNotP (t : TTp) : TTp := fun η P => t η fun c η1 => P (!c) η1
variable {rest : List Expr} {tA tB : TTp}
theorem zw_or1 (ha : PT X a (upB X.K T tA)) : PW X (.BoolOp .Or [a] pos) (upB X.K T tA) := pw_or1 ha
theorem zw_or (ha : PT X a (upB X.K T tA)) (hb : PW X (.BoolOp .Or (b :: rest) pos) (upB X.K T tB)) : PW X (.BoolOp .Or (a :: b :: rest) pos) (upB X.K T (tOrP tA tB)) := by
 refine PW.weak (pw_or ha hb) fun σ H Q q => ?_
 obtain ⟨F, η, P, R, h, k⟩ := q
 refine ⟨F, η, _, R, h, fun x η1 H1 h1 e1 R1 => ?_⟩
 cases x with
 | true => exact k _ _ _ h1 e1 R1
 | false =>
  simp only [Bool.false_eq_true, if_false] at h1 ⊢
  exact ⟨F, η1, _, R1, h1, fun y η2 H2 h2 e2 R2' => k _ _ _ h2 (e1.trans e2) R2'⟩
theorem zt_not (ha : PT X a (upB X.K T tA)) : PT X (.UnaryOp .Not a pos) (upB X.K T (tNotP tA)) := by
 refine PT.weak (pt_not ha) fun σ H Q q => ?_
 obtain ⟨F, η, P, R, h, k⟩ := q
 exact ⟨F, η, _, R, h, fun x η1 H1 h1 e1 R1 => k _ _ _ h1 e1 R1⟩
def tAndVP (ta tb : TEp) : TEp := fun η P => ta η fun x η1 => match x with | .bl true => tb η1 P | .bl false => P (.bl false) η1 | _ => False
def tOrVP (ta tb : TEp) : TEp := fun η P => ta η fun x η1 => match x with | .bl false => tb η1 P | .bl true => P (.bl true) η1 | _ => False
def tNotVP (ta : TEp) : TEp := fun η P => ta η fun x η1 => match x with | .bl b => P (.bl (!b)) η1 | _ => False
theorem z_one {op} (h : PE X a (up X.K T ta)) : PE X (.BoolOp op [a] pos) (up X.K T ta) := pe_one h
theorem z_and (ha : PE X a (up X.K T ta)) (hb : PE X (.BoolOp .And (b :: rest) pos) (up X.K T tb)) : PE X (.BoolOp .And (a :: b :: rest) pos) (up X.K T (tAndVP ta tb)) := by
 refine PE.weak (pe_and ha hb) fun σ H Q q => ?_
 obtain ⟨F, η, P, R, h, k⟩ := q
 refine ⟨F, η, _, R, h, fun x η1 v H1 h1 e1 R1 r => ?_⟩
 split at h1
 ·unfold Rep at r
  exact ⟨true, r, F, η1, _, R1, h1, fun y η2 w H2 h2 e2 R2' r2' => k _ _ _ _ h2 (e1.trans e2) R2' r2'⟩
 ·have r' := r
  unfold Rep at r'
  exact ⟨false, r', k _ _ _ _ h1 e1 R1 (by unfold Rep; rfl)⟩
 ·cases h1
theorem z_not (ha : PE X a (up X.K T ta)) : PE X (.UnaryOp .Not a pos) (up X.K T (tNotVP ta)) := by
 refine PE.weak (pe_not ha) fun σ H Q q => ?_
 obtain ⟨F, η, P, R, h, k⟩ := q
 refine ⟨F, η, _, R, h, fun x η1 v H1 h1 e1 R1 r => ?_⟩
 split at h1
 ·unfold Rep at r
  exact ⟨_, r, k _ _ _ _ h1 e1 R1 (by unfold Rep; rfl)⟩
 ·cases h1
def tIfP (t : TTp) (ta tb : TEp) : TEp := fun η P => t η fun c η1 => if c = true then ta η1 P else tb η1 P
theorem z_ifExp (hc : PT X c (upB X.K T tA)) (ha : PE X a (up X.K T ta)) (hb : PE X b (up X.K T tb)) : PE X (.IfExp c a b pos) (up X.K T (tIfP tA ta tb)) := by
 refine PE.weak (pe_ifExp hc ha hb) fun σ H Q q => ?_
 obtain ⟨F, η, P, R, h, k⟩ := q
 refine ⟨F, η, _, R, h, fun x η1 H1 h1 e1 R1 => ?_⟩
 cases x with
 | true =>
  simp only [if_true] at h1 ⊢
  exact ⟨F, η1, _, R1, h1, fun y η2 w H2 h2 e2 R2' r2' => k _ _ _ _ h2 (e1.trans e2) R2' r2'⟩
 | false =>
  simp only [Bool.false_eq_true, if_false] at h1 ⊢
  exact ⟨F, η1, _, R1, h1, fun y η2 w H2 h2 e2 R2' r2' => k _ _ _ _ h2 (e1.trans e2) R2' r2'⟩
end
section
variable {X : Cx}
theorem OpR.weak {f : Value → Value → Sem Value} {r r' : R2} (h : OpR X f r) (w : ∀ x y H Q, r' x y H Q → r x y H Q) : OpR X f r' := fun pins s σ H x y v u Q I rx ry q => h pins s σ H x y v u Q I rx ry (w _ _ _ _ q)
theorem CallR.weak {f : Value} {r r' : List V → Hp → VK → Prop} (h : CallR X f r) (w : ∀ x H Q, r' x H Q → r x H Q) : CallR X f r' := fun pins s σ H xs us Q I r q => h pins s σ H xs us Q I r (w _ _ _ q)
variable {K : PySem.W.Frag} {O : Addr → Prop} {H : Hp} {v : V} {P : PV → Prop} {Q : VK}
-- inversion
theorem Rep.int_ {i} (h : Rep K O H (.int i) v) : v = .int i := by unfold Rep at h; exact h
theorem Rep.str_ {i} (h : Rep K O H (.str i) v) : v = .str i := by unfold Rep at h; exact h
theorem Rep.bl_ {i} (h : Rep K O H (.bl i) v) : v = .bl i := by unfold Rep at h; exact h
theorem Rep.non_ (h : Rep K O H .non v) : v = .non := by unfold Rep at h; exact h
theorem Rep.raw_ {u} (h : Rep K O H (.raw u) v) : v = u := by unfold Rep at h; exact h
theorem Rep.lst_ {xs} (h : Rep K O H (.lst xs) v) : ∃ a vs, v = .ref a ∧ ¬ O a ∧ H a = some (.lst vs) ∧ Reps K O H xs vs := by unfold Rep at h; exact h
theorem Rep.tup_ {xs} (h : Rep K O H (.tup xs) v) : ∃ a vs, v = .ref a ∧ TupAt K O H a vs ∧ Reps K O H xs vs := by unfold Rep at h; exact h
theorem Rep.scr_ {ns} (h : Rep K O H (.scr ns) v) : ∃ a o, v = .ref a ∧ ¬ O a ∧ H a = some (.frz o (.lst (ns.map V.int))) := by unfold Rep at h; exact h
theorem Rep.ins_ {C fs} (h : Rep K O H (.ins C fs) v) : ∃ a dx ws, v = .ref a ∧ ¬ O a ∧ H a = some (.ins C dx ws) ∧ RepF K O H fs ws := by unfold Rep at h; exact h
theorem rep_int {i} : Rep K O H (.int i) (.int i) := by unfold Rep; rfl
theorem rep_str {i} : Rep K O H (.str i) (.str i) := by unfold Rep; rfl
theorem rep_bl {i} : Rep K O H (.bl i) (.bl i) := by unfold Rep; rfl
theorem rep_non : Rep K O H .non .non := by unfold Rep; rfl
theorem Out.int {i} (h : Out K O H P Q) (p : P (.int i)) : Q (.int i) H := h _ _ _ p (Same.refl _) rep_int
theorem Out.str {i} (h : Out K O H P Q) (p : P (.str i)) : Q (.str i) H := h _ _ _ p (Same.refl _) rep_str
theorem Out.bl {i} (h : Out K O H P Q) (p : P (.bl i)) : Q (.bl i) H := h _ _ _ p (Same.refl _) rep_bl
theorem Out.non (h : Out K O H P Q) (p : P .non) : Q .non H := h _ _ _ p (Same.refl _) rep_non
theorem Out.newL {xs vs} {p : Addr} (h : Out K O H P Q) (q : P (.lst xs)) (tr : Trk O H) (r : Reps K O H xs vs) (hp : H p = none) : Q (.ref p) (upd H p (.lst vs)) := h _ _ _ q (Same.new hp) (rep_newL tr hp r)
theorem Out.newT {xs vs} {p : Addr} (h : Out K O H P Q) (q : P (.tup xs)) (tr : Trk O H) (r : Reps K O H xs vs) (hp : H p = none) : Q (.ref p) (upd H p (.tup vs)) := h _ _ _ q (Same.new hp) (rep_newT tr hp r)
def rAdd : R2p := fun x y P => match x, y with
 | .int i, .int j => P (.int (i + j))
 | .str x, .str y => x.length + y.length ≤ sizeLine ∧ P (.str (x ++ y))
 | .lst xs, .lst ys => xs.length + ys.length ≤ sizeLine ∧ P (.lst (xs ++ ys))
 | .tup xs, .tup ys => xs ≠ [] ∧ xs.length + ys.length ≤ sizeLine ∧ P (.tup (xs ++ ys))
 | _, _ => False
theorem zo_add : OpR X (binaryOp .Add) (r2 X.K rAdd) := by
 refine OpR.weak ((op_add (X := X)).or (op_add_str.or (op_cat.or op_catT))) fun x y H Q h => ?_
 obtain ⟨O, px, py, P, tr, hx, hy, h, k⟩ := h
 unfold rAdd at h
 split at h
 ·exact .inl ⟨_, _, hx.int_, hy.int_, k.int h⟩
 ·exact .inr (.inl ⟨_, _, hx.str_, hy.str_, h.1, k.str h.2⟩)
 ·obtain ⟨a, vs, e1, n1, h1, q1⟩ := hx.lst_
  obtain ⟨b, us, e2, n2, h2, q2⟩ := hy.lst_
  exact .inr (.inr (.inl ⟨a, b, vs, us, e1, e2, h1, h2, by rw [q1.len, q2.len]; exact h.1, fun p hp => k.newL h.2 tr (q1.app q2) hp⟩))
 ·obtain ⟨a, vs, e1, h1, q1⟩ := hx.tup_
  obtain ⟨b, us, e2, h2, q2⟩ := hy.tup_
  refine .inr (.inr (.inr ⟨a, b, vs, us, e1, e2, h1.sq, h2.sq, fun z => h.1 (by rw [z] at q1; exact List.length_eq_zero_iff.mp q1.len.symm), by rw [q1.len, q2.len]; exact h.2.1, fun z => ?_, fun _ p hp => k.newT h.2.2 tr (q1.app q2) hp⟩))
  refine k _ _ _ h.2.2 (Same.refl _) ?_
  unfold Rep
  exact ⟨a, vs, rfl, h1, by have := q1.app q2; rw [z, List.append_nil] at this; exact this⟩
 ·cases h
def rSub : R2p := fun x y P => match x, y with
 | .int i, .int j => P (.int (i - j))
 | _, _ => False
theorem zo_sub : OpR X (binaryOp .Sub) (r2 X.K rSub) := by
 refine OpR.weak (op_sub (X := X)) fun x y H Q h => ?_
 obtain ⟨O, px, py, P, tr, hx, hy, h, k⟩ := h
 unfold rSub at h
 split at h
 ·exact ⟨_, _, hx.int_, hy.int_, k.int h⟩
 ·cases h
def rMul : R2p := fun x y P => match x, y with
 | .int i, .int j => CMul i j ∧ P (.int (i * j))
 | .lst xs, .int k => -(2 ^ 63) ≤ k ∧ k < 2 ^ 63 ∧ xs.length * k.toNat ≤ sizeLine ∧ P (.lst (List.replicate k.toNat xs).flatten)
 | _, _ => False
theorem Reps.flat {xs vs} (h : Reps K O H xs vs) : ∀ n, Reps K O H (List.replicate n xs).flatten (List.replicate n vs).flatten
 | 0 => by simp; exact .nil
 | n + 1 => by simp only [List.replicate_succ, List.flatten_cons]; exact h.app (h.flat n)
theorem zo_mul : OpR X (binaryOp .Mult) (r2 X.K rMul) := by
 refine OpR.weak ((op_mul (X := X)).or op_rep) fun x y H Q h => ?_
 obtain ⟨O, px, py, P, tr, hx, hy, h, k⟩ := h
 unfold rMul at h
 split at h
 ·exact .inl ⟨_, _, hx.int_, hy.int_, h.1, k.int h.2⟩
 ·obtain ⟨a, vs, e1, n1, h1, q1⟩ := hx.lst_
  exact .inr ⟨a, _, vs, e1, hy.int_, h1, h.1, h.2.1, by rw [q1.len]; exact h.2.2.1, fun p hp => k.newL h.2.2.2 tr (q1.flat _) hp⟩
 ·cases h
def rDiv : R2p := fun x y P => match x, y with
 | .int i, .int j => CDiv i j ∧ P (.int (i / j))
 | _, _ => False
theorem zo_div : OpR X (binaryOp .FloorDiv) (r2 X.K rDiv) := by
 refine OpR.weak (op_fdiv (X := X)) fun x y H Q h => ?_
 obtain ⟨O, px, py, P, tr, hx, hy, h, k⟩ := h
 unfold rDiv at h
 split at h
 ·exact ⟨_, _, hx.int_, hy.int_, h.1, k.int h.2⟩
 ·cases h
def rMod : R2p := fun x y P => match x, y with
 | .int i, .int j => 0 < j ∧ P (.int (i % j))
 | _, _ => False
theorem zo_mod : OpR X (binaryOp .Mod) (r2 X.K rMod) := by
 refine OpR.weak (op_mod (X := X)) fun x y H Q h => ?_
 obtain ⟨O, px, py, P, tr, hx, hy, h, k⟩ := h
 unfold rMod at h
 split at h
 ·exact ⟨_, _, hx.int_, hy.int_, h.1, k.int h.2⟩
 ·cases h
def rPow : R2p := fun x y P => match x, y with
 | .int i, .int j => CPow i j ∧ P (.int (i ^ j.toNat))
 | _, _ => False
theorem zo_pow : OpR X (binaryOp .Pow) (r2 X.K rPow) := by
 refine OpR.weak (op_pow (X := X)) fun x y H Q h => ?_
 obtain ⟨O, px, py, P, tr, hx, hy, h, k⟩ := h
 unfold rPow at h
 split at h
 ·exact ⟨_, _, hx.int_, hy.int_, h.1, k.int h.2⟩
 ·cases h
def rLt : R2p := fun x y P => match x, y with
 | .int i, .int j => P (.bl (decide (i < j)))
 | .str x, .str y => P (.bl (decide (x.cps.toList < y.cps.toList)))
 | _, _ => False
theorem zo_lt : OpR X (compareOp .Lt) (r2 X.K rLt) := by
 refine OpR.weak ((op_lt (X := X)).or op_lt_str) fun x y H Q h => ?_
 obtain ⟨O, px, py, P, tr, hx, hy, h, k⟩ := h
 unfold rLt at h
 split at h
 ·exact .inl ⟨_, _, hx.int_, hy.int_, k.bl h⟩
 ·exact .inr ⟨_, _, hx.str_, hy.str_, k.bl h⟩
 ·cases h
def rGt : R2p := fun x y P => match x, y with
 | .int i, .int j => P (.bl (decide (j < i)))
 | _, _ => False
theorem zo_gt : OpR X (compareOp .Gt) (r2 X.K rGt) := by
 refine OpR.weak (op_gt (X := X)) fun x y H Q h => ?_
 obtain ⟨O, px, py, P, tr, hx, hy, h, k⟩ := h
 unfold rGt at h
 split at h
 ·exact ⟨_, _, hx.int_, hy.int_, k.bl h⟩
 ·cases h
def rGe : R2p := fun x y P => match x, y with
 | .int i, .int j => P (.bl (decide (j ≤ i)))
 | _, _ => False
theorem zo_ge : OpR X (compareOp .GtE) (r2 X.K rGe) := by
 refine OpR.weak (op_ge (X := X)) fun x y H Q h => ?_
 obtain ⟨O, px, py, P, tr, hx, hy, h, k⟩ := h
 unfold rGe at h
 split at h
 ·exact ⟨_, _, hx.int_, hy.int_, k.bl h⟩
 ·cases h
end
mutual
def toD : PV → Option PyData
 | .non => some .none
 | .bl b => some (.bool b)
 | .int i => some (.int i)
 | .str x => some (.str x)
 | .tup xs => (toDs xs).map .tuple
 | .lst xs => (toDs xs).map .list
 | .scr _ => none
 | .ins _ _ => none
 | .dic _ => none
 | .raw _ => none
 | .pln xs => (toDs xs).map .tuple
 | .exn _ _ _ => none
def toDs : List PV → Option (List PyData)
 | [] => some []
 | x :: xs => match toD x, toDs xs with
  | some d, some ds => some (d :: ds)
  | _, _ => none
end
theorem toDs_cons {x : PV} {xs : List PV} {ds : List PyData} (h : toDs (x :: xs) = some ds) : ∃ d r, ds = d :: r ∧ toD x = some d ∧ toDs xs = some r := by
 unfold toDs at h
 split at h
 ·rename_i d r h1 h2
  cases h
  exact ⟨d, r, rfl, h1, h2⟩
 ·cases h
section
variable {K : PySem.W.Frag} {O : Addr → Prop} {H : Hp}
mutual
theorem Rep.dp : ∀ (x : PV) (v : V) (d : PyData), Rep K O H x v → toD x = some d → Dp K H v d
 | .non, _, _, h, e => by cases h.non_; unfold toD at e; cases e; exact .non
 | .bl _, _, _, h, e => by cases h.bl_; unfold toD at e; cases e; exact .bl _
 | .int _, _, _, h, e => by cases h.int_; unfold toD at e; cases e; exact .int _
 | .str _, _, _, h, e => by cases h.str_; unfold toD at e; cases e; exact .str _
 | .tup xs, _, _, h, e => by
  obtain ⟨a, vs, rfl, t, r⟩ := h.tup_
  unfold toD at e
  cases q : toDs xs with
  | none => rw [q] at e; cases e
  | some ds => rw [q] at e; cases e; exact .tup t.sq (Reps.dp xs vs ds r q)
 | .lst xs, _, _, h, e => by
  obtain ⟨a, vs, rfl, n, t, r⟩ := h.lst_
  unfold toD at e
  cases q : toDs xs with
  | none => rw [q] at e; cases e
  | some ds => rw [q] at e; cases e; exact .lst (SqL.of t) (Reps.dp xs vs ds r q)
 | .scr _, _, _, _, e => by unfold toD at e; cases e
 | .ins _ _, _, _, _, e => by unfold toD at e; cases e
 | .dic _, _, _, _, e => by unfold toD at e; cases e
 | .raw _, _, _, _, e => by unfold toD at e; cases e
 | .exn _ _ _, _, _, _, e => by unfold toD at e; cases e
 | .pln xs, _, _, h, e => by
  have h' := h.wkV
  unfold wkV at h'
  obtain ⟨a, vs, rfl, t, r⟩ := h'.tup_
  unfold toD at e
  cases q : toDs xs with
  | none => rw [q] at e; cases e
  | some ds => rw [q] at e; cases e; exact .tup t.sq (Reps.dp xs vs ds r q)
theorem Reps.dp : ∀ (xs : List PV) (vs : List V) (ds : List PyData), Reps K O H xs vs → toDs xs = some ds → DpAll K H vs ds
 | [], _, _, h, e => by rw [h.inv0]; unfold toDs at e; cases e; exact .nil
 | x :: xs, _, _, h, e => by
  obtain ⟨v, us, rfl, r, t⟩ := h.inv
  obtain ⟨d, ds, rfl, h1, h2⟩ := toDs_cons e
  exact .cons (Rep.dp x v d r h1) (Reps.dp xs us ds t h2)
end
end
section
variable {X : Cx}
def rEqP (neg : Bool) : R2p := fun x y P => ∃ d e, toD x = some d ∧ toD y = some e ∧ SeqAt.shaped d = true ∧ SeqAt.shaped e = true ∧ P (.bl (if neg then !PyData.eqv d e else PyData.eqv d e))
theorem zo_eq (hu : X.A.units + 64 < cLine) : OpR X (compareOp .Eq) (r2 X.K (rEqP false)) := by
 refine OpR.weak (op_eqD hu) fun x y H Q h => ?_
 obtain ⟨O, px, py, P, tr, hx, hy, ⟨d, e, h1, h2, h3, h4, h⟩, k⟩ := h
 exact ⟨d, e, Rep.dp _ _ _ hx h1, Rep.dp _ _ _ hy h2, h3, h4, k.bl h⟩
theorem zo_ne (hu : X.A.units + 64 < cLine) : OpR X (compareOp .NotEq) (r2 X.K (rEqP true)) := by
 refine OpR.weak (op_neD hu) fun x y H Q h => ?_
 obtain ⟨O, px, py, P, tr, hx, hy, ⟨d, e, h1, h2, h3, h4, h⟩, k⟩ := h
 exact ⟨d, e, Rep.dp _ _ _ hx h1, Rep.dp _ _ _ hy h2, h3, h4, k.bl h⟩
def rEqI (neg : Bool) : R2p := fun x y P => match x, y with
 | .int i, .int j => P (.bl (if neg then !decide (i = j) else decide (i = j)))
 | .str i, .str j => P (.bl (if neg then !decide (i = j) else decide (i = j)))
 | .bl i, .bl j => P (.bl (if neg then !decide (i = j) else decide (i = j)))
 | _, _ => False
theorem zo_eqI : OpR X (compareOp .Eq) (r2 X.K (rEqI false)) := by
 refine OpR.weak (op_eq (X := X)) fun x y H Q h => ?_
 obtain ⟨O, px, py, P, tr, hx, hy, h, k⟩ := h
 unfold rEqI at h
 split at h
 ·rw [hx.int_, hy.int_]; refine ⟨rfl, k.bl ?_⟩; simpa using h
 ·rw [hx.str_, hy.str_]; refine ⟨rfl, k.bl ?_⟩; simpa using h
 ·rw [hx.bl_, hy.bl_]; refine ⟨rfl, k.bl ?_⟩; simpa using h
 ·cases h
theorem zo_neI : OpR X (compareOp .NotEq) (r2 X.K (rEqI true)) := by
 refine OpR.weak (op_ne (X := X)) fun x y H Q h => ?_
 obtain ⟨O, px, py, P, tr, hx, hy, h, k⟩ := h
 unfold rEqI at h
 split at h
 ·rw [hx.int_, hy.int_]; refine ⟨rfl, k.bl ?_⟩; simpa using h
 ·rw [hx.str_, hy.str_]; refine ⟨rfl, k.bl ?_⟩; simpa using h
 ·rw [hx.bl_, hy.bl_]; refine ⟨rfl, k.bl ?_⟩; simpa using h
 ·cases h
def rLe : R2p := fun x y P => match x, y with
 | .int i, .int j => P (.bl (decide (i ≤ j)))
 | .str x, .str y => P (.bl (!decide (y.cps.toList < x.cps.toList)))
 | _, _ => False
theorem zo_le : OpR X (compareOp .LtE) (r2 X.K rLe) := by
 refine OpR.weak ((op_le (X := X)).or op_le_str) fun x y H Q h => ?_
 obtain ⟨O, px, py, P, tr, hx, hy, h, k⟩ := h
 unfold rLe at h
 split at h
 ·exact .inl ⟨_, _, hx.int_, hy.int_, k.bl h⟩
 ·exact .inr ⟨_, _, hx.str_, hy.str_, k.bl h⟩
 ·cases h
def isNon : PV → Option Bool
 | .non => some true
 | .raw _ => none
 | _ => some false
def rIsN (neg : Bool) : R2p := fun x y P => match y with
 | .non => ∃ b, isNon x = some b ∧ P (.bl (if neg then !b else b))
 | _ => False
theorem isNon_rep {K : PySem.W.Frag} {O : Addr → Prop} {H : Hp} {x : PV} {v : V} {b : Bool} (h : Rep K O H x v) (e : isNon x = some b) : decide (v = .non) = b := by
 cases x <;> unfold isNon at e <;> try (cases e)
 ·rw [h.non_]; rfl
 ·rw [h.bl_]; rfl
 ·rw [h.int_]; rfl
 ·rw [h.str_]; rfl
 ·obtain ⟨a, vs, rfl, _⟩ := h.tup_; rfl
 ·obtain ⟨a, vs, rfl, _⟩ := h.lst_; rfl
 ·obtain ⟨a, vs, rfl, _⟩ := h.scr_; rfl
 ·obtain ⟨a, vs, _, rfl, _⟩ := h.ins_; rfl
 ·unfold Rep at h; obtain ⟨a, ws, rfl, _⟩ := h; rfl
 ·unfold Rep at h; obtain ⟨a, ws, o, rfl, _⟩ := h; rfl
 ·unfold Rep at h; obtain ⟨rfl, _⟩ := h; rfl
theorem zo_isnot : OpR X (compareOp .IsNot) (r2 X.K (rIsN true)) := by
 refine OpR.weak (op_notN (X := X)) fun x y H Q h => ?_
 obtain ⟨O, px, py, P, tr, hx, hy, h, k⟩ := h
 unfold rIsN at h
 split at h
 ·obtain ⟨b, h1, h2⟩ := h
  refine ⟨hy.non_, ?_⟩
  rw [isNon_rep hx h1]; exact k.bl h2
 ·cases h
def rInS (neg : Bool) : R2p := fun x y P => match x, y with
 | .str a, .str z => ∃ c, a = ⟨#[c]⟩ ∧ P (.bl (if neg then !decide (c ∈ z.cps.toList) else decide (c ∈ z.cps.toList)))
 | _, _ => False
theorem zo_in : OpR X (compareOp .In) (r2 X.K (rInS false)) := by
 refine OpR.weak (op_in_sign (X := X)) fun x y H Q h => ?_
 obtain ⟨O, px, py, P, tr, hx, hy, h, k⟩ := h
 unfold rInS at h
 split at h
 ·obtain ⟨c, rfl, h⟩ := h
  exact ⟨c, _, hx.str_, hy.str_, k.bl h⟩
 ·cases h
def rLen : R1p := fun ps P => match ps with
 | [.str x] => x.length ≤ sizeLine ∧ P (.int x.length)
 | [.lst xs] => P (.int xs.length)
 | [.tup xs] => P (.int xs.length)
 | [.scr xs] => P (.int xs.length)
 | _ => False
theorem zc_len : CallR X (.builtin "len") (r1 X.K rLen) := by
 refine CallR.weak (call_len (X := X)) fun xs H Q h => ?_
 obtain ⟨O, ps, P, tr, hx, h, k⟩ := h
 unfold rLen at h
 split at h
 ·obtain ⟨v, us, rfl, r, t⟩ := hx.inv
  cases t.inv0; cases r.str_
  exact ⟨_, _, rfl, ⟨h.1, rfl⟩, k.int h.2⟩
 ·obtain ⟨v, us, rfl, r, t⟩ := hx.inv
  cases t.inv0
  obtain ⟨a, vs, rfl, n, q, rr⟩ := r.lst_
  exact ⟨_, _, rfl, .inl ⟨vs, SqL.of q, rfl⟩, by rw [rr.len]; exact k.int h⟩
 ·obtain ⟨v, us, rfl, r, t⟩ := hx.inv
  cases t.inv0
  obtain ⟨a, vs, rfl, q, rr⟩ := r.tup_
  exact ⟨_, _, rfl, .inr ⟨vs, q.sq, rfl⟩, by rw [rr.len]; exact k.int h⟩
 ·obtain ⟨v, us, rfl, r, t⟩ := hx.inv
  cases t.inv0
  obtain ⟨a, o, rfl, n, q⟩ := r.scr_
  exact ⟨_, _, rfl, .inl ⟨_, .inl (.inr ⟨o, q⟩), rfl⟩, by rw [List.length_map]; exact k.int h⟩
 ·cases h
def rAbs : R1p := fun ps P => match ps with
 | [.int i] => P (.int (if i < 0 then -i else i))
 | _ => False
theorem zc_abs : CallR X (.builtin "abs") (r1 X.K rAbs) := by
 refine CallR.weak (call_abs (X := X)) fun xs H Q h => ?_
 obtain ⟨O, ps, P, tr, hx, h, k⟩ := h
 unfold rAbs at h
 split at h
 ·obtain ⟨v, us, rfl, r, t⟩ := hx.inv
  cases t.inv0; cases r.int_
  exact ⟨_, rfl, k.int h⟩
 ·cases h
theorem Reps.two {K : PySem.W.Frag} {O H} {x y : PV} {vs : List V} (h : Reps K O H [x, y] vs) : ∃ v w, vs = [v, w] ∧ Rep K O H x v ∧ Rep K O H y w := by
 obtain ⟨v, us, rfl, r, t⟩ := h.inv
 obtain ⟨w, us, rfl, r', t⟩ := t.inv
 cases t.inv0
 exact ⟨v, w, rfl, r, r'⟩
theorem Reps.one {K : PySem.W.Frag} {O H} {x : PV} {vs : List V} (h : Reps K O H [x] vs) : ∃ v, vs = [v] ∧ Rep K O H x v := by
 obtain ⟨v, us, rfl, r, t⟩ := h.inv
 cases t.inv0
 exact ⟨v, rfl, r⟩
def rMax2 : R1p := fun ps P => match ps with
 | [.int i, .int j] => P (.int (if j > i then j else i))
 | _ => False
def rMin2 : R1p := fun ps P => match ps with
 | [.int i, .int j] => P (.int (if j < i then j else i))
 | _ => False
theorem zc_max2 (hc : X.calm = true) : CallR X (.builtin "max") (r1 X.K rMax2) := by
 refine CallR.weak (call_max2 hc) fun xs H Q h => ?_
 obtain ⟨O, ps, P, tr, hx, h, k⟩ := h
 unfold rMax2 at h
 split at h
 ·obtain ⟨v, w, rfl, r, r'⟩ := hx.two
  cases r.int_; cases r'.int_
  exact ⟨_, _, rfl, k.int h⟩
 ·cases h
theorem zc_min2 (hc : X.calm = true) : CallR X (.builtin "min") (r1 X.K rMin2) := by
 refine CallR.weak (call_min2 hc) fun xs H Q h => ?_
 obtain ⟨O, ps, P, tr, hx, h, k⟩ := h
 unfold rMin2 at h
 split at h
 ·obtain ⟨v, w, rfl, r, r'⟩ := hx.two
  cases r.int_; cases r'.int_
  exact ⟨_, _, rfl, k.int h⟩
 ·cases h
def blsOf : List PV → Option (List Bool)
 | [] => some []
 | .bl b :: r => (blsOf r).map (b :: ·)
 | _ => none
theorem blsOf_rep {K : PySem.W.Frag} {O H} : ∀ {xs : List PV} {bs : List Bool} {vs : List V}, blsOf xs = some bs → Reps K O H xs vs → vs = bs.map V.bl
 | [], _, _, e, h => by unfold blsOf at e; cases e; exact h.inv0
 | x :: xs, _, _, e, h => by
  obtain ⟨v, us, rfl, r, t⟩ := h.inv
  cases x <;> unfold blsOf at e <;> try (cases e)
  cases q : blsOf xs with
  | none => rw [q] at e; cases e
  | some r' =>
   rw [q] at e; cases e
   rw [r.bl_, blsOf_rep q t]; rfl
def rAllP : R1p := fun ps P => match ps with
 | [.lst xs] => ∃ bs, blsOf xs = some bs ∧ P (.bl (bs.all id))
 | _ => False
theorem zc_all (hc : X.calm = true) : CallR X (.builtin "all") (r1 X.K rAllP) := by
 refine CallR.weak (cr_all hc) fun xs H Q h => ?_
 obtain ⟨O, ps, P, tr, hx, h, k⟩ := h
 unfold rAllP at h
 split at h
 ·obtain ⟨bs, e, h⟩ := h
  obtain ⟨v, rfl, r⟩ := hx.one
  obtain ⟨a, vs, rfl, n, q, rr⟩ := r.lst_
  have := blsOf_rep e rr
  subst this
  exact ⟨a, bs, rfl, SqL.of q, k.bl h⟩
 ·cases h
def rTuple : R1p := fun ps P => match ps with
 | [.lst xs] => P (.tup xs)
 | [.tup xs] => P (.tup xs)
 | _ => False
theorem zc_tuple : CallR X (.type "tuple") (r1 X.K rTuple) := by
 refine CallR.weak (call_tuple_of (X := X)) fun xs H Q h => ?_
 obtain ⟨O, ps, P, tr, hx, h, k⟩ := h
 unfold rTuple at h
 split at h
 ·rename_i xs
  obtain ⟨v, rfl, r⟩ := hx.one
  obtain ⟨a, vs, rfl, n, q, rr⟩ := r.lst_
  exact ⟨a, vs, rfl, .inl ⟨SqL.of q, fun l hl => k.newT h tr rr hl⟩⟩
 ·obtain ⟨v, rfl, r⟩ := hx.one
  obtain ⟨a, vs, rfl, q, rr⟩ := r.tup_
  exact ⟨a, vs, rfl, .inr ⟨q.sq, k _ _ _ h (Same.refl _) r⟩⟩
 ·cases h
def rList : R1p := fun ps P => match ps with
 | [.lst xs] => P (.lst xs)
 | [.tup xs] => P (.lst xs)
 | _ => False
theorem zc_list : CallR X (.type "list") (r1 X.K rList) := by
 refine CallR.weak (call_list_of (X := X)) fun xs H Q h => ?_
 obtain ⟨O, ps, P, tr, hx, h, k⟩ := h
 unfold rList at h
 split at h
 ·obtain ⟨v, rfl, r⟩ := hx.one
  obtain ⟨a, vs, rfl, n, q, rr⟩ := r.lst_
  exact ⟨a, vs, rfl, .inl (SqL.of q), fun l hl => k.newL h tr rr hl⟩
 ·obtain ⟨v, rfl, r⟩ := hx.one
  obtain ⟨a, vs, rfl, q, rr⟩ := r.tup_
  exact ⟨a, vs, rfl, .inr q.sq, fun l hl => k.newL h tr rr hl⟩
 ·cases h
def rStr : R1p := fun ps P => match ps with
 | [.int i] => i.natAbs.log2 < 1920 ∧ P (.str (toString i))
 | _ => False
theorem zc_str : CallR X (.type "str") (r1 X.K rStr) := by
 refine CallR.weak (call_str_int (X := X)) fun xs H Q h => ?_
 obtain ⟨O, ps, P, tr, hx, h, k⟩ := h
 unfold rStr at h
 split at h
 ·obtain ⟨v, rfl, r⟩ := hx.one
  cases r.int_
  exact ⟨_, rfl, h.1, k.str h.2⟩
 ·cases h
def tyN : PV → Option String
 | .non => some "NoneType"
 | .bl _ => some "bool"
 | .int _ => some "int"
 | .str _ => some "str"
 | .tup _ => some "tuple"
 | .lst _ => some "list"
 | .scr _ => some "list"
 | .dic _ => some "dict"
 | .ins _ _ => none
 | .raw _ => none
 | .pln _ => none
 | .exn _ _ _ => none
structure ClsT (K : PySem.W.Frag) (C : Addr) : Prop where
 cl : Cls K C
 ha : PySem.W.findIn K (.ref C) "__class__" = some (some (.builtin "object.__class__"))
 hn : PySem.W.specialIn K (.builtin "object.__class__") "__get__" = some (some (.builtin "getset_descriptor.__get__"))
 htk : PySem.W.takesIn K (.builtin "object.__class__") = some true
 hm : PySem.W.mroIn K C (.type "object") = some true
 own : PySem.W.kitOne K (.ref C) (.ref C) = some true
 ty : ∀ n : String, n ∈ ["int", "bool", "str", "tuple", "list", "dict"] → PySem.W.kitOne K (.ref C) (.type n) = some false
 no : ∀ n : String, n ∈ ["NoneType", "int", "bool", "str", "tuple", "list", "dict"] → PySem.W.kitOne K (.type n) (.ref C) = some false
def rIsI (K : PySem.W.Frag) : R1p := fun ps P => match ps with
 | [x, .raw (.ty n)] => (match tyN x with
  | some t => ∃ b, kitB t n = some b ∧ P (.bl b)
  | none => match x with
   | .ins C _ => ClsT K C ∧ n ∈ ["int", "bool", "str", "tuple", "list", "dict"] ∧ P (.bl false)
   | _ => False)
 | [x, .raw (.ref C)] => (match tyN x with
  | some t => ClsT K C ∧ t ∈ ["NoneType", "int", "bool", "str", "tuple", "list", "dict"] ∧ P (.bl false)
  | none => match x with
   | .ins C' _ => C' = C ∧ ClsT K C ∧ P (.bl true)
   | _ => False)
 | _ => False
theorem tyN_rep {K : PySem.W.Frag} {O H} {x : PV} {v : V} {t : String} (h : Rep K O H x v) (e : tyN x = some t) : TyX K H v (.type t) := by
 cases x <;> unfold tyN at e <;> cases e
 ·rw [h.non_]; exact .base .non
 ·rw [h.bl_]; exact .base (.bl _)
 ·rw [h.int_]; exact .base (.int _)
 ·rw [h.str_]; exact .base (.str _)
 ·obtain ⟨a, vs, rfl, q, rr⟩ := h.tup_
  rcases q with ⟨_, q | ⟨o, q⟩⟩ | ⟨o, its, n, q1, q2, _⟩
  ·exact .base (.tup q)
  ·exact .fTuple q
  ·exact .kTuple q1 q2
 ·obtain ⟨a, vs, rfl, n, q, rr⟩ := h.lst_; exact .base (.lst q)
 ·obtain ⟨a, o, rfl, n, q⟩ := h.scr_; exact .base (.frz q)
 ·unfold Rep at h; obtain ⟨a, ws, rfl, n, q, _⟩ := h; exact .base (.dK q)
theorem zc_isi : CallR X (.builtin "isinstance") (r1 X.K (rIsI X.K)) := by
 refine CallR.weak (call_isi (X := X)) fun xs H Q h => ?_
 obtain ⟨O, ps, P, tr, hx, h, k⟩ := h
 unfold rIsI at h
 split at h
 ·obtain ⟨v, w, rfl, r, r'⟩ := hx.two
  cases r'.raw_
  split at h
  ·rename_i t et
   obtain ⟨b, hb, h⟩ := h
   exact ⟨_, _, _, _, b, rfl, .ty _, tyN_rep r et, kit_ty hb, k.bl h⟩
  ·split at h
   ·obtain ⟨a, dx, ws, rfl, n, q, rr⟩ := r.ins_
    obtain ⟨T, hn, h⟩ := h
    exact ⟨_, _, _, _, false, rfl, .ty _, .base (.ins q T.cl T.ha T.hn T.htk T.hm), T.ty _ hn, k.bl h⟩
   ·cases h
 ·obtain ⟨v, w, rfl, r, r'⟩ := hx.two
  cases r'.raw_
  split at h
  ·rename_i t et
   obtain ⟨T, hn, h⟩ := h
   exact ⟨_, _, _, _, false, rfl, .own _, tyN_rep r et, T.no _ hn, k.bl h⟩
  ·split at h
   ·obtain ⟨rfl, T, h⟩ := h
    obtain ⟨a, dx, ws, rfl, n, q, rr⟩ := r.ins_
    exact ⟨_, _, _, _, true, rfl, .own _, .base (.ins q T.cl T.ha T.hn T.htk T.hm), T.own, k.bl h⟩
   ·cases h
 ·cases h
theorem call_reprD (hg : X.A.guards = some []) (hu : X.A.units + 64 < cLine) : CallR X (.builtin "repr") (fun xs H Q => ∃ v d, xs = [v] ∧ Dp X.K H v d ∧ d.showable = true ∧ d.hasDict = false ∧ d.depth ≤ 60 ∧ d.shown.length ≤ sizeLine ∧ Q (.str d.shown) H) := by
 intro pins s σ H xs us Q I r h
 obtain ⟨v, d, rfl, hd, hs, hn, hdep, hz, q⟩ := h
 obtain ⟨u, rfl, ru⟩ := vals1 r
 obtain ⟨as, rd⟩ := Dp.reads I d v u hd ru
 have fin : ∀ h' tk tk', (∀ b o, s.heap.get? b = some o → h'.get? b = some o) → EP X pins σ Q (.str d.shown tk) { s with heap := h', toks := tk' } := fun h' tk tk' k => ⟨.str d.shown, H, I.kept k, ⟨_, rfl⟩, q⟩
 cases rd with
 | none => exact PySem.P.repr_of_none (fin s.heap _ _ fun _ _ e => e)
 | bool b => exact PySem.P.repr_of_bool (fin s.heap _ _ fun _ _ e => e)
 | int i t => exact PySem.P.repr_of_int (of_decide_eq_true hs) (fin s.heap _ _ fun _ _ e => e)
 | str x t => exact PySem.P.repr_of_str (fin s.heap _ _ fun _ _ e => e) hz
 | list h1 h2 h3 h4 => exact repr_of_reads' (Reads.list h1 h2 h3 h4) hs (PyData.noDict_hsm hn) hg (by omega) (fun _ _ e => e) (fun h' u tk k => fin h' _ _ k) hz
 | tuple h1 h2 h3 h4 => exact repr_of_reads' (Reads.tuple h1 h2 h3 h4) hs (PyData.noDict_hsm hn) hg (by omega) (fun _ _ e => e) (fun h' u tk k => fin h' _ _ k) hz
 | dict h1 h2 h3 h4 h5 => cases hd
def rRepr : R1p := fun ps P => match ps with
 | [x] => ∃ d, toD x = some d ∧ d.showable = true ∧ d.hasDict = false ∧ d.depth ≤ 60 ∧ d.shown.length ≤ sizeLine ∧ P (.str d.shown)
 | _ => False
theorem zc_repr (hg : X.A.guards = some []) (hu : X.A.units + 64 < cLine) : CallR X (.builtin "repr") (r1 X.K rRepr) := by
 refine CallR.weak (call_reprD hg hu) fun xs H Q h => ?_
 obtain ⟨O, ps, P, tr, hx, h, k⟩ := h
 unfold rRepr at h
 split at h
 ·obtain ⟨d, h1, h2, h3, h4, h5, h⟩ := h
  obtain ⟨v, rfl, r⟩ := hx.one
  exact ⟨v, d, rfl, Rep.dp _ _ _ r h1, h2, h3, h4, h5, k.str h⟩
 ·cases h
def encD (x : PV) : PyData := (toD x).getD .none
def ValR (K : PySem.W.Frag) (O : Addr → Prop) (H : Hp) (u : Value) (x : PV) : Prop := ∃ v, RelV v u ∧ Rep K O H x v
theorem each_val {K : PySem.W.Frag} {O H} : ∀ {xs : List PV} {vs : List V} {us : List Value}, Reps K O H xs vs → Vals vs us → PySem.W.EachIs (ValR K O H) us xs
 | [], _, _, h, r => by cases h.inv0; cases r; exact .nil
 | x :: xs, _, _, h, r => by
  obtain ⟨v, us, rfl, r1, t⟩ := h.inv
  cases r with
  | cons r2 t2 => exact .cons ⟨v, r2, r1⟩ (each_val t t2)
theorem val_each {K : PySem.W.Frag} {O H} : ∀ {xs : List PV} {us : List Value}, PySem.W.EachIs (ValR K O H) us xs → ∃ vs, Reps K O H xs vs ∧ Vals vs us
 | _, _, .nil => ⟨[], .nil, .nil⟩
 | _, _, .cons ⟨v, h1, h2⟩ t => by
  obtain ⟨vs, q1, q2⟩ := val_each t
  exact ⟨v :: vs, .cons h2 q1, .cons h1 q2⟩
end
structure Gr (H H' : Hp) : Prop where
 keep : ∀ b o, H b = some o → (∀ ps, o ≠ .tbl ps) → H' b = some o
 live : ∀ b, ¬ Nw H b → ¬ Nw H' b
section
variable {K : PySem.W.Frag} {T : List (Addr × Str)} {F O : Addr → Prop} {σ σ' : St} {η η' : EP'} {H H' : Hp} {i : Nat} {x : PV} {v : V} {a : Addr} {o : Ow}
theorem Gr.car (g : Gr H H') : Car O O H H' := fun a o n e t => ⟨g.keep a o e t, n⟩
theorem Gr.ext (g : Gr H H') : Ext σ η σ η H H' := ⟨fun b o e _ t => g.keep b o e t, g.live, fun _ z => .inl z, fun o e => ⟨o, e, rfl⟩⟩
theorem Gr.same (s : Same H H') : Gr H H' := ⟨fun b o e _ => s b o e, (Ext.same (σ := []) (η := []) s).live⟩
theorem Rs.gr (R : Rs K T F σ η H) (g : Gr H H') (tb : LamX.Tabs T H') : Rs K T F σ η H' := by
 have c : Car (Oof F σ η) (Oof F σ η) H H' := g.car
 refine ⟨R.len, fun i x e => ?_, fun i o e => ?_, R.nd, fun a h => g.live a (R.tr a h), tb⟩
 ·obtain ⟨v, h1, h2⟩ := R.va i x e
  exact ⟨v, h1, h2.car c⟩
 ·obtain ⟨a, h1, h2, h3⟩ := R.ow i o e
  refine ⟨a, h1, h2.car c ?_, h3⟩
  cases o with
  | l xs => obtain ⟨vs, q, _⟩ := h2; rw [q]; exact g.keep _ _ q nofun
  | o C fs => obtain ⟨dx, ws, q, _⟩ := h2; rw [q]; exact g.keep _ _ q nofun
  | d kvs => obtain ⟨ws, q, _⟩ := h2; rw [q]; exact g.keep _ _ q nofun
theorem own_put {b : Addr} {o' : Ow} (e : η[i]? = some (Sl.ow o)) : IsOwn σ (η.set i (.ow o')) b ↔ IsOwn σ η b := by
 have hi : i < η.length := (List.getElem?_eq_some_iff.mp e).1
 constructor
 ·rintro ⟨j, p, h1, h2⟩
  by_cases q : j = i
  ·subst q; exact ⟨j, o, h1, e⟩
  ·rw [ne_set q] at h2; exact ⟨j, p, h1, h2⟩
 ·rintro ⟨j, p, h1, h2⟩
  by_cases q : j = i
  ·subst q; exact ⟨j, o', h1, by rw [List.getElem?_set_self hi]⟩
  ·exact ⟨j, p, h1, by rw [ne_set q]; exact h2⟩
theorem Rs.put {o' : Ow} (R : Rs K T F σ η H) (e : η[i]? = some (Sl.ow o)) (s : σ[i]? = some (some (V.ref a))) (c : Car (Oof F σ η) (Oof F σ η) H H') (oth : ∀ b, b ≠ a → IsOwn σ η b → H' b = H b) (tr : Trk F H') (tb : LamX.Tabs T H')
  (h : OwAt K (Oof F σ η) H' a o') : Rs K T F σ (η.set i (.ow o')) H' := by
 have hi : i < η.length := (List.getElem?_eq_some_iff.mp e).1
 have m : ∀ b, Oof F σ (η.set i (.ow o')) b → Oof F σ η b := Oof_mono fun b z => (own_put e).mp z
 refine ⟨by simpa using R.len, fun j y q => ?_, fun j p q => ?_, fun j k p p' b e1 e2 e3 e4 => ?_, tr, tb⟩
 ·have hj : j ≠ i := fun z => by subst z; cases at_set q
  rw [ne_set hj] at q
  obtain ⟨w, h1, h2⟩ := R.va j y q
  exact ⟨w, h1, (h2.car c).mono m⟩
 ·by_cases hj : j = i
  ·subst hj
   cases at_set q
   obtain ⟨b, h1, h2, h3⟩ := R.ow j o e
   rw [s] at h1; cases h1
   exact ⟨a, s, h.mono m, h3⟩
  ·rw [ne_set hj] at q
   obtain ⟨b, h1, h2, h3⟩ := R.ow j p q
   refine ⟨b, h1, (h2.car c (oth b ?_ ⟨j, p, h1, q⟩)).mono m, h3⟩
   rintro rfl
   exact hj (R.nd j i p o b q e h1 s)
 ·have f : ∀ {j p}, (η.set i (.ow o'))[j]? = some (Sl.ow p) → ∃ p', η[j]? = some (Sl.ow p') := fun {j p} q => by
   by_cases hj : j = i
   ·rw [hj]; exact ⟨o, e⟩
   ·rw [ne_set hj] at q; exact ⟨p, q⟩
  obtain ⟨q1, f1⟩ := f e1
  obtain ⟨q2, f2⟩ := f e2
  exact R.nd j k q1 q2 b f1 f2 e3 e4
theorem Tabs.upd {a : Addr} {u w : HO} (t : LamX.Tabs T H) (h : H a = some w) (n1 : ∀ ps, w ≠ .tbl ps) (n2 : ∀ φ, w ≠ .ext φ) : LamX.Tabs T (upd H a u) := fun p hp => by
 obtain ⟨ps, h1, h2, h3⟩ := t p hp
 refine ⟨ps, by rw [upd_ne (fun z => n1 ps (by rw [z] at h1; exact Option.some.inj (h.symm.trans h1)))]; exact h1, h2, fun pos cv hc => ?_⟩
 obtain ⟨c, e1, e2⟩ := h3 pos cv hc
 refine ⟨c, e1, ?_⟩
 rw [upd_ne (fun z => by rw [z] at e2; exact n2 _ (Option.some.inj (h.symm.trans e2)))]
 exact e2
theorem Rs.write {o' : Ow} {u w : HO} (R : Rs K T F σ η H) (e : η[i]? = some (Sl.ow o)) (s : σ[i]? = some (some (V.ref a))) (hw : H a = some w) (n1 : ∀ ps, w ≠ .tbl ps) (n2 : ∀ φ, w ≠ .ext φ) (n3 : ∀ ps, u ≠ .tbl ps)
  (h : Car (Oof F σ η) (Oof F σ η) H (upd H a u) → OwAt K (Oof F σ η) (upd H a u) a o') : Rs K T F σ (η.set i (.ow o')) (upd H a u) ∧ Ext σ η σ (η.set i (.ow o')) H (upd H a u) := by
 have own : IsOwn σ η a := ⟨i, o, s, e⟩
 have c : Car (Oof F σ η) (Oof F σ η) H (upd H a u) := fun b q n hb _ => ⟨by rw [upd_ne (fun z => n (by rw [z]; exact .inr own))]; exact hb, n⟩
 refine ⟨R.put e s c (fun b n _ => upd_ne n) (fun b hb => ?_) (Tabs.upd R.tb hw n1 n2) (h c), fun b q hb n _ => ?_, fun b hb => ?_, fun b z => .inl ((own_put e).mp z), fun p q => ?_⟩
 ·exact live_upd n3 (R.tr b hb)
 ·rw [upd_ne (fun z => n (by rw [z]; exact own))]; exact hb
 ·exact live_upd n3 hb
 ·by_cases z : (0 : Nat) = i
  ·rw [z]; exact ⟨o, e, rfl⟩
  ·rw [ne_set z] at q; exact ⟨p, q, rfl⟩
end
section
variable {X : Cx} {T : List (Addr × Str)} {e o : Expr} {es : List Expr} {te ta tb : TEp} {t : TAp} {pos : Pos} {st : Stmt} {rest : List Stmt} {t1 t2 : TSp}
def tSeqP (t u : TSp) : TSp := fun D η => t { D with nx := fun η' => u D η' } η
theorem zs_cons (h1 : PS X st (upS X.K T t1)) (h2 : PSs X rest (upS X.K T t2)) : PSs X (st :: rest) (upS X.K T (tSeqP t1 t2)) := by
 refine PSs.weak (pss_cons h1 h2) fun D σ H q => ?_
 obtain ⟨F, η, D', R, h, k1, k2, k3, k4⟩ := q
 refine ⟨F, η, _, R, h, fun η' σ' H' q e1 R1 => ?_, k2, k3, k4⟩
 exact ⟨F, η', D', R1, q, fun η'' σ'' H'' q' e2 R2 => k1 _ _ _ q' (e1.trans e2) R2, fun η'' σ'' H'' q' e2 R2 => k2 _ _ _ q' (e1.trans e2) R2, fun η'' σ'' H'' q' e2 R2 => k3 _ _ _ q' (e1.trans e2) R2, fun x η'' σ'' v H'' q' e2 R2 r => k4 _ _ _ _ _ q' (e1.trans e2) R2 r⟩
theorem zs_one (h1 : PS X st (upS X.K T t1)) : PSs X [st] (upS X.K T t1) := pss_one h1
def tNextP : TSp := fun D η => D.nx η
theorem zs_nil : PSs X [] (upS X.K T tNextP) := by
 refine PSs.weak pss_nil fun D σ H q => ?_
 obtain ⟨F, η, D', R, h, k1, k2, k3, k4⟩ := q
 exact k1 _ _ _ h .refl R
def tNevP : TSp := fun _ _ => False
theorem z_never : PS X st (upS X.K T tNevP) := PS.weak ps_never fun D σ H q => by
 obtain ⟨F, η, D', R, h, _⟩ := q
 exact h
theorem zs_never {sts : List Stmt} : PSs X sts (upS X.K T tNevP) := PSs.weak pss_never fun D σ H q => by
 obtain ⟨F, η, D', R, h, _⟩ := q
 exact h
def tDropP (te : TEp) : TSp := fun D η => te η fun _ η1 => D.nx η1
theorem z_expr (he : PE X e (up X.K T te)) (hs : swapsWith e none pos.line X.env = pure false := by rfl) : PS X (.Expr e pos) (upS X.K T (tDropP te)) := by
 refine PS.weak (ps_expr he hs) fun D σ H q => ?_
 obtain ⟨F, η, D', R, h, k1, k2, k3, k4⟩ := q
 exact ⟨F, η, _, R, h, fun x η1 v H1 h1 e1 R1 _ => k1 _ _ _ h1 e1 R1⟩
def tRetP (te : TEp) : TSp := fun D η => te η D.rt
theorem z_ret (he : PE X e (up X.K T te)) : PS X (.Return (some e) pos) (upS X.K T (tRetP te)) := by
 refine PS.weak (ps_ret he) fun D σ H q => ?_
 obtain ⟨F, η, D', R, h, k1, k2, k3, k4⟩ := q
 exact ⟨F, η, _, R, h, fun x η1 v H1 h1 e1 R1 r => k4 _ _ _ _ _ h1 e1 R1 r⟩
def tRetNP : TSp := fun D η => D.rt .non η
def tIfSP (c : TTp) (t u : TSp) : TSp := fun D η => c η fun b η1 => if b = true then t D η1 else u D η1
theorem z_if {c : Expr} {a b : List Stmt} {tc : TTp} (hc : PT X c (upB X.K T tc)) (ha : PSs X a (upS X.K T t1)) (hb : PSs X b (upS X.K T t2)) : PS X (.If c a b pos) (upS X.K T (tIfSP tc t1 t2)) := by
 refine PS.weak (ps_if hc ha hb) fun D σ H q => ?_
 obtain ⟨F, η, D', R, h, k1, k2, k3, k4⟩ := q
 refine ⟨F, η, _, R, h, fun x η1 H1 h1 e1 R1 => ?_⟩
 cases x with
 | true =>
  simp only [if_true] at h1 ⊢
  exact ⟨F, η1, D', R1, h1, fun η'' σ'' H'' q' e2 R2 => k1 _ _ _ q' (e1.trans e2) R2, fun η'' σ'' H'' q' e2 R2 => k2 _ _ _ q' (e1.trans e2) R2, fun η'' σ'' H'' q' e2 R2 => k3 _ _ _ q' (e1.trans e2) R2, fun x η'' σ'' v H'' q' e2 R2 r => k4 _ _ _ _ _ q' (e1.trans e2) R2 r⟩
 | false =>
  simp only [Bool.false_eq_true, if_false] at h1 ⊢
  exact ⟨F, η1, D', R1, h1, fun η'' σ'' H'' q' e2 R2 => k1 _ _ _ q' (e1.trans e2) R2, fun η'' σ'' H'' q' e2 R2 => k2 _ _ _ q' (e1.trans e2) R2, fun η'' σ'' H'' q' e2 R2 => k3 _ _ _ q' (e1.trans e2) R2, fun x η'' σ'' v H'' q' e2 R2 r => k4 _ _ _ _ _ q' (e1.trans e2) R2 r⟩
def tSetP (i : Nat) (te : TEp) : TSp := fun D η => te η fun x η1 => D.nx (η1.set i (.va x))
theorem z_set {i : Nat} {x : Str} {pos' : Pos} (hN : X.N.Nodup) (hi : X.N[i]? = some x) (hx : Loc X.env.scope x) (he : PE X e (up X.K T te)) (hs : swapsWith e (some (.Name x pos')) pos.line X.env = pure false := by rfl) (hf : X.fn x = true ∨ X.env.scope.names.lookup x = some .local := by first | exact .inl rfl | exact .inr rfl | assumption) :
  PS X (.Assign [.Name x pos'] e pos) (upS X.K T (tSetP i te)) := by
 refine PS.weak (ps_set hN hi hx he hs hf) fun D σ H q => ?_
 obtain ⟨F, η, D', R, h, k1, k2, k3, k4⟩ := q
 exact ⟨F, η, _, R, h, fun x η1 v H1 h1 e1 R1 r => k1 _ _ _ h1 (e1.trans .setv) (R1.setv r)⟩
abbrev TGp := PV → EP' → (EP' → Prop) → Prop
abbrev TGsp := List PV → EP' → (EP' → Prop) → Prop
def upG (K : PySem.W.Frag) (T : List (Addr × Str)) (g : TGp) : TG := fun v σ H Q => ∃ F η x P, Rs K T F σ η H ∧ Rep K (Oof F σ η) H x v ∧ g x η P ∧ ∀ η' σ' H', P η' → Ext σ η σ' η' H H' → Rs K T F σ' η' H' → Q σ' H'
def upGs (K : PySem.W.Frag) (T : List (Addr × Str)) (g : TGsp) : TGs := fun vs σ H Q => ∃ F η xs P, Rs K T F σ η H ∧ Reps K (Oof F σ η) H xs vs ∧ g xs η P ∧ ∀ η' σ' H', P η' → Ext σ η σ' η' H H' → Rs K T F σ' η' H' → Q σ' H'
theorem PG.weak {tg : Expr} {t t' : TG} (h : PG X tg t) (w : ∀ v σ H Q, t' v σ H Q → t v σ H Q) : PG X tg t' := by
 obtain ⟨r⟩ := h
 exact ⟨fun pins s σ H v u Q I rv q => r pins s σ H v u Q I rv (w _ _ _ _ q)⟩
theorem PGs.weak {tg : List Expr} {t t' : TGs} (h : PGs X tg t) (w : ∀ v σ H Q, t' v σ H Q → t v σ H Q) : PGs X tg t' := by
 obtain ⟨r⟩ := h
 exact ⟨fun pins s σ H v u Q I rv q => r pins s σ H v u Q I rv (w _ _ _ _ q)⟩
def gNameP (i : Nat) : TGp := fun x η P => P (η.set i (.va x))
theorem zg_name {i : Nat} {x : Str} (hN : X.N.Nodup) (hi : X.N[i]? = some x) (hx : Loc X.env.scope x) (hf : X.fn x = true ∨ X.env.scope.names.lookup x = some .local := by first | exact .inl rfl | exact .inr rfl | assumption) : PG X (.Name x pos) (upG X.K T (gNameP i)) := by
 refine PG.weak (pg_name hN hi hx hf) fun v σ H Q q => ?_
 obtain ⟨F, η, x, P, R, r, h, k⟩ := q
 exact k _ _ _ h .setv (R.setv r)
def gNilP : TGsp := fun xs η P => xs = [] ∧ P η
def gConsP (t : TGp) (u : TGsp) : TGsp := fun xs η P => match xs with
 | x :: r => t x η fun η1 => u r η1 P
 | [] => False
theorem zgs_nil : PGs X [] (upGs X.K T gNilP) := by
 refine PGs.weak pgs_nil fun v σ H Q q => ?_
 obtain ⟨F, η, x, P, R, r, h, k⟩ := q
 rw [h.1] at r
 exact ⟨r.inv0, k _ _ _ h.2 .refl R⟩
theorem zgs_cons {t : TGp} {u : TGsp} (h1 : PG X e (upG X.K T t)) (h2 : PGs X es (upGs X.K T u)) (pf : PGs X (e :: es) (gCons (upG X.K T t) (upGs X.K T u))) : PGs X (e :: es) (upGs X.K T (gConsP t u)) := by
 refine PGs.weak pf fun v σ H Q q => ?_
 obtain ⟨F, η, x, P, R, r, h, k⟩ := q
 unfold gConsP at h
 split at h
 ·obtain ⟨v, us, rfl, r1, r2⟩ := r.inv
  refine ⟨v, us, rfl, F, η, _, _, R, r1, h, fun η' σ' H' h' e1 R1 => ⟨F, η', _, P, R1, r2.car e1.car, h', fun η'' σ'' H'' h'' e2 R2 => k _ _ _ h'' (e1.trans e2) R2⟩⟩
 ·cases h
def gTupP (n : Nat) (t : TGsp) : TGp := fun x η P => match x with
 | .tup xs => xs.length = n ∧ t xs η P
 | _ => False
theorem zg_tup {k n : Nat} {t : TGsp} (pf : PG X (.Tuple es k pos) (gTup X.K n (upGs X.K T t))) : PG X (.Tuple es k pos) (upG X.K T (gTupP n t)) := by
 refine PG.weak pf fun v σ H Q q => ?_
 obtain ⟨F, η, x, P, R, r, h, k⟩ := q
 unfold gTupP at h
 split at h
 ·obtain ⟨a, vs, rfl, t, r⟩ := r.tup_
  exact ⟨a, vs, rfl, t.sq, by rw [r.len]; exact h.1, F, η, _, P, R, r, h.2, k⟩
 ·cases h
def tAsgP (te : TEp) (g : TGp) : TSp := fun D η => te η fun x η1 => g x η1 D.nx
theorem z_asg {tg : Expr} {g : TGp} (he : PE X e (up X.K T te)) (hg : PG X tg (upG X.K T g)) (hs : swapsWithSole [tg] e pos.line X.env = pure false := by rfl) (hw : swappedStores [tg] e X.env = pure none := by rfl) (h1 : (assignEach [tg] X.env).map (·.2) = [assign tg X.env] := by rfl) : PS X (.Assign [tg] e pos) (upS X.K T (tAsgP te g)) := by
 refine PS.weak (ps_asg he hg hs hw h1) fun D σ H q => ?_
 obtain ⟨F, η, D', R, h, k1, k2, k3, k4⟩ := q
 exact ⟨F, η, _, R, h, fun x η1 v H1 h1 e1 R1 r => ⟨F, η1, x, _, R1, r, h1, fun η' σ' H' h' e2 R2 => k1 _ _ _ h' (e1.trans e2) R2⟩⟩
def gSubP (i : Nat) (ti : TEp) : TGp := fun x η P => (∃ o, η[i]? = some (Sl.ow o)) ∧ ti η fun k η1 => match η1[i]? with
 | some (.ow (.l xs)) => ∃ kk j, k = .int kk ∧ ixN xs.length kk = some j ∧ P (η1.set i (.ow (.l (xs.set j x))))
 | _ => False
theorem zg_sub {i : Nat} {ix : Expr} {ti : TEp} (ho : PE X o (tVar i)) (hi : PE X ix (up X.K T ti)) (pf : PG X (.Subscript o ix pos) (gSub (tVar i) (up X.K T ti) rSetL)) : PG X (.Subscript o ix pos) (upG X.K T (gSubP i ti)) := by
 refine PG.weak pf fun v σ H Q q => ?_
 obtain ⟨F, η, x, P, R, r, ⟨⟨oo, ho⟩, h⟩, k⟩ := q
 obtain ⟨b, hw, _, _⟩ := R.ow i _ ho
 refine ⟨_, hw, F, η, _, R, h, fun y η1 u H1 h1 e1 R1 r1 => ?_⟩
 split at h1
 ·rename_i xs e
  obtain ⟨kk, j, rfl, hj, h1⟩ := h1
  obtain ⟨a, s, ⟨vs, q1, q2⟩, nf⟩ := R1.ow i _ e
  rw [hw] at s; cases s
  refine ⟨b, vs, kk, j, rfl, r1.int_, q1, by rw [q2.len]; exact hj, ?_⟩
  have rr := r.car e1.car
  obtain ⟨W, E⟩ := R1.write (o' := .l (xs.set j x)) (u := .lst (vs.set j v)) e hw q1 nofun nofun nofun fun c => ⟨_, upd_same, (q2.set j rr).car c⟩
  exact k _ _ _ h1 (e1.trans E) W
 ·cases h1
end
section
variable {K : PySem.W.Frag} {T : List (Addr × Str)} {F : Addr → Prop} {σ : St} {η : EP'} {H H' : Hp} {i : Nat} {x : PV} {v : V} {a : Addr} {o : Ow}
def With (F : Addr → Prop) (a : Addr) : Addr → Prop := fun b => F b ∨ b = a
abbrev TFp := EP' → (List PV → EP' → Prop) → Prop
def upF (K : PySem.W.Frag) (T : List (Addr × Str)) (tp : TFp) : TE := fun σ H Q => ∃ F η P, Rs K T F σ η H ∧ tp η P ∧ ∀ xs η' a vs H', P xs η' → Ext σ η σ η' H H' → Rs K T (With F a) σ η' H' → Nw H a → ¬ F a → H' a = some (.lst vs) → Reps K (Oof (With F a) σ η') H' xs vs → Q (.ref a) H'
theorem Rs.shrink {F' : Addr → Prop} (R : Rs K T F σ η H) (h : ∀ b, F' b → F b) : Rs K T F' σ η H := by
 have m : ∀ b, Oof F' σ η b → Oof F σ η b := fun b z => z.elim (fun z => .inl (h b z)) .inr
 refine ⟨R.len, fun i x e => ?_, fun i o e => ?_, R.nd, fun a z => R.tr a (h a z), R.tb⟩
 ·obtain ⟨v, h1, h2⟩ := R.va i x e
  exact ⟨v, h1, h2.mono m⟩
 ·obtain ⟨a, h1, h2, h3⟩ := R.ow i o e
  exact ⟨a, h1, h2.mono m, fun z => h3 (h a z)⟩
theorem Rs.add {p : Addr} {o : HO} (R : Rs K T F σ η H) (hp : H p = none) (nt : ∀ ps, o ≠ .tbl ps) : Rs K T (With F p) σ η (upd H p o) := by
 have c : Car (Oof F σ η) (Oof (With F p) σ η) H (upd H p o) := fun b q n hb _ => ⟨(Same.new hp) b q hb, fun z => by
  rcases z with (z | z) | z
  ·exact n (.inl z)
  ·rw [z, hp] at hb; cases hb
  ·exact n (.inr z)⟩
 refine ⟨R.len, fun i x e => ?_, fun i o e => ?_, R.nd, fun a z => ?_, R.tb.ext (Same.new hp)⟩
 ·obtain ⟨v, h1, h2⟩ := R.va i x e
  exact ⟨v, h1, h2.car c⟩
 ·obtain ⟨a, h1, h2, h3⟩ := R.ow i o e
  have na : a ≠ p := fun z => R.trO a (.inr ⟨i, o, h1, e⟩) (Nw.of (by rw [z]; exact hp))
  refine ⟨a, h1, h2.car c (upd_ne na), fun z => z.elim h3 na⟩
 ·rcases z with z | z
  ·exact R.tr.same (Same.new hp) a z
  ·rw [z]; exact nw_same nt
theorem car_add {p : Addr} {o : HO} (hp : H p = none) : Car (Oof F σ η) (Oof (With F p) σ η) H (upd H p o) := fun b q n hb _ => ⟨(Same.new hp) b q hb, fun z => by
  rcases z with (z | z) | z
  ·exact n (.inl z)
  ·rw [z, hp] at hb; cases hb
  ·exact n (.inr z)⟩
theorem Rs.seto (R : Rs K T (With F a) σ η H) (nf : ¬ F a) (h : OwAt K (Oof (With F a) σ η) H a o) (hi : i < η.length) : Rs K T F (σ.set i (some (.ref a))) (η.set i (.ow o)) H := by
 have m : ∀ b, Oof F (σ.set i (some (.ref a))) (η.set i (.ow o)) b → Oof (With F a) σ η b := by
  rintro b (z | ⟨j, p, h1, h2⟩)
  ·exact .inl (.inl z)
  ·by_cases hj : j = i
   ·subst hj
    cases at_set h1
    exact .inl (.inr rfl)
   ·rw [ne_set hj] at h1 h2
    exact .inr ⟨j, p, h1, h2⟩
 have hs : i < σ.length := by rw [R.len]; exact hi
 refine ⟨by simpa using R.len, fun j y e => ?_, fun j p e => ?_, fun j k p p' b e1 e2 e3 e4 => ?_, fun b z => R.tr b (.inl z), R.tb⟩
 ·have hj : j ≠ i := fun z => by subst z; cases at_set e
  rw [ne_set hj] at e ⊢
  obtain ⟨w, h1, h2⟩ := R.va j y e
  exact ⟨w, h1, h2.mono m⟩
 ·by_cases hj : j = i
  ·subst hj
   cases at_set e
   exact ⟨a, by rw [List.getElem?_set_self hs], h.mono m, nf⟩
  ·rw [ne_set hj] at e ⊢
   obtain ⟨b, h1, h2, h3⟩ := R.ow j p e
   exact ⟨b, h1, h2.mono m, fun z => h3 (.inl z)⟩
 ·by_cases hj : j = i
  ·by_cases hk : k = i
   ·exact hj.trans hk.symm
   ·exfalso
    subst hj
    cases at_set e3
    rw [ne_set hk] at e2 e4
    obtain ⟨b, h1, h2, h3⟩ := R.ow k _ e2
    rw [e4] at h1; cases h1
    exact h3 (.inr rfl)
  ·by_cases hk : k = i
   ·exfalso
    subst hk
    cases at_set e4
    rw [ne_set hj] at e1 e3
    obtain ⟨b, h1, h2, h3⟩ := R.ow j _ e1
    rw [e3] at h1; cases h1
    exact h3 (.inr rfl)
   ·rw [ne_set hj] at e1 e3
    rw [ne_set hk] at e2 e4
    exact R.nd j k _ _ b e1 e2 e3 e4
theorem Ext.seto {σ0 : St} {η0 : EP'} {H0 : Hp} (e : Ext σ0 η0 σ η H0 H) (hn : Nw H0 a) (h0 : (0 : Nat) ≠ i) : Ext σ0 η0 (σ.set i (some (.ref a))) (η.set i (.ow o)) H0 H := by
 refine ⟨e.keep, e.live, fun b z => ?_, fun p q => ?_⟩
 rotate_left
 ·rw [ne_set h0] at q ⊢
  exact e.fst p q
 obtain ⟨j, p, h1, h2⟩ := z
 by_cases hj : j = i
 ·subst hj
  cases at_set h1
  exact .inr hn
 ·rw [ne_set hj] at h1 h2
  exact e.new b ⟨j, p, h1, h2⟩
end
section
variable {X : Cx} {T : List (Addr × Str)} {e o : Expr} {es : List Expr} {te ta tb : TEp} {t : TAp} {tf : TFp} {pos : Pos}
def tValP (tf : TFp) : TEp := fun η P => tf η fun xs η1 => P (.lst xs) η1
theorem z_val (h : PE X e (upF X.K T tf)) : PE X e (up X.K T (tValP tf)) := by
 refine PE.weak h fun σ H Q q => ?_
 obtain ⟨F, η, P, R, h, k⟩ := q
 refine ⟨F, η, _, R, h, fun xs η' a vs H' h1 e1 R1 hn nf hv r => ?_⟩
 refine k _ _ _ _ h1 e1 (R1.shrink fun b z => .inl z) ?_
 unfold Rep
 refine ⟨a, vs, rfl, fun z => ?_, hv, r.mono fun b z => z.elim (fun z => .inl (.inl z)) .inr⟩
 rcases z with z | ⟨j, p, h1, h2⟩
 ·exact nf z
 ·obtain ⟨b, q1, q2, q3⟩ := R1.ow j p h2
  rw [h1] at q1; cases q1
  exact q3 (.inr rfl)
def tLstFP (t : TAp) : TFp := fun η P => t η fun xs η1 => xs.length ≤ sizeLine ∧ P xs η1
theorem zf_lst (h : PA X es (upA X.K T t)) : PE X (.List es pos) (upF X.K T (tLstFP t)) := by
 refine PE.weak (pe_lst h) fun σ H Q q => ?_
 obtain ⟨F, η, P, R, h, k⟩ := q
 refine ⟨F, η, _, R, h, fun xs η1 vs H1 h1 e1 R1 r1' => ⟨by rw [r1'.len]; exact h1.1, fun p hp => ?_⟩⟩
 have hn : Nw H p := e1.nw (Nw.of hp)
 exact k xs η1 p vs _ h1.2 (e1.trans (.same (Same.new hp))) (R1.add hp nofun) hn (fun z => R.tr p z hn) upd_same (r1'.car (car_add hp))
def tSetFP (i : Nat) (tf : TFp) : TSp := fun D η => (0 : Nat) ≠ i ∧ tf η fun xs η1 => i < η1.length ∧ D.nx (η1.set i (.ow (.l xs)))
theorem z_setF {i : Nat} {x : Str} {pos' : Pos} (hN : X.N.Nodup) (hi : X.N[i]? = some x) (hx : Loc X.env.scope x) (he : PE X e (upF X.K T tf)) (hs : swapsWith e (some (.Name x pos')) pos.line X.env = pure false := by rfl) (hf : X.fn x = true ∨ X.env.scope.names.lookup x = some .local := by first | exact .inl rfl | exact .inr rfl | assumption) :
  PS X (.Assign [.Name x pos'] e pos) (upS X.K T (tSetFP i tf)) := by
 refine PS.weak (ps_set hN hi hx he hs hf) fun D σ H q => ?_
 obtain ⟨F, η, D', R, ⟨hi, h⟩, k1, k2, k3, k4⟩ := q
 refine ⟨F, η, _, R, h, fun xs η1 a vs H1 h1 e1 R1 hn nf hv r => ?_⟩
 exact k1 _ _ _ h1.2 (e1.seto hn hi) (R1.seto nf ⟨vs, hv, r⟩ h1.1)
def tAppP (i : Nat) (te : TEp) : TSp := fun D η => (∃ xs, η[i]? = some (Sl.ow (.l xs))) ∧ te η fun x η1 => match η1[i]? with
 | some (.ow (.l xs)) => xs.length < sizeLine ∧ D.nx (η1.set i (.ow (.l (xs ++ [x]))))
 | _ => False
theorem z_app {i : Nat} {K0 : PySem.W.Frag} (hK : X.K = K0) (pf : PS X (.Expr o pos) (tDrop (tBM K0 "list" rAppend (tVar i) (tCons (up K0 T te) tNil)))) : PS X (.Expr o pos) (upS K0 T (tAppP i te)) := by
 subst hK
 refine PS.weak pf fun D σ H q => ?_
 obtain ⟨F, η, D', R, ⟨⟨oo, ho⟩, h⟩, k1, k2, k3, k4⟩ := q
 obtain ⟨b, hw, q0, _⟩ := R.ow i _ ho
 refine ⟨_, hw, ?_, F, η, _, R, h, fun y η1 u H1 h1 e1 R1 r1 => ?_⟩
 ·obtain ⟨vs, q1, q2⟩ := q0; exact .inl ⟨rfl, vs, SqL.of q1⟩
 ·split at h1
  ·rename_i xs e
   obtain ⟨a, s, ⟨vs, q1, q2⟩, nf⟩ := R1.ow i _ e
   rw [hw] at s; cases s
   refine ⟨b, vs, u, rfl, rfl, q1, by rw [q2.len]; exact h1.1, ?_⟩
   obtain ⟨W, E⟩ := R1.write (o' := .l (xs ++ [y])) (u := .lst (vs ++ [u])) e hw q1 nofun nofun nofun fun c => ⟨_, upd_same, (q2.app (.cons r1 .nil)).car c⟩
   exact k1 _ _ _ h1.2 (e1.trans E) W
  ·cases h1
end
section
variable {X : Cx} {T : List (Addr × Str)} {a b e o : Expr} {es : List Expr} {te ta tb : TEp} {t : TAp} {tf : TFp} {pos : Pos}
def strRep (x : Str) (n : Nat) : Str := ⟨((List.replicate n x.cps.toList).flatten).toArray⟩
theorem fold_app (c : Array Nat) : ∀ (n : Nat) (acc : Array Nat), (List.replicate n c).foldl (· ++ ·) acc = acc ++ ((List.replicate n c.toList).flatten).toArray
 | 0, acc => by simp
 | n + 1, acc => by
  rw [List.replicate_succ, List.foldl_cons, fold_app c n, List.replicate_succ, List.flatten_cons]
  apply Array.toList_inj.mp
  simp
theorem strRep_len (x : Str) (n : Nat) : (strRep x n).length = n * x.length := by
 show ((List.replicate n x.cps.toList).flatten).toArray.size = _
 rw [List.size_toArray, PyProof.Rows.lm_len_rep_flat]
 simp [Str.length]
def rMulS : R2p := fun x y P => match x, y with
 | .str z, .int n => 1 ≤ n ∧ n ≤ 1000 ∧ z.length ≤ 1000 ∧ P (.str (strRep z n.toNat))
 | _, _ => False
theorem zo_mulS : OpR X (binaryOp .Mult) (r2 X.K rMulS) := by
 intro pins s σ H x y v u Q I rx ry h
 obtain ⟨O, px, py, P, tr, hx, hy, h, k⟩ := h
 unfold rMulS at h
 split at h
 ·rename_i z n
  obtain ⟨h1, h2, h3, h⟩ := h
  cases hx.str_
  cases hy.int_
  obtain ⟨t, rfl⟩ := rx
  obtain ⟨t', rfl⟩ := ry
  have hn : ¬ n < 1 := by omega
  have hz : z.length * n.toNat ≤ 1000000 := by
   have := Nat.mul_le_mul h3 (show n.toNat ≤ 1000 by omega)
   omega
  refine PySem.P.mul_str (by rw [decide_eq_false (by omega), decide_eq_false (by omega)]; rfl) (fun _ _ => ?_) (fun _ _ => ?_) ?_
  ·have q : (1000 : Int) ≤ (2 ^ 63 - 1) / n := by
    apply Int.le_ediv_of_mul_le (by omega)
    omega
   omega
  ·exact decide_eq_false (by rw [sizeLine_eq]; omega)
  ·rw [if_neg hn]
   split
   ·rename_i hc
    have e : strRep z n.toNat = z := by
     rw [Bool.or_eq_true] at hc
     rcases hc with hc | hc
     ·have : n = 1 := by simpa using hc
      subst this
      show (⟨((List.replicate 1 z.cps.toList).flatten).toArray⟩ : Str) = z
      simp
     ·have h0 : z.length = 0 := by simpa using hc
      have : z.cps = #[] := by simpa [Str.length] using h0
      show (⟨((List.replicate _ z.cps.toList).flatten).toArray⟩ : Str) = z
      obtain ⟨c⟩ := z
      simp at this
      subst this
      simp
    exact ⟨.str z, H, I, ⟨_, rfl⟩, k.str (by rw [e] at h; exact h)⟩
   ·have e : (⟨(List.replicate n.toNat z.cps).foldl (· ++ ·) #[]⟩ : Str) = strRep z n.toNat := by
     unfold strRep
     rw [fold_app]
     simp
    rw [e]
    refine ⟨?_, .str _, H, I.tok _, ⟨_, rfl⟩, k.str h⟩
    rw [strRep_len, sizeLine_eq, Nat.mul_comm]; omega
 ·cases h
def rIxP : R2p := fun x y P => match x, y with
 | .lst xs, .int i => ∃ v, atI xs i = some v ∧ P v
 | .tup xs, .int i => ∃ v, atI xs i = some v ∧ P v
 | .scr ns, .int i => ∃ v, atI ns i = some v ∧ P (.int v)
 | .str z, .int i => z.length ≤ sizeLine ∧ ∃ c, atI z.cps.toList i = some c ∧ P (.str ⟨#[c]⟩)
 | _, _ => False
theorem atI_reps {K : PySem.W.Frag} {O H} {xs : List PV} {vs : List V} {i : Int} {x : PV} (h : Reps K O H xs vs) (e : atI xs i = some x) : ∃ v, atI vs i = some v ∧ Rep K O H x v := by
 unfold atI at e ⊢
 rw [h.len]
 cases q : ixN xs.length i with
 | none => rw [q] at e; cases e
 | some j =>
  rw [q] at e
  obtain ⟨v, h1, h2⟩ := h.get (i := j) (x := x) e
  exact ⟨v, h1, h2⟩
theorem IxR.weak {r r' : R2} (h : IxR X r) (w : ∀ x y H Q, r' x y H Q → r x y H Q) : IxR X r' := fun value slice pins s σ H x y v u Q I rx ry q hs => h value slice pins s σ H x y v u Q I rx ry (w _ _ _ _ q) hs
theorem zx_ix : IxR X (r2 X.K rIxP) := by
 refine IxR.weak (ix_seq (X := X)) fun x y H Q h => ?_
 obtain ⟨O, px, py, P, tr, hx, hy, h, k⟩ := h
 unfold rIxP at h
 split at h
 ·obtain ⟨w, e, h⟩ := h
  obtain ⟨a, vs, rfl, n, q, rr⟩ := hx.lst_
  obtain ⟨v, e1, r1⟩ := atI_reps rr e
  exact .inl ⟨a, vs, _, v, rfl, hy.int_, SqL.of q, e1, k _ _ _ h (Same.refl _) r1⟩
 ·obtain ⟨w, e, h⟩ := h
  obtain ⟨a, vs, rfl, q, rr⟩ := hx.tup_
  obtain ⟨v, e1, r1⟩ := atI_reps rr e
  exact .inr (.inl ⟨a, vs, _, v, rfl, hy.int_, q.sq, e1, k _ _ _ h (Same.refl _) r1⟩)
 ·obtain ⟨w, e, h⟩ := h
  obtain ⟨a, o, rfl, n, q⟩ := hx.scr_
  refine .inl ⟨a, _, _, .int w, rfl, hy.int_, .inl (.inr ⟨o, q⟩), ?_, k.int h⟩
  unfold atI at e ⊢
  rw [List.length_map]
  cases q : ixN _ _ with
  | none => rw [q] at e; cases e
  | some j =>
   rw [q] at e
   show (List.map V.int _)[j]? = _
   rw [List.getElem?_map, show _[j]? = some w from e]; rfl
 ·obtain ⟨hz, c, e, h⟩ := h
  cases hx.str_
  exact .inr (.inr ⟨_, _, c, rfl, hy.int_, hz, e, k.str h⟩)
 ·cases h
theorem z_ix (ha : PE X a (up X.K T ta)) (hb : PE X b (up X.K T tb)) (hs : PlainIx b := by exact fun _ _ => rfl) : PE X (.Subscript a b pos) (up X.K T (tOpP rIxP ta tb)) := by
 refine PE.weak (pe_ix zx_ix ha hb hs) fun σ H Q q => ?_
 obtain ⟨F, η, P, R, h, k⟩ := q
 refine ⟨F, η, _, R, h, fun x η1 v H1 h1 e1 R1 r1' => ⟨F, η1, _, R1, h1, fun y η2 w H2 h2 e2 R2' rw' => ?_⟩⟩
 exact ⟨Oof F σ η2, x, y, _, R2'.trO, r1'.car e2.car, rw', h2, fun z u H3 pz s rz => k z η2 u H3 pz ((e1.trans e2).trans (.same s)) (R2'.same s) rz⟩
def tIxOP (i : Nat) (ti : TEp) : TEp := fun η P => (∃ o, η[i]? = some (Sl.ow o)) ∧ ti η fun k η1 => match η1[i]? with
 | some (.ow (.l xs)) => ∃ kk v, k = .int kk ∧ atI xs kk = some v ∧ P v η1
 | _ => False
theorem z_ixO {i : Nat} (ho : PE X o (tVar i)) (hb : PE X b (up X.K T tb)) (hs : PlainIx b := by exact fun _ _ => rfl) : PE X (.Subscript o b pos) (up X.K T (tIxOP i tb)) := by
 refine PE.weak (pe_ix ix_list ho hb hs) fun σ H Q q => ?_
 obtain ⟨F, η, P, R, ⟨⟨oo, ho⟩, h⟩, k⟩ := q
 obtain ⟨b, hw, q0, _⟩ := R.ow i _ ho
 refine ⟨_, hw, F, η, _, R, h, fun y η1 u H1 h1 e1 R1 r1 => ?_⟩
 split at h1
 ·rename_i xs e
  obtain ⟨kk, v, rfl, hv, h1⟩ := h1
  obtain ⟨a, s, ⟨vs, q1, q2⟩, nf⟩ := R1.ow i _ e
  rw [hw] at s; cases s
  obtain ⟨w, e1', r1'⟩ := atI_reps q2 hv
  exact ⟨b, vs, kk, w, rfl, r1.int_, SqL.of q1, e1', k _ _ _ _ h1 e1 R1 r1'⟩
 ·cases h1
abbrev TOp := EP' → (Option Int → EP' → Prop) → Prop
def upO (K : PySem.W.Frag) (T : List (Addr × Str)) (tp : TOp) : TO := fun σ H Q => ∃ F η P, Rs K T F σ η H ∧ tp η P ∧ ∀ x η' H', P x η' → Ext σ η σ η' H H' → Rs K T F σ η' H' → Q x H'
def tNoPartP : TOp := fun η P => P none η
def tPartP (t : TEp) : TOp := fun η P => t η fun x η1 => match x with
 | .int i => P (some i) η1
 | _ => False
theorem PO.weak {e : Option Expr} {t t' : TO} (h : PO X e t) (w : ∀ σ H Q, t' σ H Q → t σ H Q) : PO X e t' := ⟨fun pins s σ H Q I q => h.run pins s σ H Q I (w _ _ _ q)⟩
theorem zp_none : PO X none (upO X.K T tNoPartP) := PO.weak po_none fun σ H Q q => by
 obtain ⟨F, η, P, R, h, k⟩ := q
 exact k _ _ _ h .refl R
theorem zp_some (h : PE X e (up X.K T te)) : PO X (some e) (upO X.K T (tPartP te)) := PO.weak (po_some h) fun σ H Q q => by
 obtain ⟨F, η, P, R, h, k⟩ := q
 refine ⟨F, η, _, R, h, fun x η1 v H1 h1 e1 R1 r => ?_⟩
 split at h1
 ·exact ⟨_, r.int_, k _ _ _ h1 e1 R1⟩
 ·cases h1
def cutP {α : Type} (xs : List α) (lo hi : Option Int) : List α := (xs.drop (HT.sIx xs.length 0 lo)).take (HT.sIx xs.length xs.length hi - HT.sIx xs.length 0 lo)
theorem cut_reps {K : PySem.W.Frag} {O H} {xs : List PV} {vs : List V} {lo hi} (h : Reps K O H xs vs) : Reps K O H (cutP xs lo hi) (cutV vs lo hi) := by
 unfold cutP cutV
 rw [h.len]
 exact (h.drop _).take _
def rSlP : PV → Option Int → Option Int → (PV → Prop) → Prop := fun x lo hi P => match x with
 | .lst xs => P (.lst (cutP xs lo hi))
 | .scr ns => P (.lst ((cutP ns lo hi).map .int))
 | .str z => z.length ≤ sizeLine ∧ P (.str (cutS z lo hi))
 | .tup xs => ¬ (HT.sIx xs.length 0 lo = 0 ∧ HT.sIx xs.length xs.length hi = xs.length) ∧ P (.tup (cutP xs lo hi))
 | _ => False
theorem SlR.weak {r r' : V → Option Int → Option Int → Hp → VK → Prop} (h : SlR X r) (w : ∀ x lo hi H Q, r' x lo hi H Q → r x lo hi H Q) : SlR X r' := fun pins s σ H x v vl vu lo hi sl Q I rx hs pl pu q => h pins s σ H x v vl vu lo hi sl Q I rx hs pl pu (w _ _ _ _ _ q)
theorem ints_reps {K : PySem.W.Frag} {O H} : ∀ ns : List Int, Reps K O H (ns.map .int) (ns.map V.int)
 | [] => .nil
 | _ :: r => .cons rep_int (ints_reps r)
theorem cut_ints (ns : List Int) (lo hi) : cutV (ns.map V.int) lo hi = (cutP ns lo hi).map V.int := by
 unfold cutP cutV
 rw [List.length_map, ← List.map_drop, ← List.map_take]
theorem zl_sl : SlR X (fun x lo hi H Q => ∃ O px P, Trk O H ∧ Rep X.K O H px x ∧ rSlP px lo hi P ∧ Out X.K O H P Q) := by
 refine SlR.weak ((sl_list (X := X)).or (sl_str.or sl_tup)) fun x lo hi H Q h => ?_
 obtain ⟨O, px, P, tr, hx, h, k⟩ := h
 unfold rSlP at h
 split at h
 ·obtain ⟨a, vs, rfl, n, q, rr⟩ := hx.lst_
  exact .inl ⟨a, vs, rfl, SqL.of q, fun p hp => k.newL h tr (cut_reps rr) hp⟩
 ·obtain ⟨a, o, rfl, n, q⟩ := hx.scr_
  refine .inl ⟨a, _, rfl, .inl (.inr ⟨o, q⟩), fun p hp => ?_⟩
  rw [cut_ints]
  exact k.newL h tr (ints_reps _) hp
 ·cases hx.str_
  exact .inr (.inl ⟨_, rfl, h.1, k.str h.2⟩)
 ·obtain ⟨a, vs, rfl, q, rr⟩ := hx.tup_
  exact .inr (.inr ⟨a, vs, rfl, q.sq, by rw [rr.len]; exact h.1, fun p hp => k.newT h.2 tr (cut_reps rr) hp⟩)
 ·cases h
def tSliceP (te : TEp) (tl th : TOp) : TEp := fun η P => te η fun x η1 => tl η1 fun l η2 => th η2 fun u η3 => rSlP x l u fun z => P z η3
theorem z_slice {lo hi : Option Expr} {tl th : TOp} {p2 : Pos} (he : PE X e (up X.K T te)) (hl : PO X lo (upO X.K T tl)) (hu : PO X hi (upO X.K T th)) : PE X (.Subscript e (.Slice lo hi none p2) pos) (up X.K T (tSliceP te tl th)) := by
 refine PE.weak (pe_slice zl_sl he hl hu) fun σ H Q q => ?_
 obtain ⟨F, η, P, R, h, k⟩ := q
 refine ⟨F, η, _, R, h, fun x η1 v H1 h1 e1 R1 r1' => ⟨F, η1, _, R1, h1, fun l η2 H2 h2 e2 R2' => ⟨F, η2, _, R2', h2, fun u η3 H3 h3 e3 R3 => ?_⟩⟩⟩
 exact ⟨Oof F σ η3, x, _, R3.trO, (r1'.car e2.car).car e3.car, h3, fun z u H4 pz s rz => k z η3 u H4 pz (((e1.trans e2).trans e3).trans (.same s)) (R3.same s) rz⟩
def strsOf : List PV → Option (List Str)
 | [] => some []
 | .str b :: r => (strsOf r).map (b :: ·)
 | _ => none
theorem strsOf_rep {K : PySem.W.Frag} {O H} : ∀ {xs : List PV} {bs : List Str} {vs : List V}, strsOf xs = some bs → Reps K O H xs vs → vs = bs.map V.str
 | [], _, _, e, h => by unfold strsOf at e; cases e; exact h.inv0
 | x :: xs, _, _, e, h => by
  obtain ⟨v, us, rfl, r, t⟩ := h.inv
  cases x <;> unfold strsOf at e <;> try (cases e)
  cases q : strsOf xs with
  | none => rw [q] at e; cases e
  | some r' =>
   rw [q] at e; cases e
   rw [r.str_, strsOf_rep q t]; rfl
def tJoinP (ta tb : TEp) : TEp := fun η P => ta η fun x η1 => (∃ z, x = .str z) ∧ tb η1 fun y η2 => match x, y with
 | .str z, .lst xs => ∃ ys, strsOf xs = some ys ∧ (ys.map (·.length)).sum + ys.length * z.length ≤ 16777216 ∧ P (.str (Txt.join z ys)) η2
 | _, _ => False
theorem z_join {K0 : PySem.W.Frag} (hK : X.K = K0)
  (pf : PE X e (tM1 (fun x xs H Q => ∃ a p, ∃ ys : List Str, x = .str a ∧ xs = [.ref p] ∧ (SqL K0 H p (ys.map V.str) ∨ SqT K0 H p (ys.map V.str)) ∧ (ys.map (·.length)).sum + ys.length * a.length ≤ 16777216 ∧ Q (.str (Txt.join a ys)) H) (up K0 T ta) (up K0 T tb))) : PE X e (up K0 T (tJoinP ta tb)) := by
 subst hK
 refine PE.weak pf fun σ H Q q => ?_
 obtain ⟨F, η, P, R, h, k⟩ := q
 refine ⟨F, η, _, R, h, fun x η1 v H1 h1 e1 R1 r1' => ?_⟩
 obtain ⟨⟨z, rfl⟩, h1⟩ := h1
 cases r1'.str_
 refine ⟨⟨z, rfl⟩, F, η1, _, R1, h1, fun y η2 w H2 h2 e2 R2' rw' => ?_⟩
 split at h2
 ·rename_i z' xs q
  cases q
  obtain ⟨ys, e, hz, h2⟩ := h2
  obtain ⟨p, vs, rfl, n, q, rr⟩ := rw'.lst_
  have := strsOf_rep e rr
  subst this
  exact ⟨_, p, ys, rfl, rfl, .inl (SqL.of q), hz, k _ _ _ _ h2 (e1.trans e2) R2' rep_str⟩
 ·cases h2
end
def Itr8 (K : PySem.W.Frag) (O : Addr → Prop) (J : It) (xs : List PV) (H : Hp) : Prop :=
 ∀ O' H', Trk O' H' → Car O O' H H' → (∀ b, ¬ Nw H b → ¬ Nw H' b) → ∀ i : Nat, (∀ x, xs[i]? = some x → J.go i H' ∧ ∀ v H'', J.yld i H' v H'' → Same H' H'' ∧ Rep K O' H'' x v) ∧ (xs.length = i → J.stop i H')
abbrev TIp := EP' → (List PV → EP' → Prop) → Prop
def upI (K : PySem.W.Frag) (T : List (Addr × Str)) (tp : TIp) : TI := fun σ H R => ∃ F η P, Rs K T F σ η H ∧ tp η P ∧ ∀ xs η' J H', P xs η' → Ext σ η σ η' H H' → Rs K T F σ η' H' → Itr8 K (Oof F σ η') J xs H' → R J H'
section
variable {X : Cx} {T : List (Addr × Str)} {a b e o tg : Expr} {es : List Expr} {te ta tb : TEp} {t : TAp} {tf : TFp} {pos : Pos}
theorem PI.weak {t t' : TI} (h : PI X tg e t) (w : ∀ σ H Q, t' σ H Q → t σ H Q) : PI X tg e t' := ⟨fun pins s σ H Q I q => h.run pins s σ H Q I (w _ _ _ q)⟩
def iListP (te : TEp) : TIp := fun η P => te η fun x η1 => match x with
 | .lst xs => P xs η1
 | .scr ns => P (ns.map .int) η1
 | _ => False
def iTupP (te : TEp) : TIp := fun η P => te η fun x η1 => match x with
 | .tup xs => P xs η1
 | _ => False
def iStrP (te : TEp) : TIp := fun η P => te η fun x η1 => match x with
 | .str z => P (z.cps.toList.map fun c => .str ⟨#[c]⟩) η1
 | _ => False
def rangeP (lo : Int) (n : Nat) : List PV := (List.range n).map fun (i : Nat) => .int (lo + i)
def iRng1P (te : TEp) : TIp := fun η P => te η fun x η1 => match x with
 | .int j => -(2 ^ 62) ≤ j ∧ j < 2 ^ 62 ∧ P (rangeP 0 j.toNat) η1
 | _ => False
theorem it_list {K : PySem.W.Frag} {O H} {a : Addr} {xs : List PV} {vs : List V} (n : ¬ O a) (h : H a = some (.lst vs)) (r : Reps K O H xs vs) : Itr8 K O (Itl K a) xs H := fun O' H' tr c _ i => by
 have h' := (c a _ n h nofun).1
 have r' := r.car c
 have uniq : ∀ ys, SqL K H' a ys → ys = vs ∨ True := fun _ _ => .inr trivial
 refine ⟨fun x e => ?_, fun e => ⟨vs, SqL.of h', by rw [r'.len]; exact Nat.le_of_eq e⟩⟩
 obtain ⟨v, e1, r1⟩ := r'.get e
 refine ⟨⟨vs, v, SqL.of h', e1⟩, fun w H'' y => ?_⟩
 obtain ⟨e2, y⟩ := y
 subst e2
 have := y vs (SqL.of h')
 rw [e1] at this; cases this
 exact ⟨Same.refl _, r1⟩
theorem zi_list (h : PE X e (up X.K T te)) : PI X tg e (upI X.K T (iListP te)) := by
 refine PI.weak (pi_list h) fun σ H Q q => ?_
 obtain ⟨F, η, P, R, h, k⟩ := q
 refine ⟨F, η, _, R, h, fun x η1 v H1 h1 e1 R1 r1 => ?_⟩
 split at h1
 ·obtain ⟨a, vs, rfl, n, q, rr⟩ := r1.lst_
  exact ⟨a, rfl, ⟨vs, SqL.of q⟩, k _ _ _ _ h1 e1 R1 (it_list n q rr)⟩
 ·rename_i ns
  obtain ⟨a, o, rfl, n, q⟩ := r1.scr_
  refine ⟨a, rfl, ⟨_, .inl (.inr ⟨o, q⟩)⟩, k _ _ _ _ h1 e1 R1 fun O' H' tr c _ i => ?_⟩
  have h' : SqL X.K H' a (ns.map V.int) := .inl (.inr ⟨o, (c a _ n q nofun).1⟩)
  refine ⟨fun x e => ?_, fun e => ⟨_, h', by simp at e ⊢; omega⟩⟩
  have e' : (ns.map V.int)[i]? = (ns[i]?).map V.int := List.getElem?_map
  rw [List.getElem?_map] at e
  cases q : ns[i]? with
  | none => rw [q] at e; cases e
  | some j =>
   rw [q] at e e'; cases e
   refine ⟨⟨_, _, h', e'⟩, fun w H'' y => ?_⟩
   obtain ⟨e2, y⟩ := y
   subst e2
   have := y _ h'
   rw [e'] at this; cases this
   exact ⟨Same.refl _, rep_int⟩
 ·cases h1
theorem TupAt.inj_car {K : PySem.W.Frag} {O O' H H'} {a : Addr} {vs : List V} (t : TupAt K O H a vs) (c : Car O O' H H') : SqT K H' a vs := (t.car c).sq
theorem zi_tup (h : PE X e (up X.K T te)) : PI X tg e (upI X.K T (iTupP te)) := by
 refine PI.weak (pi_tup h) fun σ H Q q => ?_
 obtain ⟨F, η, P, R, h, k⟩ := q
 refine ⟨F, η, _, R, h, fun x η1 v H1 h1 e1 R1 r1 => ?_⟩
 split at h1
 ·obtain ⟨a, vs, rfl, q, rr⟩ := r1.tup_
  refine ⟨a, rfl, ⟨vs, q.sq⟩, k _ _ _ _ h1 e1 R1 fun O' H' tr c _ i => ?_⟩
  have h' := q.inj_car c
  have r' := rr.car c
  refine ⟨fun x e => ?_, fun e => ⟨vs, h', by rw [r'.len]; exact Nat.le_of_eq e⟩⟩
  obtain ⟨v, e1, r1⟩ := r'.get e
  refine ⟨⟨vs, v, h', e1⟩, fun w H'' y => ?_⟩
  obtain ⟨e2, y⟩ := y
  subst e2
  have := y vs h'
  rw [e1] at this; cases this
  exact ⟨Same.refl _, r1⟩
 ·cases h1
theorem zi_str (h : PE X e (up X.K T te)) : PI X tg e (upI X.K T (iStrP te)) := by
 refine PI.weak (pi_str h) fun σ H Q q => ?_
 obtain ⟨F, η, P, R, h, k⟩ := q
 refine ⟨F, η, _, R, h, fun x η1 v H1 h1 e1 R1 r1 => ?_⟩
 split at h1
 ·rename_i z
  cases r1.str_
  refine ⟨z, rfl, k _ _ _ _ h1 e1 R1 fun O' H' tr c _ i => ⟨fun x e => ?_, fun e => ?_⟩⟩
  ·rw [List.getElem?_map] at e
   cases q : z.cps.toList[i]? with
   | none => rw [q] at e; cases e
   | some c0 =>
    rw [q] at e; cases e
    have q' : z.cps[i]? = some c0 := by rw [← Array.getElem?_toList]; exact q
    refine ⟨(Array.getElem?_eq_some_iff.mp q').1, fun w H'' y => ?_⟩
    obtain ⟨e2, c1, e3, rfl⟩ := y
    subst e2
    rw [q'] at e3; cases e3
    exact ⟨Same.refl _, rep_str⟩
  ·show z.cps.size ≤ i
   simp at e; omega
 ·cases h1
theorem it_range {K : PySem.W.Frag} {O H} {lo : Int} {n : Nat} : Itr8 K O (Itr lo n) (rangeP lo n) H := fun O' H' tr c _ i => by
 refine ⟨fun x e => ?_, fun e => ?_⟩
 ·unfold rangeP at e
  rw [List.getElem?_map] at e
  by_cases hi : i < n
  ·rw [List.getElem?_range hi] at e
   cases e
   refine ⟨hi, fun w H'' y => ?_⟩
   obtain ⟨e2, rfl⟩ := y
   subst e2
   exact ⟨Same.refl _, rep_int⟩
  ·rw [List.getElem?_eq_none (by simpa using hi)] at e; cases e
 ·show n ≤ i
  simp [rangeP] at e; omega
theorem zi_range1 {p : Pos} (hg : Gl X "range") (hm : X.mg "range" = none) (ha : PE X a (up X.K T te)) (hs : starEach [a] X.env = [(false, eval a X.env)] := by rfl) : PI X tg (.Call (.Name "range" p) [a] [] pos) (upI X.K T (iRng1P te)) := by
 refine PI.weak (pi_range1 hg hm (pa_cons ha pa_nil hs) hs) fun σ H Q q => ?_
 obtain ⟨F, η, P, R, h, k⟩ := q
 refine ⟨F, η, _, R, h, fun x η1 v H1 h1 e1 R1 r1 => ?_⟩
 split at h1
 ·exact ⟨_, by rw [r1.int_], h1.1, h1.2.1, k _ _ _ _ h1.2.2 e1 R1 it_range⟩
 ·cases h1
def iRng2P (te tb : TEp) : TIp := fun η P => te η fun x η1 => tb η1 fun y η2 => match x, y with
 | .int i, .int j => -(2 ^ 62) ≤ i ∧ i < 2 ^ 62 ∧ -(2 ^ 62) ≤ j ∧ j < 2 ^ 62 ∧ P (rangeP i (j - i).toNat) η2
 | _, _ => False
theorem zi_range2 {p : Pos} (hg : Gl X "range") (hm : X.mg "range" = none) (ha : PE X a (up X.K T ta)) (hb : PE X b (up X.K T tb)) (hs : starEach [a, b] X.env = [(false, eval a X.env), (false, eval b X.env)] := by rfl) (hs2 : starEach [b] X.env = [(false, eval b X.env)] := by rfl)
  (pf : PI X tg (.Call (.Name "range" p) [a, b] [] pos) (iRng2 (tCons (up X.K T ta) (tCons (up X.K T tb) tNil)))) : PI X tg (.Call (.Name "range" p) [a, b] [] pos) (upI X.K T (iRng2P ta tb)) := by
 refine PI.weak pf fun σ H Q q => ?_
 obtain ⟨F, η, P, R, h, k⟩ := q
 refine ⟨F, η, _, R, h, fun x η1 v H1 h1 e1 R1 r1 => ⟨F, η1, _, R1, h1, fun y η2 w H2 h2 e2 R2' r2 => ?_⟩⟩
 split at h2
 ·exact ⟨_, _, by rw [(r1.car e2.car).int_, r2.int_], ⟨h2.1, h2.2.1, h2.2.2.1, h2.2.2.2.1⟩, k _ _ _ _ h2.2.2.2.2 (e1.trans e2) R2' it_range⟩
 ·cases h2
def tForP (ti : TIp) (g : TGp) (tb : TSp) : TSp := fun D η => ti η fun xs η1 => ∃ Inv : Nat → EP' → Prop, Inv 0 η1 ∧
 (∀ i x η2, xs[i]? = some x → Inv i η2 → g x η2 fun η3 => tb { D with nx := Inv (i + 1), ct := Inv (i + 1), bk := D.nx } η3) ∧ (∀ η2, Inv xs.length η2 → D.nx η2)
theorem z_for {iter : Expr} {body : List Stmt} {ti : TIp} {g : TGp} {tb : TSp} (hp : PassesOwn (model X.prog X.w) X.A X.env X.xe) (hc : X.calm = true) (hi : PI X tg iter (upI X.K T ti)) (hg : PG X tg (upG X.K T g)) (hb : PSs X body (upS X.K T tb))
  (hs : ∀ x, foldedSetIterable iter X.env x = pure x := by intro _; rfl) : PS X (.For tg iter body [] pos) (upS X.K T (tForP ti g tb)) := by
 refine PS.weak (ps_for hp hc hi hg hb hs) fun D σ H q => ?_
 obtain ⟨F, η, D', R, h, k1, k2, k3, k4⟩ := q
 refine ⟨F, η, _, R, h, fun xs η1 J H1 h1 e1 R1 hJ => ?_⟩
 obtain ⟨Inv, i0, step, fin⟩ := h1
 refine ⟨fun i m σ2 H2 => m = xs.length - i ∧ i ≤ xs.length ∧ ∃ η2, Inv i η2 ∧ Rs X.K T F σ2 η2 H2 ∧ Ext σ η1 σ2 η2 H1 H2, ⟨_, rfl, Nat.zero_le _, η1, i0, R1, .refl⟩, ?_⟩
 rintro i m σ2 H2 ⟨rfl, hi, η2, p, R2, e2⟩
 have it := hJ (Oof F σ2 η2) H2 R2.trO e2.car e2.live i
 by_cases hlt : i < xs.length
 ·refine .inr ⟨(it.1 xs[i] (by simp [hlt])).1, fun σ3 H3 => ∃ η3, Inv (i + 1) η3 ∧ Rs X.K T F σ3 η3 H3 ∧ Ext σ η1 σ3 η3 H1 H3, fun σ' H' ⟨η3, p', R', e'⟩ => ⟨xs.length - (i + 1), by omega, rfl, hlt, η3, p', R', e'⟩, fun v H3 y => ?_⟩
  obtain ⟨s, rep⟩ := (it.1 xs[i] (by simp [hlt])).2 v H3 y
  refine ⟨F, η2, _, _, R2.same s, rep, step i _ η2 (by simp [hlt]) p, fun η4 σ4 H4 h4 e4 R4 => ?_⟩
  have E := (e2.trans (.same s)).trans e4
  exact ⟨F, η4, _, R4, h4, fun η5 σ5 H5 h5 e5 R5 => ⟨η5, h5, R5, E.trans e5⟩, fun η5 σ5 H5 h5 e5 R5 => k1 _ _ _ h5 ((e1.trans E).trans e5) R5, fun η5 σ5 H5 h5 e5 R5 => ⟨η5, h5, R5, E.trans e5⟩, fun x η5 σ5 v H5 h5 e5 R5 r5 => k4 _ _ _ _ _ h5 ((e1.trans E).trans e5) R5 r5⟩
 ·have e : i = xs.length := by omega
  subst e
  exact .inl ⟨it.2 rfl, k1 _ _ _ (fin η2 p) (e1.trans e2) R2⟩
end
def wipeP (η : EP') : List Nat → EP'
 | [] => η
 | v :: vs => (wipeP η vs).set v .no
theorem wipeP_len (η : EP') : ∀ vs : List Nat, (wipeP η vs).length = η.length
 | [] => rfl
 | v :: vs => by unfold wipeP; rw [List.length_set, wipeP_len η vs]
theorem wipeP_out {η : EP'} {i : Nat} : ∀ {vs : List Nat}, i ∉ vs → (wipeP η vs)[i]? = η[i]?
 | [], _ => rfl
 | v :: vs, h => by
  unfold wipeP
  rw [List.getElem?_set_ne (fun e => h (by simp [e])), wipeP_out fun z => h (by simp [z])]
theorem wipeP_in {η : EP'} {i : Nat} {y : Sl} : ∀ {vs : List Nat}, i ∈ vs → (wipeP η vs)[i]? = some y → y = .no
 | v :: vs, h, e => by
  unfold wipeP at e
  by_cases q : i = v
  ·subst q; exact at_set e
  ·rw [ne_set q] at e
   exact wipeP_in (by simpa [q] using h) e
theorem wipe_in {σ : St} {i : Nat} : ∀ {vs : List Nat}, i ∈ vs → (wipe σ vs)[i]? = if i < σ.length then some none else none
 | v :: vs, h => by
  unfold wipe
  by_cases q : i = v
  ·subst q
   by_cases hi : i < σ.length
   ·rw [if_pos hi, List.getElem?_set_self (by rw [wipe_length]; exact hi)]
   ·rw [if_neg hi, List.getElem?_eq_none (by rw [List.length_set, wipe_length]; omega)]
  ·rw [ne_set q]
   exact wipe_in (by simpa [q] using h)
theorem wipe_set {σ : St} {i : Nat} {v : Option V} {vs : List Nat} (h : i ∈ vs) : wipe (σ.set i v) vs = wipe σ vs := by
 apply List.ext_getElem?
 intro j
 by_cases hj : j ∈ vs
 ·rw [wipe_in hj, wipe_in hj, List.length_set]
 ·rw [wipe_out hj, wipe_out hj, ne_set fun e => hj (by rw [e]; exact h)]
theorem wipe_set_all {σ : St} {vs : List Nat} : L2.wipe (L2.wipe σ vs) vs = L2.wipe σ vs := by
 apply List.ext_getElem?
 intro j
 by_cases hj : j ∈ vs
 ·rw [wipe_in hj, wipe_in hj, wipe_length]
 ·rw [wipe_out hj]
theorem wipe_agree {σ σ' : St} {vs : List Nat} (h : wipe σ' vs = wipe σ vs) : σ'.length = σ.length ∧ ∀ j, j ∉ vs → σ'[j]? = σ[j]? := by
 refine ⟨by rw [← wipe_length σ' vs, h, wipe_length], fun j hj => ?_⟩
 rw [← wipe_out (σ := σ') hj, h, wipe_out hj]
section
variable {K : PySem.W.Frag} {T : List (Addr × Str)} {F : Addr → Prop} {σ σ' : St} {η : EP'} {H H' : Hp} {vs : List Nat}
theorem own_wipe (ag : ∀ j, j ∉ vs → σ'[j]? = σ[j]?) {b : Addr} (z : IsOwn σ' (wipeP η vs) b) : IsOwn σ η b := by
 obtain ⟨j, p, h1, h2⟩ := z
 by_cases hj : j ∈ vs
 ·cases wipeP_in hj h2
 ·rw [wipeP_out hj] at h2
  rw [ag j hj] at h1
  exact ⟨j, p, h1, h2⟩
theorem Rs.wipe (R : Rs K T F σ η H) (hl : σ'.length = σ.length) (ag : ∀ j, j ∉ vs → σ'[j]? = σ[j]?) : Rs K T F σ' (wipeP η vs) H := by
 have m : ∀ b, Oof F σ' (wipeP η vs) b → Oof F σ η b := Oof_mono fun b z => own_wipe ag z
 refine ⟨by rw [hl, R.len, wipeP_len], fun j y e => ?_, fun j o e => ?_, fun j k o o' a e1 e2 e3 e4 => ?_, R.tr, R.tb⟩
 ·have hj : j ∉ vs := fun z => nomatch wipeP_in z e
  rw [wipeP_out hj] at e
  obtain ⟨w, h1, h2⟩ := R.va j y e
  exact ⟨w, (ag j hj).trans h1, h2.mono m⟩
 ·have hj : j ∉ vs := fun z => nomatch wipeP_in z e
  rw [wipeP_out hj] at e
  obtain ⟨a, h1, h2, h3⟩ := R.ow j o e
  exact ⟨a, (ag j hj).trans h1, h2.mono m, h3⟩
 ·have hj : j ∉ vs := fun z => nomatch wipeP_in z e1
  have hk : k ∉ vs := fun z => nomatch wipeP_in z e2
  rw [wipeP_out hj] at e1
  rw [wipeP_out hk] at e2
  rw [ag j hj] at e3
  rw [ag k hk] at e4
  exact R.nd j k o o' a e1 e2 e3 e4
theorem Ext.wipe (ag : ∀ j, j ∉ vs → σ'[j]? = σ[j]?) : Ext σ η σ' (wipeP η vs) H H := ⟨fun _ _ e _ _ => e, fun _ e => e, fun b z => .inl (own_wipe ag z), fun o e => by
 have hj : 0 ∉ vs := fun z => nomatch wipeP_in z e
 rw [wipeP_out hj] at e
 exact ⟨o, e, ag 0 hj⟩⟩
theorem Rs.updF {D : Addr} {us ws : List V} (R : Rs K T F σ η H) (hF : F D) (h : H D = some (.lst us)) : Rs K T F σ η (upd H D (.lst ws)) := by
 have c : Car (Oof F σ η) (Oof F σ η) H (upd H D (.lst ws)) := fun b q n hb _ => ⟨by rw [upd_ne (fun z => n (.inl (by rw [z]; exact hF)))]; exact hb, n⟩
 refine ⟨R.len, fun i x e => ?_, fun i o e => ?_, R.nd, fun b hb => ?_, Tabs.upd R.tb h nofun nofun⟩
 ·obtain ⟨v, h1, h2⟩ := R.va i x e
  exact ⟨v, h1, h2.car c⟩
 ·obtain ⟨a, h1, h2, h3⟩ := R.ow i o e
  exact ⟨a, h1, h2.car c (upd_ne fun z => h3 (by rw [z]; exact hF)), h3⟩
 ·exact live_upd nofun (R.tr b hb)
end
section
variable {X : Cx} {T : List (Addr × Str)} {a b e o tg elt iter : Expr} {es ifs : List Expr} {te ta tb : TEp} {t : TAp} {tf : TFp} {pos : Pos}
def upGw (K : PySem.W.Frag) (T : List (Addr × Str)) (vs : List Nat) (g : TGp) : TG := fun v σ H Q => ∃ F η x P, Rs K T F σ η H ∧ Rep K (Oof F σ η) H x v ∧ g x η P ∧ ∀ η' σ' H', P η' → L2.wipe σ' vs = L2.wipe σ vs → Ext σ η σ' η' H H' → Rs K T F σ' η' H' → Q σ' H'
def upGsw (K : PySem.W.Frag) (T : List (Addr × Str)) (vs : List Nat) (g : TGsp) : TGs := fun us σ H Q => ∃ F η xs P, Rs K T F σ η H ∧ Reps K (Oof F σ η) H xs us ∧ g xs η P ∧ ∀ η' σ' H', P η' → L2.wipe σ' vs = L2.wipe σ vs → Ext σ η σ' η' H H' → Rs K T F σ' η' H' → Q σ' H'
theorem zgw_name {vs : List Nat} {i : Nat} (hv : i ∈ vs) (pf : PG X tg (gName i)) : PG X tg (upGw X.K T vs (gNameP i)) := by
 refine PG.weak pf fun v σ H Q q => ?_
 obtain ⟨F, η, x, P, R, r, h, k⟩ := q
 exact k _ _ _ h (wipe_set hv) .setv (R.setv r)
theorem zgsw_nil {vs : List Nat} : PGs X [] (upGsw X.K T vs gNilP) := by
 refine PGs.weak pgs_nil fun v σ H Q q => ?_
 obtain ⟨F, η, x, P, R, r, h, k⟩ := q
 rw [h.1] at r
 exact ⟨r.inv0, k _ _ _ h.2 rfl .refl R⟩
theorem zgsw_cons {vs : List Nat} {t : TGp} {u : TGsp} (pf : PGs X (e :: es) (gCons (upGw X.K T vs t) (upGsw X.K T vs u))) : PGs X (e :: es) (upGsw X.K T vs (gConsP t u)) := by
 refine PGs.weak pf fun v σ H Q q => ?_
 obtain ⟨F, η, x, P, R, r, h, k⟩ := q
 unfold gConsP at h
 split at h
 ·obtain ⟨v, us, rfl, r1, r2⟩ := r.inv
  refine ⟨v, us, rfl, F, η, _, _, R, r1, h, fun η' σ' H' h' w1 e1 R1 => ⟨F, η', _, P, R1, r2.car e1.car, h', fun η'' σ'' H'' h'' w2 e2 R2 => k _ _ _ h'' (w2.trans w1) (e1.trans e2) R2⟩⟩
 ·cases h
theorem zgw_tup {vs : List Nat} {k n : Nat} {t : TGsp} (pf : PG X (.Tuple es k pos) (gTup X.K n (upGsw X.K T vs t))) : PG X (.Tuple es k pos) (upGw X.K T vs (gTupP n t)) := by
 refine PG.weak pf fun v σ H Q q => ?_
 obtain ⟨F, η, x, P, R, r, h, k⟩ := q
 unfold gTupP at h
 split at h
 ·obtain ⟨a, vs, rfl, t, r⟩ := r.tup_
  exact ⟨a, vs, rfl, t.sq, by rw [r.len]; exact h.1, F, η, _, P, R, r, h.2, k⟩
 ·cases h
def tYesP : TTp := fun η P => P true η
theorem PTs.weak {t t' : TT} (h : PTs X ifs t) (w : ∀ σ H Q, t' σ H Q → t σ H Q) : PTs X ifs t' := ⟨fun pins s σ H Q I q => h.run pins s σ H Q I (w _ _ _ q)⟩
theorem zts_nil : PTs X [] (upB X.K T tYesP) := PTs.weak pts_nil fun σ H Q q => by
 obtain ⟨F, η, P, R, h, k⟩ := q
 exact k _ _ _ h .refl R
theorem zts_one {c : Expr} {t : TTp} (h : PT X c (upB X.K T t)) : PTs X [c] (upB X.K T t) := pts_one h
def tLcP (ti : TIp) (g : TGp) (tt : TTp) (te : TEp) (vs : List Nat) : TFp := fun η P => ti η fun xs η1 => ∃ Inv : Nat → List PV → EP' → Prop, Inv 0 [] (wipeP η1 vs) ∧
 (∀ i x acc η2, xs[i]? = some x → Inv i acc η2 → g x (wipeP η2 vs) fun η3 => tt η3 fun b η4 => if b = true then te η4 fun y η5 => acc.length < sizeLine ∧ Inv (i + 1) (acc ++ [y]) (wipeP η5 vs) else Inv (i + 1) acc (wipeP η4 vs)) ∧
 (∀ acc η2, Inv xs.length acc η2 → P acc η2)
theorem lc_weak {K : PySem.W.Frag} {ti : TIp} {g : TGp} {tt : TTp} {te : TEp} {vs : List Nat} {σ : St} {H : Hp} {Q : VK} (q : upF K T (tLcP ti g tt te vs) σ H Q) : tLc (upI K T ti) (upGw K T vs g) (upB K T tt) (up K T te) vs σ H Q := by
 obtain ⟨F, η, P, R, h, k⟩ := q
 refine ⟨F, η, _, R, h, fun xs η1 J H1 h1 e1 R1 hJ D hD => ?_⟩
 obtain ⟨Inv, i0, step, fin⟩ := h1
 have hn : Nw H D := e1.nw (Nw.of hD)
 have nF : ¬ F D := fun z => R.tr D z hn
 have agw : ∀ j, j ∉ vs → (L2.wipe σ vs)[j]? = σ[j]? := fun j hj => wipe_out hj
 refine ⟨fun i m H2 => m = xs.length - i ∧ i ≤ xs.length ∧ ∃ acc us η2, Inv i acc η2 ∧ Rs K T (With F D) σ η2 H2 ∧ Ext σ η1 σ η2 H1 H2 ∧ H2 D = some (.lst us) ∧ Reps K (Oof (With F D) σ η2) H2 acc us, ⟨_, rfl, Nat.zero_le _, [], [], wipeP η1 vs, i0, (R1.add (o := .lst []) hD nofun).wipe rfl (fun _ _ => rfl), ?_, upd_same, .nil⟩, ?_⟩
 ·exact (Ext.same (Same.new hD)).trans (.wipe fun _ _ => rfl)
 rintro i m H2 ⟨rfl, hi, acc, us, η2, p, R2, e2, hd, ru⟩
 have Rb : Rs K T (With F D) (L2.wipe σ vs) (wipeP η2 vs) H2 := R2.wipe (wipe_length _ _) agw
 have eb : Ext σ η1 (L2.wipe σ vs) (wipeP η2 vs) H1 H2 := e2.trans (.wipe agw)
 have carD : Car (Oof F σ η1) (Oof (With F D) (L2.wipe σ vs) (wipeP η2 vs)) H1 H2 := fun b o n hb t => by
  refine ⟨((eb.car (F := F)) b o n hb t).1, fun z => ?_⟩
  rcases z with (z | z) | z
  ·exact n (.inl z)
  ·rw [z, hD] at hb; cases hb
  ·exact ((eb.car (F := F)) b o n hb t).2 (.inr z)
 have it := hJ _ H2 Rb.trO carD e2.live i
 by_cases hlt : i < xs.length
 ·refine .inr ⟨(it.1 xs[i] (by simp [hlt])).1, fun H3 => ∃ acc us η3, Inv (i + 1) acc η3 ∧ Rs K T (With F D) σ η3 H3 ∧ Ext σ η1 σ η3 H1 H3 ∧ H3 D = some (.lst us) ∧ Reps K (Oof (With F D) σ η3) H3 acc us,
   fun H' ⟨acc, us, η3, q1, q2, q3, q4, q5⟩ => ⟨xs.length - (i + 1), by omega, rfl, hlt, acc, us, η3, q1, q2, q3, q4, q5⟩, fun v H3 y => ?_⟩
  obtain ⟨s, rep⟩ := (it.1 xs[i] (by simp [hlt])).2 v H3 y
  refine ⟨With F D, wipeP η2 vs, _, _, Rb.same s, rep, step i _ acc η2 (by simp [hlt]) p, fun η4 σ4 H4 h4 w4 e4 R4 => ⟨by rw [w4]; exact wipe_set_all, With F D, η4, _, R4, h4, fun c η5 H5 h5 e5 R5 => ?_⟩⟩
  have E5 : Ext σ η1 σ4 η5 H1 H5 := ((eb.trans (.same s)).trans e4).trans e5
  have ag4 : ∀ j, j ∉ vs → σ[j]? = σ4[j]? := fun j hj => ((wipe_agree (w4.trans wipe_set_all)).2 j hj).symm
  have ln4 : σ.length = σ4.length := ((wipe_agree (w4.trans wipe_set_all)).1).symm
  cases c with
  | true =>
   simp only [if_true] at h5 ⊢
   refine ⟨With F D, η5, _, R5, h5, fun y η6 w H6 h6 e6 R6 r6 => ?_⟩
   have E6 := E5.trans e6
   have e36 : Ext (L2.wipe σ vs) (wipeP η2 vs) σ4 η6 H2 H6 := (((Ext.same s).trans e4).trans e5).trans e6
   have dk : H6 D = some (.lst us) := e36.keep D _ hd (fun z => by
    obtain ⟨j, p, z1, z2⟩ := z
    obtain ⟨a, q1, q2, q3⟩ := Rb.ow j p z2
    rw [z1] at q1; cases q1
    exact q3 (.inr rfl)) nofun
   have ru6 : Reps K (Oof (With F D) σ4 η6) H6 acc us := (ru.car ((Ext.wipe agw).car (F := With F D))).car (e36.car (F := With F D))
   refine ⟨us, dk, by rw [ru.len]; exact h6.1, acc ++ [y], us ++ [w], wipeP η6 vs, h6.2, (R6.updF (.inr rfl) dk).wipe ln4 ag4, ?_, upd_same, ?_⟩
   ·refine Ext.trans ⟨fun b o hb nb t => ?_, fun b hb => ?_, E6.new, E6.fst⟩ (Ext.wipe ag4)
    ·rw [upd_ne (fun z => by rw [z, hD] at hb; cases hb)]; exact E6.keep b o hb nb t
    ·exact live_upd nofun (E6.live b hb)
   ·have c7 : Car (Oof (With F D) σ4 η6) (Oof (With F D) σ4 η6) H6 (upd H6 D (.lst (us ++ [w]))) := fun b o n hb _ => ⟨by rw [upd_ne (fun z => n (.inl (.inr z)))]; exact hb, n⟩
    exact ((ru6.app (.cons r6 .nil)).car c7).car ((Ext.wipe (H := upd H6 D (.lst (us ++ [w]))) ag4).car (F := With F D))
  | false =>
   simp only [Bool.false_eq_true, if_false] at h5 ⊢
   have e35 : Ext (L2.wipe σ vs) (wipeP η2 vs) σ4 η5 H2 H5 := ((Ext.same s).trans e4).trans e5
   have dk : H5 D = some (.lst us) := e35.keep D _ hd (fun z => by
    obtain ⟨j, p, z1, z2⟩ := z
    obtain ⟨a, q1, q2, q3⟩ := Rb.ow j p z2
    rw [z1] at q1; cases q1
    exact q3 (.inr rfl)) nofun
   exact ⟨acc, us, wipeP η5 vs, h5, R5.wipe ln4 ag4, E5.trans (.wipe ag4), dk, ((ru.car ((Ext.wipe agw).car (F := With F D))).car (e35.car (F := With F D))).car ((Ext.wipe ag4).car (F := With F D))⟩
 ·have e : i = xs.length := by omega
  subst e
  exact .inl ⟨it.2 rfl, k acc η2 D us H2 (fin acc η2 p) (e1.trans e2) R2 hn nF hd ru⟩
theorem zf_lc {scope : Scope} {own : List (Str × Nat)} {ti : TIp} {g : TGp} {tt : TTp}
  (pf : PE X (.ListComp elt [⟨tg, iter, ifs, 0⟩] scope pos) (tLc (upI X.K T ti) (upGw X.K T (own.map (·.2)) g) (upB X.K T tt) (up X.K T te) (own.map (·.2)))) : PE X (.ListComp elt [⟨tg, iter, ifs, 0⟩] scope pos) (upF X.K T (tLcP ti g tt te (own.map (·.2)))) :=
 PE.weak pf fun σ H Q q => lc_weak q
end
abbrev SpP := List PV → (PV → Prop) → Prop
abbrev SpR := Ow → List PV → (PV → Ow → Prop) → Prop
def upSp (K : PySem.W.Frag) (T : List (Addr × Str)) (sp : SpP) : Sp := fun vs H Q _ => ∃ F args P, Trk F H ∧ LamX.Tabs T H ∧ Reps K F H args vs ∧ sp args P ∧ ∀ x v H', P x → Gr H H' → LamX.Tabs T H' → Rep K F H' x v → Q v H'
structure GrB (a : Addr) (H H' : Hp) : Prop where
 keep : ∀ b o, b ≠ a → H b = some o → (∀ ps, o ≠ .tbl ps) → H' b = some o
 live : ∀ b, ¬ Nw H b → ¬ Nw H' b
def upSpR (K : PySem.W.Frag) (T : List (Addr × Str)) (sp : SpR) : Sp := fun vs H Q _ => ∃ F a ws o args P, vs = .ref a :: ws ∧ ¬ F a ∧ Trk F H ∧ LamX.Tabs T H ∧ OwAt K (With F a) H a o ∧ Reps K (With F a) H args ws ∧ sp o args P ∧
 ∀ x o' v H', P x o' → GrB a H H' → LamX.Tabs T H' → OwAt K (With F a) H' a o' → Rep K (With F a) H' x v → Q v H'
def startP (n : Nat) (args : List PV) : EP' := args.map Sl.va ++ List.replicate (n - args.length) .no
section
variable {K : PySem.W.Frag} {T : List (Addr × Str)} {F : Addr → Prop} {H H' : Hp}
theorem start_of {N : List Str} {vs : List V} {i : Nat} {v : V} (h : vs[i]? = some v) : (start N vs)[i]? = some (some v) := by
 have hi : i < vs.length := (List.getElem?_eq_some_iff.mp h).1
 unfold L2.start
 rw [List.getElem?_append_left (by simpa using hi), List.getElem?_map, h]; rfl
theorem startP_va {n : Nat} {args : List PV} {i : Nat} {s : Sl} (h : (startP n args)[i]? = some s) : (∃ x, s = .va x ∧ args[i]? = some x) ∨ s = .no := by
 unfold startP at h
 by_cases hi : i < args.length
 ·rw [List.getElem?_append_left (by simpa using hi), List.getElem?_map] at h
  cases q : args[i]? with
  | none => rw [q] at h; cases h
  | some w => rw [q] at h; cases h; exact .inl ⟨w, rfl, rfl⟩
 ·rw [List.getElem?_append_right (by simpa using hi), List.getElem?_replicate] at h
  split at h
  ·cases h; exact .inr rfl
  ·cases h
theorem startP_noown {n : Nat} {args : List PV} {σ : St} {a : Addr} : ¬ IsOwn σ (startP n args) a := by
 rintro ⟨i, o, h1, h2⟩
 rcases startP_va h2 with ⟨x, e, _⟩ | e <;> cases e
theorem rs_start {N : List Str} {args : List PV} {vs : List V} (tr : Trk F H) (tb : LamX.Tabs T H) (r : Reps K F H args vs) (hl : args.length ≤ N.length) : Rs K T F (start N vs) (startP N.length args) H := by
 have m : ∀ b, Oof F (start N vs) (startP N.length args) b → F b := fun b z => z.elim id fun z => absurd z startP_noown
 refine ⟨?_, fun i x e => ?_, fun i o e => ?_, fun i j o o' a e => ?_, tr, tb⟩
 ·unfold L2.start startP
  simp [r.len]
 ·rcases startP_va e with ⟨y, q, hy⟩ | q
  ·cases q
   obtain ⟨v, h1, h2⟩ := r.get hy
   exact ⟨v, start_of h1, h2.mono m⟩
  ·cases q
 ·rcases startP_va e with ⟨y, q, _⟩ | q <;> cases q
 ·rcases startP_va e with ⟨y, q, _⟩ | q <;> cases q
def startR (n : Nat) (o : Ow) (args : List PV) : EP' := .ow o :: startP (n - 1) args
theorem rs_startR {x : Str} {N : List Str} {a : Addr} {o : Ow} {args : List PV} {ws : List V} (nf : ¬ F a) (tr : Trk F H) (tb : LamX.Tabs T H) (ho : OwAt K (With F a) H a o) (r : Reps K (With F a) H args ws) (hl : args.length ≤ N.length) :
  Rs K T F (start (x :: N) (.ref a :: ws)) (startR (N.length + 1) o args) H ∧ ∀ b, IsOwn (start (x :: N) (.ref a :: ws)) (startR (N.length + 1) o args) b → b = a := by
 have e0 : start (x :: N) (.ref a :: ws) = some (.ref a) :: start N ws := by
  unfold L2.start
  simp
 have e1 : startR (N.length + 1) o args = .ow o :: startP N.length args := by
  unfold startR
  simp
 rw [e0, e1]
 have own : ∀ b, IsOwn (some (V.ref a) :: start N ws) (Sl.ow o :: startP N.length args) b → b = a := by
  rintro b ⟨i, p, h1, h2⟩
  cases i with
  | zero => simp at h1; exact h1.symm
  | succ i =>
   simp at h2
   rcases startP_va h2 with ⟨y, q, _⟩ | q <;> cases q
 have m : ∀ b, Oof F (some (V.ref a) :: start N ws) (Sl.ow o :: startP N.length args) b → With F a b := fun b z => z.elim .inl fun z => .inr (own b z)
 refine ⟨⟨?_, fun i y e => ?_, fun i p e => ?_, fun i j p p' b e1 e2 e3 e4 => ?_, tr, tb⟩, own⟩
 ·unfold L2.start startP
  simp [r.len]
 ·cases i with
  | zero => simp at e
  | succ i =>
   simp at e
   rcases startP_va e with ⟨z, q, hy⟩ | q
   ·cases q
    obtain ⟨v, h1, h2⟩ := r.get hy
    exact ⟨v, by simpa using start_of h1, h2.mono m⟩
   ·cases q
 ·cases i with
  | zero =>
   simp at e
   subst e
   exact ⟨a, rfl, ho.mono m, nf⟩
  | succ i =>
   simp at e
   rcases startP_va e with ⟨z, q, hy⟩ | q <;> cases q
 ·have z : ∀ {i p}, (Sl.ow o :: startP N.length args)[i]? = some (Sl.ow p) → i = 0 := fun {i p} e => by
   cases i with
   | zero => rfl
   | succ i =>
    simp at e
    rcases startP_va e with ⟨z, q, hy⟩ | q <;> cases q
  rw [z e1, z e2]
theorem body_sp {N : List Str} {sp : SpP} {ts : TSp} {vs : List V} {Q : VK} {E : XK} (h : upSp K T sp vs H Q E) (hl : ∀ args P, sp args P → args.length ≤ N.length) (rd : ∀ args P, sp args P → ts { nx := fun _ => P .non, rt := fun x _ => P x } (startP N.length args)) :
  upS K T ts { nx := fun _ H' => Q .non H', rt := Q } (start N vs) H := by
 obtain ⟨F, args, P, tr, tb, r, hs, k⟩ := h
 have R := rs_start (N := N) tr tb r (hl _ _ hs)
 have gr : ∀ {σ' η' H'}, Ext (start N vs) (startP N.length args) σ' η' H H' → Gr H H' := fun e => ⟨fun b o h t => e.keep b o h startP_noown t, e.live⟩
 refine ⟨F, _, _, R, rd args P hs, fun η' σ' H' q e R' => ?_, fun _ _ _ q => q.elim, fun _ _ _ q => q.elim, fun x η' σ' v H' q e R' r' => ?_⟩
 ·exact k _ _ _ q (gr e) R'.tb rep_non
 ·exact k _ _ _ q (gr e) R'.tb (r'.mono fun b z => .inl z)
theorem body_spR {nm : Str} {N : List Str} {sp : SpR} {ts : TSp} {vs : List V} {Q : VK} {E : XK} (h : upSpR K T sp vs H Q E) (hl : ∀ o args P, sp o args P → args.length ≤ N.length)
  (rd : ∀ o args P, sp o args P → ts { nx := fun η' => ∃ o', η'[0]? = some (Sl.ow o') ∧ P .non o', rt := fun x η' => ∃ o', η'[0]? = some (Sl.ow o') ∧ P x o' } (startR (N.length + 1) o args)) :
  upS K T ts { nx := fun _ H' => Q .non H', rt := Q } (start (nm :: N) vs) H := by
 obtain ⟨F, a, ws, o, args, P, rfl, nf, tr, tb, ho, r, hs, k⟩ := h
 obtain ⟨R, own⟩ := rs_startR (x := nm) (N := N) nf tr tb ho r (hl _ _ _ hs)
 have fin : ∀ {η' σ' H' x v}, (∃ o', η'[0]? = some (Sl.ow o') ∧ P x o') → Ext (start (nm :: N) (.ref a :: ws)) (startR (N.length + 1) o args) σ' η' H H' → Rs K T F σ' η' H' → Rep K (Oof F σ' η') H' x v → Q v H' := by
  intro η' σ' H' x v q e R' r'
  obtain ⟨o', e0, p⟩ := q
  obtain ⟨p1, q1, q2⟩ := e.fst o' e0
  obtain ⟨b, s1, s2, s3⟩ := R'.ow 0 o' e0
  have hb : b = a := by
   rw [q2] at s1
   have : (start (nm :: N) (V.ref a :: ws))[0]? = some (some (V.ref a)) := by unfold L2.start; simp
   rw [this] at s1; cases s1; rfl
  subst hb
  have m : ∀ c, With F b c → Oof F σ' η' c := fun c z => z.elim .inl fun z => .inr (by rw [z]; exact ⟨0, o', s1, e0⟩)
  exact k x o' v H' p ⟨fun c u n h t => e.keep c u h (fun z => n (own c z)) t, e.live⟩ R'.tb (s2.mono m) (r'.mono m)
 exact ⟨F, _, _, R, rd o args P hs, fun η' σ' H' q e R' => fin q e R' rep_non, fun _ _ _ q => q.elim, fun _ _ _ q => q.elim, fun x η' σ' v H' q e R' r' => fin q e R' r'⟩
end
section
variable {P : Program} {w : World} {K : PySem.W.Frag} {mg : Str → Option Value} {base : Heap} {T : List (Addr × Str)}
theorem len_sp {ps : List Str} {sp : SpP} (hl : ∀ args P, sp args P → args.length = ps.length) : ∀ vs H Q E, upSp K T sp vs H Q E → vs.length = ps.length := fun vs H Q E h => by
 obtain ⟨F, args, P, _, _, r, hs, _⟩ := h
 rw [r.len, hl _ _ hs]
theorem len_spR {p : Str} {ps : List Str} {sp : SpR} (hl : ∀ o args P, sp o args P → args.length = ps.length) : ∀ vs H Q E, upSpR K T sp vs H Q E → vs.length = (p :: ps).length := fun vs H Q E h => by
 obtain ⟨F, a, ws, o, args, P, rfl, _, _, _, _, r, hs, _⟩ := h
 rw [List.length_cons, List.length_cons, r.len, hl _ _ _ hs]
theorem okP {x qual : Str} {st : Stmt} {f : Addr} {fd : FuncData} {N ps : List Str} {k : Nat} {sp : SpP} (Fn : Fun K x qual st f fd) (S : FnScope N ps (defScope st)) (hl : ∀ args P, sp args P → args.length = ps.length) (hn : ps.length ≤ N.length)
  (hbody : ∀ (cdv : Value) (A : Around) (outer : List Env) (s : Shared) (H : Hp) (E : XK), Room k (A.deeper (envOfC qual (defScope st) s.heap.objs.size f cdv)) →
   ∃ ts, PSs (cxOf CX0 P w K mg base N qual (defScope st) f cdv A outer s H E).nox (defBody st) (upS K T ts) ∧ ∀ args P, sp args P → ts { nx := fun _ => P .non, rt := fun x _ => P x } (startP N.length args)) :
  FnOk P w K mg base CX0 (k + 1) f fd ps (upSp K T sp) := by
 refine Fn.ok S (len_sp hl) fun cdv A outer s H vs Q E hr h => ?_
 obtain ⟨ts, d, rd⟩ := hbody cdv A outer s H E hr
 exact ⟨_, d, body_sp h (fun args P hs => by rw [hl _ _ hs]; exact hn) rd⟩
theorem okR {x qual : Str} {st : Stmt} {f : Addr} {fd : FuncData} {nm : Str} {N ps : List Str} {k : Nat} {sp : SpR} (Fn : Fun K x qual st f fd) (S : FnScope (nm :: N) (nm :: ps) (defScope st)) (hl : ∀ o args P, sp o args P → args.length = ps.length) (hn : ps.length ≤ N.length)
  (hbody : ∀ (cdv : Value) (A : Around) (outer : List Env) (s : Shared) (H : Hp) (E : XK), Room k (A.deeper (envOfC qual (defScope st) s.heap.objs.size f cdv)) →
   ∃ ts, PSs (cxOf CX0 P w K mg base (nm :: N) qual (defScope st) f cdv A outer s H E).nox (defBody st) (upS K T ts) ∧
    ∀ o args P, sp o args P → ts { nx := fun η' => ∃ o', η'[0]? = some (Sl.ow o') ∧ P .non o', rt := fun x η' => ∃ o', η'[0]? = some (Sl.ow o') ∧ P x o' } (startR (N.length + 1) o args)) :
  FnOk P w K mg base CX0 (k + 1) f fd (nm :: ps) (upSpR K T sp) := by
 refine Fn.ok S (len_spR hl) fun cdv A outer s H vs Q E hr h => ?_
 obtain ⟨ts, d, rd⟩ := hbody cdv A outer s H E hr
 exact ⟨_, d, body_spR h (fun o args P hs => by rw [hl _ _ _ hs]; exact hn) rd⟩
structure FnG (P : Program) (w : World) (K : PySem.W.Frag) (mg : Str → Option Value) (base : Heap) (k : Nat) (f : Addr) (fd : FuncData) (ps : List Str) (sp : Sp) : Prop where
 len : ∀ vs H Q E, sp vs H Q E → vs.length = ps.length
 run : ∀ (A : Around) (outer : List Env) (s : Shared) (H : Hp) (args : Args) (us : List Value) (vs : List V) (Q : VK) (E : XK), A.guards = some [] → Room k A → Env0 P w K mg base A outer s H → BindsTo s fd args (ps.zip us) → Vals vs us → sp vs H Q E →
  codeAny (model P w) A (.call (.ref f) args) (CR CX0 outer P w H s Q E) s
theorem okG0 {x qual : Str} {st : Stmt} {f : Addr} {fd : FuncData} {N ps : List Str} {k : Nat} {sp : Sp} (Fn : Fun K x qual st f fd) (S : FnScope N ps (defScope st)) (len : ∀ vs H Q E, sp vs H Q E → vs.length = ps.length)
  (hbody : ∀ (cdv : Value) (A : Around) (outer : List Env) (s : Shared) (H : Hp) (vs : List V) (Q : VK) (E : XK), A.guards = some [] → Room k (A.deeper (envOfC qual (defScope st) s.heap.objs.size f cdv)) → sp vs H Q E →
   ∃ t, PSs (cxOf CX0 P w K mg base N qual (defScope st) f cdv A outer s H E).nox (defBody st) t ∧ t { nx := fun _ H' => Q .non H', rt := Q } (L2.start N vs) H) : FnG P w K mg base (k + 1) f fd ps sp := by
 obtain ⟨oc, od, kV, doc, pm, an, cdv, ct, osl, rfl, lk, hcd⟩ := Fn.ex
 refine ⟨len, fun A outer s H args us vs Q E hg hr e0 hb rv hs => ?_⟩
 refine LamX.run_ofS lk hcd S hr e0 hb rv (len _ _ _ _ hs) fun hr' => ?_
 obtain ⟨t, d, q⟩ := hbody cdv A outer s H vs Q E hg hr' hs
 exact ⟨t, d.nox, q⟩
theorem okGP {x qual : Str} {st : Stmt} {f : Addr} {fd : FuncData} {N ps : List Str} {k : Nat} {sp : SpP} (Fn : Fun K x qual st f fd) (S : FnScope N ps (defScope st)) (hl : ∀ args P, sp args P → args.length = ps.length) (hn : ps.length ≤ N.length)
  (hbody : ∀ (cdv : Value) (A : Around) (outer : List Env) (s : Shared) (H : Hp) (E : XK), A.guards = some [] → Room k (A.deeper (envOfC qual (defScope st) s.heap.objs.size f cdv)) →
   ∃ ts, PSs (cxOf CX0 P w K mg base N qual (defScope st) f cdv A outer s H E).nox (defBody st) (upS K T ts) ∧ ∀ args P, sp args P → ts { nx := fun _ => P .non, rt := fun x _ => P x } (startP N.length args)) :
  FnG P w K mg base (k + 1) f fd ps (upSp K T sp) := by
 refine okG0 Fn S (len_sp hl) fun cdv A outer s H vs Q E hg hr h => ?_
 obtain ⟨ts, d, rd⟩ := hbody cdv A outer s H E hg hr
 exact ⟨_, d, body_sp h (fun args P hs => by rw [hl _ _ hs]; exact hn) rd⟩
theorem okGR {x qual : Str} {st : Stmt} {f : Addr} {fd : FuncData} {nm : Str} {N ps : List Str} {k : Nat} {sp : SpR} (Fn : Fun K x qual st f fd) (S : FnScope (nm :: N) (nm :: ps) (defScope st)) (hl : ∀ o args P, sp o args P → args.length = ps.length) (hn : ps.length ≤ N.length)
  (hbody : ∀ (cdv : Value) (A : Around) (outer : List Env) (s : Shared) (H : Hp) (E : XK), A.guards = some [] → Room k (A.deeper (envOfC qual (defScope st) s.heap.objs.size f cdv)) →
   ∃ ts, PSs (cxOf CX0 P w K mg base (nm :: N) qual (defScope st) f cdv A outer s H E).nox (defBody st) (upS K T ts) ∧
    ∀ o args P, sp o args P → ts { nx := fun η' => ∃ o', η'[0]? = some (Sl.ow o') ∧ P .non o', rt := fun x η' => ∃ o', η'[0]? = some (Sl.ow o') ∧ P x o' } (startR (N.length + 1) o args)) :
  FnG P w K mg base (k + 1) f fd (nm :: ps) (upSpR K T sp) := by
 refine okG0 Fn S (len_spR hl) fun cdv A outer s H vs Q E hg hr h => ?_
 obtain ⟨ts, d, rd⟩ := hbody cdv A outer s H E hg hr
 exact ⟨_, d, body_spR h (fun o args P hs => by rw [hl _ _ _ hs]; exact hn) rd⟩
theorem FnOk.g {k : Nat} {f : Addr} {fd : FuncData} {ps : List Str} {sp : Sp} (F : FnOk P w K mg base CX0 k f fd ps sp) : FnG P w K mg base k f fd ps sp := ⟨F.len, fun A outer s H args us vs Q E _ => F.run A outer s H args us vs Q E⟩
theorem FnG.mono {j k : Nat} {f : Addr} {fd : FuncData} {ps : List Str} {sp : Sp} (F : FnG P w K mg base j f fd ps sp) (h : j ≤ k) : FnG P w K mg base k f fd ps sp := ⟨F.len, fun A outer s H args us vs Q E hg hr => F.run A outer s H args us vs Q E hg (hr.mono h)⟩
end
section
variable {X : Cx} {T : List (Addr × Str)} {a b e o : Expr} {es : List Expr} {te ta tb : TEp} {t : TAp} {tf : TFp} {pos p apos : Pos} {k : Nat} {f C : Addr} {fd : FuncData} {ps : List Str} {sp : SpP} {sr : SpR} {x m : Str}
def tCallP (sp : SpP) (dps : List PV) (t : TAp) : TEp := fun η P => t η fun args η1 => sp (args ++ dps) fun z => P z η1
theorem call_up {K : PySem.W.Frag} {σ : St} {H : Hp} {Q : VK} {E : XK} {dps : List PV} {dvs : List V} (hd : ∀ O H, Reps K O H dps dvs) (q : up K T (tCallP sp dps t) σ H Q) : tCall (upSp K T sp) dvs E (upA K T t) σ H Q := by
 obtain ⟨F, η, P, R, h, k⟩ := q
 refine ⟨F, η, _, R, h, fun args η1 vs H1 h1 e1 R1 r1 => ?_⟩
 exact ⟨Oof F σ η1, _, _, R1.trO, R1.tb, r1.app (hd _ _), h1, fun z v H2 pz g tb rz => k z η1 v H2 pz (e1.trans g.ext) (R1.gr g tb) rz⟩
theorem z_call (Fn : FnOk X.prog X.w X.K X.mg X.base CX0 k f fd ps (upSp X.K T sp)) (hr : Room k X.A) (hg : Gl X x) (hm : X.mg x = some (.ref f)) (hk : PySem.W.keepIn X.K (.ref f) = true) {dvs : List V} {ds : List Value} {dps : List PV} (hb : Binds X.K fd ps ds) (hd : Vals dvs ds) (hp : ∀ O H, Reps X.K O H dps dvs)
  (ha : PA X (e :: es) (upA X.K T t)) (hdb : (x == ("__debug__" : Str)) = false := by decide) (he : starEach (e :: es) X.env = (false, eval e X.env) :: starEach es X.env := by rfl) (hpl : (backTo pos (starEach es X.env)).any (·.1) = false := by rfl) :
  PE X (.Call (.Name x p) (e :: es) [] pos) (up X.K T (tCallP sp dps t)) :=
 PE.weak (pe_call Fn hr hg hm hk hb hd pass0 ha hdb he hpl) fun σ H Q q => call_up hp q
theorem run_g {pins : List (Addr × Obj)} {σ : St} {H : Hp} {s : Shared} {Q : VK} {us : List Value} {vs dvs : List V} {ds : List Value} {S : Sp} (Fn : FnG X.prog X.w X.K X.mg X.base k f fd ps S) (hG : X.A.guards = some []) (hr : Room k X.A) (hb : Binds X.K fd ps ds) (hd : Vals dvs ds)
  (I : L2.Inv X pins σ H s) (r : Vals vs us) (h : S (vs ++ dvs) H Q E0) : wpAny (model X.prog X.w) X.A (call (.ref f) us) (EP X pins σ Q) X.xe s := by
 have rr := r.append hd
 refine wpAny_call (codeAny_mono (Fn.run X.A X.stack s H ⟨us, []⟩ (us ++ ds) (vs ++ dvs) Q E0 hG hr I.env0 (hb s us I.kIn (by rw [← rr.length]; exact Fn.len _ _ _ _ h)) rr h) fun res s' hq => ?_)
 cases res with
 | error er => exact False.elim hq
 | ok fl => cases fl with
  | ret u => exact I.after hq
  | _ => exact False.elim hq
theorem pe_callG {S : Sp} {tv : TA} {dvs : List V} {ds : List Value} (Fn : FnG X.prog X.w X.K X.mg X.base k f fd ps S) (hG : X.A.guards = some []) (hr : Room k X.A) (hg : Gl X x) (hm : X.mg x = some (.ref f)) (hk : PySem.W.keepIn X.K (.ref f) = true) (hb : Binds X.K fd ps ds) (hd : Vals dvs ds)
  (ha : PA X (e :: es) tv) (hdb : (x == ("__debug__" : Str)) = false := by decide) (he : starEach (e :: es) X.env = (false, eval e X.env) :: starEach es X.env := by rfl) (hpl : (backTo pos (starEach es X.env)).any (·.1) = false := by rfl) :
  PE X (.Call (.Name x p) (e :: es) [] pos) (tCall S dvs E0 tv) := by
 constructor
 intro pins s σ H Q I q
 apply wpAny_Call_Name_kw
 apply ld_glob I hg hm _ hdb
 apply PySem.W.callWith_K (h₀ := X.base) I.ok.mod.kin hk _ he hpl
 apply thn (ha.run pos pins s σ H _ I q)
 rintro us s1 ⟨vs, H1, I1, r, q1⟩
 exact ⟨I1.kIn, run_g Fn hG hr hb hd I1 r q1⟩
def tCallRP (i : Nat) (sr : SpR) (t : TAp) : TEp := fun η P => (∃ o, η[i]? = some (Sl.ow o)) ∧ t η fun args η1 => match η1[i]? with
 | some (.ow o) => sr o args fun z o' => P z (η1.set i (.ow o'))
 | _ => False
theorem callR_up {K : PySem.W.Frag} {σ : St} {H : Hp} {Q : VK} {E : XK} {i : Nat} (q : up K T (tCallRP i sr t) σ H Q) : tCall (upSpR K T sr) [] E (tCons (tVar i) (upA K T t)) σ H Q := by
 obtain ⟨F, η, P, R, ⟨⟨oo, ho⟩, h⟩, k⟩ := q
 obtain ⟨b, hw, _, _⟩ := R.ow i _ ho
 refine ⟨_, hw, F, η, _, R, h, fun args η1 vs H1 h1 e1 R1 r1 => ?_⟩
 split at h1
 ·rename_i o e
  obtain ⟨a, s, q0, nf⟩ := R1.ow i o e
  rw [hw] at s; cases s
  -- the other own ones and the foreign ones
  let F' : Addr → Prop := fun c => Oof F σ η1 c ∧ c ≠ b
  have m1 : ∀ c, With F' b c → Oof F σ η1 c := fun c z => z.elim (fun z => z.1) fun z => by rw [z]; exact .inr ⟨i, o, hw, e⟩
  have m2 : ∀ c, Oof F σ η1 c → With F' b c := fun c z => by
   by_cases q : c = b
   ·exact .inr q
   ·exact .inl ⟨z, q⟩
  refine ⟨F', b, vs, o, args, _, by simp, fun z => z.2 rfl, fun c z => R1.trO c z.1, R1.tb, q0.mono m1, r1.mono m1, h1, fun z o' v H2 pz g tb ho' rz => ?_⟩
  have c1 : Car (Oof F σ η1) (Oof F σ η1) H1 H2 := fun c u n hc t => ⟨g.keep c u (fun z => n (by rw [z]; exact .inr ⟨i, o, hw, e⟩)) hc t, n⟩
  have oth : ∀ c, c ≠ b → IsOwn σ η1 c → H2 c = H1 c := fun c n z => by
   obtain ⟨j, p, z1, z2⟩ := z
   obtain ⟨c', q1, q2, q3⟩ := R1.ow j p z2
   rw [z1] at q1; cases q1
   cases p with
   | l xs => obtain ⟨us, y, _⟩ := q2; rw [y]; exact g.keep _ _ n y nofun
   | o C fs => obtain ⟨dx, us, y, _⟩ := q2; rw [y]; exact g.keep _ _ n y nofun
   | d kvs => obtain ⟨us, y, _⟩ := q2; rw [y]; exact g.keep _ _ n y nofun
  have R2 := R1.put (o' := o') e hw c1 oth (fun c z => g.live c (R1.tr c z)) tb (ho'.mono m2)
  have E2 : Ext σ η1 σ (η1.set i (.ow o')) H1 H2 := by
   refine ⟨fun c u hc n t => g.keep c u (fun z => n (by rw [z]; exact ⟨i, o, hw, e⟩)) hc t, g.live, fun c z => .inl ((own_put e).mp z), fun p q => ?_⟩
   by_cases z : (0 : Nat) = i
   ·subst z; exact ⟨o, e, rfl⟩
   ·rw [ne_set z] at q; exact ⟨p, q, rfl⟩
  exact k _ _ _ _ pz (e1.trans E2) R2 (rz.mono fun c z => m2 c (Oof_mono (fun b' z => (own_put e).mp z) c z))
 ·cases h1
theorem z_callR {i : Nat} {e0 : Expr} (Fn : FnOk X.prog X.w X.K X.mg X.base CX0 k f fd ps (upSpR X.K T sr)) (hr : Room k X.A) (hg : Gl X x) (hm : X.mg x = some (.ref f)) (hk : PySem.W.keepIn X.K (.ref f) = true) (hb : Binds X.K fd ps [])
  (ha : PA X (e0 :: es) (tCons (tVar i) (upA X.K T t))) (hdb : (x == ("__debug__" : Str)) = false := by decide) (he : starEach (e0 :: es) X.env = (false, eval e0 X.env) :: starEach es X.env := by rfl) (hpl : (backTo pos (starEach es X.env)).any (·.1) = false := by rfl) :
  PE X (.Call (.Name x p) (e0 :: es) [] pos) (up X.K T (tCallRP i sr t)) :=
 PE.weak (pe_call Fn hr hg hm hk hb .nil pass0 ha hdb he hpl) fun σ H Q q => callR_up q
theorem z_callRG {i : Nat} {e0 : Expr} (Fn : FnG X.prog X.w X.K X.mg X.base k f fd ps (upSpR X.K T sr)) (hG : X.A.guards = some []) (hr : Room k X.A) (hg : Gl X x) (hm : X.mg x = some (.ref f)) (hk : PySem.W.keepIn X.K (.ref f) = true) (hb : Binds X.K fd ps [])
  (ha : PA X (e0 :: es) (tCons (tVar i) (upA X.K T t))) (hdb : (x == ("__debug__" : Str)) = false := by decide) (he : starEach (e0 :: es) X.env = (false, eval e0 X.env) :: starEach es X.env := by rfl) (hpl : (backTo pos (starEach es X.env)).any (·.1) = false := by rfl) :
  PE X (.Call (.Name x p) (e0 :: es) [] pos) (up X.K T (tCallRP i sr t)) :=
 PE.weak (pe_callG Fn hG hr hg hm hk hb .nil ha hdb he hpl) fun σ H Q q => callR_up q
end
section
variable {X : Cx} {T : List (Addr × Str)} {a b e o : Expr} {es : List Expr} {te ta tb : TEp} {t : TAp} {tf : TFp} {pos p apos : Pos} {k : Nat} {f C : Addr} {fd : FuncData} {ps : List Str} {sp : SpP} {sr : SpR} {x m : Str} {st : Stmt} {rest : List Stmt} {t1 : TSp}
abbrev SpF := List PV → (List PV → Prop) → Prop
def upSpF (K : PySem.W.Frag) (T : List (Addr × Str)) (sp : SpF) : Sp := fun vs H Q _ => ∃ F args P, Trk F H ∧ LamX.Tabs T H ∧ Reps K F H args vs ∧ sp args P ∧ ∀ xs a us H', P xs → Gr H H' → LamX.Tabs T H' → Nw H a → H' a = some (.lst us) → Reps K (With F a) H' xs us → Q (.ref a) H'
def upSF (K : PySem.W.Frag) (T : List (Addr × Str)) (tf : TFp) : TS := fun D σ H => ∃ F η P, Rs K T F σ η H ∧ tf η P ∧ ∀ xs η' a us σ' H', P xs η' → Ext σ η σ' η' H H' → Rs K T (With F a) σ' η' H' → Nw H a → H' a = some (.lst us) → Reps K (Oof (With F a) σ' η') H' xs us → D.rt (.ref a) H'
def tSeqFP (t : TSp) (u : TFp) : TFp := fun η P => t { nx := fun η' => u η' P, rt := fun _ _ => False } η
theorem zsf_ret (he : PE X e (upF X.K T tf)) : PSs X [.Return (some e) pos] (upSF X.K T tf) := by
 refine pss_one (PS.weak (ps_ret he) fun D σ H q => ?_)
 obtain ⟨F, η, P, R, h, k⟩ := q
 exact ⟨F, η, P, R, h, fun xs η' a us H' q e R' hn nf hv r => k xs η' a us σ H' q e R' hn hv r⟩
theorem zsf_cons (h1 : PS X st (upS X.K T t1)) (h2 : PSs X rest (upSF X.K T tf)) : PSs X (st :: rest) (upSF X.K T (tSeqFP t1 tf)) := by
 refine PSs.weak (pss_cons h1 h2) fun D σ H q => ?_
 obtain ⟨F, η, P, R, h, k⟩ := q
 refine ⟨F, η, _, R, h, fun η1 σ1 H1 q e1 R1 => ?_, fun _ _ _ q => q.elim, fun _ _ _ q => q.elim, fun _ _ _ _ _ q => q.elim⟩
 refine ⟨F, η1, P, R1, q, fun xs η' a us σ' H' q e R' hn hv r => k xs η' a us σ' H' q (e1.trans e) R' (e1.nw hn) hv r⟩
theorem okF {P : Program} {w : World} {K : PySem.W.Frag} {mg : Str → Option Value} {base : Heap} {x qual : Str} {st : Stmt} {f : Addr} {fd : FuncData} {N ps : List Str} {k : Nat} {sp : SpF} (Fn : Fun K x qual st f fd) (S : FnScope N ps (defScope st)) (hl : ∀ args P, sp args P → args.length = ps.length) (hn : ps.length ≤ N.length)
  (hbody : ∀ (cdv : Value) (A : Around) (outer : List Env) (s : Shared) (H : Hp) (E : XK), Room k (A.deeper (envOfC qual (defScope st) s.heap.objs.size f cdv)) →
   ∃ tf, PSs (cxOf CX0 P w K mg base N qual (defScope st) f cdv A outer s H E).nox (defBody st) (upSF K T tf) ∧ ∀ args P, sp args P → tf (startP N.length args) fun xs _ => P xs) :
  FnOk P w K mg base CX0 (k + 1) f fd ps (upSpF K T sp) := by
 refine Fn.ok S (fun vs H Q E h => ?_) fun cdv A outer s H vs Q E hr h => ?_
 ·obtain ⟨F, args, P, _, _, r, hs, _⟩ := h
  rw [r.len, hl _ _ hs]
 ·obtain ⟨tf, d, rd⟩ := hbody cdv A outer s H E hr
  obtain ⟨F, args, P, tr, tb, r, hs, k⟩ := h
  have R := rs_start (N := N) tr tb r (by rw [hl _ _ hs]; exact hn)
  refine ⟨_, d, F, _, _, R, rd args P hs, fun xs η' a us σ' H' q e R' hn hv r => ?_⟩
  exact k xs a us H' q ⟨fun b o h t => e.keep b o h startP_noown t, e.live⟩ R'.tb hn hv (r.mono fun b z => .inl z)
def tCallFP (sp : SpF) (t : TAp) : TFp := fun η P => t η fun args η1 => sp args fun xs => P xs η1
theorem z_callF {sp : SpF} (Fn : FnOk X.prog X.w X.K X.mg X.base CX0 k f fd ps (upSpF X.K T sp)) (hr : Room k X.A) (hg : Gl X x) (hm : X.mg x = some (.ref f)) (hk : PySem.W.keepIn X.K (.ref f) = true) (hb : Binds X.K fd ps [])
  (ha : PA X (e :: es) (upA X.K T t)) (hdb : (x == ("__debug__" : Str)) = false := by decide) (he : starEach (e :: es) X.env = (false, eval e X.env) :: starEach es X.env := by rfl) (hpl : (backTo pos (starEach es X.env)).any (·.1) = false := by rfl) :
  PE X (.Call (.Name x p) (e :: es) [] pos) (upF X.K T (tCallFP sp t)) := by
 refine PE.weak (pe_call Fn hr hg hm hk hb .nil pass0 ha hdb he hpl) fun σ H Q q => ?_
 obtain ⟨F, η, P, R, h, k⟩ := q
 refine ⟨F, η, _, R, h, fun args η1 vs H1 h1 e1 R1 r1 => ?_⟩
 refine ⟨Oof F σ η1, _, _, R1.trO, R1.tb, by rw [List.append_nil]; exact r1, h1, fun xs a us H2 pz g tb hn hv rz => ?_⟩
 have hn0 : Nw H a := e1.nw hn
 have nF : ¬ F a := fun z => R.tr a z hn0
 have nO : ¬ Oof F σ η1 a := fun z => R1.trO a z hn
 have m : ∀ b, Oof (With F a) σ η1 b → With (Oof F σ η1) a b := fun b z => by
  rcases z with (z | z) | z
  ·exact .inl (.inl z)
  ·exact .inr z
  ·exact .inl (.inr z)
 -- the frame over the grown heap, a among the foreign ones
 have R2 : Rs X.K T F σ η1 H2 := R1.gr g tb
 have c : Car (Oof F σ η1) (Oof (With F a) σ η1) H1 H2 := fun b u n hb t => ⟨g.keep b u hb t, fun z => by
  rcases z with (z | z) | z
  ·exact n (.inl z)
  ·exact hn.no (by rw [← z]; exact hb) t
  ·exact n (.inr z)⟩
 have R3 : Rs X.K T (With F a) σ η1 H2 := by
  refine ⟨R2.len, fun i y e => ?_, fun i o e => ?_, R2.nd, fun b z => ?_, tb⟩
  ·obtain ⟨v, q1, q2⟩ := R1.va i y e
   exact ⟨v, q1, q2.car c⟩
  ·obtain ⟨b, q1, q2, q3⟩ := R1.ow i o e
   refine ⟨b, q1, q2.car c ?_, fun z => z.elim q3 fun z => nO (by rw [← z]; exact .inr ⟨i, o, q1, e⟩)⟩
   cases o with
   | l xs => obtain ⟨vs, q, _⟩ := q2; rw [q]; exact g.keep _ _ q nofun
   | o C fs => obtain ⟨dx, ws, q, _⟩ := q2; rw [q]; exact g.keep _ _ q nofun
   | d kvs => obtain ⟨ws, q, _⟩ := q2; rw [q]; exact g.keep _ _ q nofun
  ·rcases z with z | z
   ·exact R2.tr b z
   ·rw [z]; exact fun q => q.no hv nofun
 exact k xs η1 a us H2 pz (e1.trans g.ext) R3 hn0 nF hv (rz.mono m)
def tCallRFP (tf : TFp) (sr : SpR) (t : TAp) : TEp := fun η P => tf η fun xs η1 => t η1 fun args η2 => sr (.l xs) args fun z _ => P z η2
theorem callRF_up {K : PySem.W.Frag} {σ : St} {H : Hp} {Q : VK} {E : XK} (q : up K T (tCallRFP tf sr t) σ H Q) : tCall (upSpR K T sr) [] E (tCons (upF K T tf) (upA K T t)) σ H Q := by
 obtain ⟨F, η, P, R, h, k⟩ := q
 refine ⟨F, η, _, R, h, fun xs η1 a us H1 h1 e1 R1 hn nf hv r => ⟨With F a, η1, _, R1, h1, fun args η2 vs H2 h2 e2 R2 r2 => ?_⟩⟩
 have na : ¬ IsOwn σ η1 a := fun z => by
  obtain ⟨j, p, z1, z2⟩ := z
  obtain ⟨b, q1, q2, q3⟩ := R1.ow j p z2
  rw [z1] at q1; cases q1
  exact q3 (.inr rfl)
 have na2 : ¬ IsOwn σ η2 a := fun z => by
  obtain ⟨j, p, z1, z2⟩ := z
  obtain ⟨b, q1, q2, q3⟩ := R2.ow j p z2
  rw [z1] at q1; cases q1
  exact q3 (.inr rfl)
 have hv2 : H2 a = some (.lst us) := e2.keep a _ hv na nofun
 have c12 := e2.car (F := With F a)
 let F' : Addr → Prop := Oof F σ η2
 have m1 : ∀ c, With F' a c → Oof (With F a) σ η2 c := fun c z => by
  rcases z with (z | z) | z
  ·exact .inl (.inl z)
  ·exact .inr z
  ·exact .inl (.inr z)
 have m2 : ∀ c, Oof (With F a) σ η2 c → With F' a c := fun c z => by
  rcases z with (z | z) | z
  ·exact .inl (.inl z)
  ·exact .inr z
  ·exact .inl (.inr z)
 refine ⟨F', a, vs, .l xs, args, _, by simp, fun z => z.elim nf na2, fun c z => R2.trO c (m1 c (.inl z)), R2.tb, ⟨us, hv2, (r.car c12).mono m1⟩, r2.mono m1, h2, fun z o' v H3 pz g tb ho' rz => ?_⟩
 have c3 : Car (Oof (With F a) σ η2) (Oof F σ η2) H2 H3 := fun c u n hc t => ⟨g.keep c u (fun q => n (by rw [q]; exact .inl (.inr rfl))) hc t, fun z => n (z.elim (fun z => .inl (.inl z)) .inr)⟩
 have R3 : Rs K T F σ η2 H3 := by
  refine ⟨R2.len, fun i y e => ?_, fun i o e => ?_, R2.nd, fun b z => g.live b (R2.tr b (.inl z)), tb⟩
  ·obtain ⟨v, q1, q2⟩ := R2.va i y e
   exact ⟨v, q1, q2.car c3⟩
  ·obtain ⟨b, q1, q2, q3⟩ := R2.ow i o e
   have nb : b ≠ a := fun z => q3 (.inr z)
   refine ⟨b, q1, q2.car c3 ?_, fun z => q3 (.inl z)⟩
   cases o with
   | l xs => obtain ⟨vs, q, _⟩ := q2; rw [q]; exact g.keep _ _ nb q nofun
   | o C fs => obtain ⟨dx, ws, q, _⟩ := q2; rw [q]; exact g.keep _ _ nb q nofun
   | d kvs => obtain ⟨ws, q, _⟩ := q2; rw [q]; exact g.keep _ _ nb q nofun
 have E2 := e1.trans e2
 refine k _ _ _ _ pz ⟨fun b u hb n t => g.keep b u (fun z => hn.no (by rw [← z]; exact hb) t) (E2.keep b u hb n t) t, fun b hb => g.live b (E2.live b hb), E2.new, E2.fst⟩ R3 (rz.mono fun c z => .inl z)
theorem z_callRFG {e0 : Expr} (Fn : FnG X.prog X.w X.K X.mg X.base k f fd ps (upSpR X.K T sr)) (hG : X.A.guards = some []) (hr : Room k X.A) (hg : Gl X x) (hm : X.mg x = some (.ref f)) (hk : PySem.W.keepIn X.K (.ref f) = true) (hb : Binds X.K fd ps [])
  (ha : PA X (e0 :: es) (tCons (upF X.K T tf) (upA X.K T t))) (hdb : (x == ("__debug__" : Str)) = false := by decide) (he : starEach (e0 :: es) X.env = (false, eval e0 X.env) :: starEach es X.env := by rfl) (hpl : (backTo pos (starEach es X.env)).any (·.1) = false := by rfl) :
  PE X (.Call (.Name x p) (e0 :: es) [] pos) (up X.K T (tCallRFP tf sr t)) :=
 PE.weak (pe_callG Fn hG hr hg hm hk hb .nil ha hdb he hpl) fun σ H Q q => callRF_up q
def putFP (f : Str) (x : PV) : List (Str × PV) → List (Str × PV)
 | [] => [(f, x)]
 | (n, y) :: r => if n = f then (n, x) :: r else (n, y) :: putFP f x r
theorem putF_rep {K : PySem.W.Frag} {O H} {f : Str} {x : PV} {v : V} (h : Rep K O H x v) : ∀ {fs : List (Str × PV)} {ws : List (Str × V)}, RepF K O H fs ws → RepF K O H (putFP f x fs) (putF f v ws)
 | [], _, r => by
  unfold RepF at r; subst r
  unfold putFP putF RepF
  exact ⟨v, [], rfl, h, by unfold RepF; rfl⟩
 | (n, y) :: fs, _, r => by
  unfold RepF at r
  obtain ⟨w, us, rfl, r1, r2⟩ := r
  unfold putFP putF
  by_cases e : n = f
  ·subst e
   rw [if_pos rfl, if_pos rfl]
   unfold RepF
   exact ⟨v, us, rfl, h, r2⟩
  ·rw [if_neg e, if_neg (by exact fun z => e (by first | exact z.symm | exact z))]
   unfold RepF
   exact ⟨w, _, rfl, r1, putF_rep h r2⟩
def tFldSP (C : Addr) (i : Nat) (f : Str) (te : TEp) : TSp := fun D η => te η fun x η1 => match η1[i]? with
 | some (.ow (.o C' fs)) => C' = C ∧ fs.length < 1000 ∧ D.nx (η1.set i (.ow (.o C (putFP f x fs))))
 | _ => False
theorem z_fldS {i : Nat} {f : Str} {value : Expr} {pos' : Pos} (c : Cls X.K C) (n : NoAttr X.K C f) (ho : PE X o (tVar i)) (hv : PE X value (up X.K T te)) (hs : swapsWith value (some (.Attribute o f pos')) pos.line X.env = pure false := by rfl) :
  PS X (.Assign [.Attribute o f pos'] value pos) (upS X.K T (tFldSP C i f te)) := by
 refine PS.weak (ps_fld ho hv hs) fun D σ H q => ?_
 obtain ⟨F, η, D', R, h, k1, k2, k3, k4⟩ := q
 refine ⟨F, η, _, R, h, fun x η1 v H1 h1 e1 R1 r1 => ?_⟩
 split at h1
 ·rename_i C' fs e
  obtain ⟨rfl, hl, h1⟩ := h1
  obtain ⟨a, s, ⟨dx, ws, q1, q2⟩, nf⟩ := R1.ow i _ e
  refine ⟨_, s, a, C', dx, ws, rfl, q1, c, n, by rw [q2.len]; exact hl, ?_⟩
  obtain ⟨W, E⟩ := R1.write (o' := .o C' (putFP f x fs)) (u := .ins C' dx (putF f v ws)) e s q1 nofun nofun nofun fun c => ⟨dx, _, upd_same, putF_rep (r1.car c) (q2.car c)⟩
  exact k1 _ _ _ h1 (e1.trans E) W
 ·cases h1
def tFldP (C : Addr) (f : Str) (te : TEp) : TEp := fun η P => te η fun x η1 => match x with
 | .ins C' fs => C' = C ∧ ∃ y, fs.lookup f = some y ∧ P y η1
 | _ => False
theorem z_fld {f : Str} (c : Cls X.K C) (n : NoAttr X.K C f) (he : PE X e (up X.K T te)) (hb : attributeBase e f X.env (eval e X.env) = eval e X.env := by rfl) : PE X (.Attribute e f pos) (up X.K T (tFldP C f te)) := by
 refine PE.weak (pe_fld he hb) fun σ H Q q => ?_
 obtain ⟨F, η, P, R, h, k⟩ := q
 refine ⟨F, η, _, R, h, fun x η1 v H1 h1 e1 R1 r1 => ?_⟩
 split at h1
 ·obtain ⟨rfl, y, hy, h1⟩ := h1
  obtain ⟨a, dx, ws, rfl, na, q, rr⟩ := r1.ins_
  obtain ⟨w, hw, rw'⟩ := (rr.look f).1 y hy
  exact ⟨a, _, dx, ws, w, rfl, q, c, n, hw, k _ _ _ _ h1 e1 R1 rw'⟩
 ·cases h1
def tNewP (C : Addr) (sr : SpR) (dps : List PV) (t : TAp) : TEp := fun η P => t η fun args η1 => sr (.o C []) (args ++ dps) fun r o' => r = .non ∧ ∃ fs, o' = .o C fs ∧ P (.ins C fs) η1
theorem new_up {K : PySem.W.Frag} {σ : St} {H : Hp} {Q : VK} {E : XK} {dps : List PV} {dvs : List V} (hd : ∀ O H, Reps K O H dps dvs) (q : up K T (tNewP C sr dps t) σ H Q) : tMake C (upSpR K T sr) dvs E (upA K T t) σ H Q := by
 obtain ⟨F, η, P, R, h, k⟩ := q
 refine ⟨F, η, _, R, h, fun args η1 vs H1 h1 e1 R1 r1 x dx nx ndx nex => ?_⟩
 have s1 : Same H1 (upd (upd H1 dx (.own x)) x (.ins C dx [])) := fun b u hb => by
  rw [upd_ne (ne_of_none hb nx), upd_ne (ne_of_none hb ndx)]; exact hb
 have nO : ¬ Oof F σ η1 x := fun z => R1.trO x z (Nw.of nx)
 have c1 : Car (Oof F σ η1) (With (Oof F σ η1) x) H1 (upd (upd H1 dx (.own x)) x (.ins C dx [])) := fun b u n hb _ => ⟨s1 b u hb, fun z => z.elim n (ne_of_none hb nx)⟩
 refine ⟨Oof F σ η1, x, _, .o C [], _, _, rfl, nO, R1.trO.same s1, R1.tb.ext s1, ⟨dx, [], upd_same, by unfold RepF; rfl⟩, (r1.car c1).app (hd _ _), h1, fun z o' v H2 pz g tb ho' rz => ?_⟩
 obtain ⟨rfl, fs, rfl, pz⟩ := pz
 obtain ⟨dx', ws, hx, rf⟩ := ho'
 have g' : Gr H1 H2 := ⟨fun b u hb t => g.keep b u (ne_of_none hb nx) (s1 b u hb) t, fun b hb => g.live b fun q => hb fun o z => q o (s1 b o z)⟩
 refine ⟨rz.non_, k _ η1 _ H2 pz (e1.trans g'.ext) (R1.gr g' tb) ?_⟩
 unfold Rep
 exact ⟨x, dx', ws, rfl, nO, hx, rf.mono fun b z => .inl z⟩
theorem z_new (M : Mk X.K C f) (Fn : FnOk X.prog X.w X.K X.mg X.base CX0 k f fd ps (upSpR X.K T sr)) (hr : Room (k + 1) X.A) (hg : Gl X x) (hm : X.mg x = some (.ref C)) {dvs : List V} {ds : List Value} {dps : List PV} (hb : Binds X.K fd ps ds) (hd : Vals dvs ds) (hp : ∀ O H, Reps X.K O H dps dvs)
  (ha : PA X (e :: es) (upA X.K T t)) (hdb : (x == ("__debug__" : Str)) = false := by decide) (he : starEach (e :: es) X.env = (false, eval e X.env) :: starEach es X.env := by rfl) (hpl : (backTo pos (starEach es X.env)).any (·.1) = false := by rfl) :
  PE X (.Call (.Name x p) (e :: es) [] pos) (up X.K T (tNewP C sr dps t)) :=
 PE.weak (pe_make M Fn hr hg hm hb hd pass0 ha hdb he hpl) fun σ H Q q => new_up hp q
def tPropP (C : Addr) (sp : SpP) (ta : TEp) : TEp := fun η P => ta η fun x η1 => (∃ fs, x = .ins C fs) ∧ sp [x] fun z => P z η1
theorem z_prop {q : Addr} {f' : Str} (he : PE X e (up X.K T ta)) (c : Cls X.K C) (hp : PropOf X.K C f' q f) (Fn : FnOk X.prog X.w X.K X.mg X.base CX0 k f fd ps (upSp X.K T sp)) (hr : Room (k + 1) X.A) (hb : Binds X.K fd ps [])
  (hab : attributeBase e f' X.env (eval e X.env) = eval e X.env := by rfl) : PE X (.Attribute e f' pos) (up X.K T (tPropP C sp ta)) := by
 refine PE.weak (pe_prop he c hp Fn hr hb .nil pass0 hab) fun σ H Q q => ?_
 obtain ⟨F, η, P, R, h, k⟩ := q
 refine ⟨F, η, _, R, h, fun x η1 v H1 h1 e1 R1 r1 => ?_⟩
 obtain ⟨⟨fs, rfl⟩, h1⟩ := h1
 have r1' := r1
 obtain ⟨a, dx, ws, rfl, na, q, rr⟩ := r1.ins_
 exact ⟨a, dx, ws, rfl, q, Oof F σ η1, _, _, R1.trO, R1.tb, .cons r1' .nil, h1, fun z v H3 pz g tb rz => k z η1 v H3 pz (e1.trans g.ext) (R1.gr g tb) rz⟩
end
set_option maxHeartbeats 1000000 in
theorem meets_enum1 {v : Value} {o : Obj} {H : Heap → Prop} (B : Begins v o H) : Meets (Builtin.«enumerate.__new__» ⟨[.type "enumerate", v], []⟩) (fun _ R s => H s.heap ∧
  R (.ok (.ret (.ref (s.heap.push o).objs.size))) { s with heap := (s.heap.push o).push { cls := .type "enumerate", data := .fields #[.none, .bool false, .ref s.heap.objs.size, rawInt 0, .none, .none] } }) := by
 refine .of_wp fun prog w A R s q => ?_
 obtain ⟨hp, g, d, tk, os⟩ := s
 obtain ⟨h1, q⟩ := q
 have hs := sub_enumerate
 have it : ∀ {A' : Around} {E : Value → Shared → Prop} {Q : Value → Shared → Prop}, Q (.ref hp.objs.size) ⟨hp.push o, g, d, tk, os⟩ → wpAny (model prog w) A' (pyIter v) Q E ⟨hp, g, d, tk, os⟩ := fun z => B.iter prog w _ _ ⟨hp, g, d, tk, os⟩ _ h1 z
 wp_walk using it
 refine wpAny_stack_any fun st => wpAny_pure ?_
 split
 ·rename_i c _ _ _ _ _
  cases (c == Value.type "enumerate") <;> (wp_walk using it; exact ⟨_, rfl, q⟩)
 ·wp_walk using it
  exact ⟨_, rfl, q⟩
theorem call_enum1 {prog : Program} {w : World} {A : Around} {E : Value → Shared → Prop} {s : Shared} {v : Value} {o : Obj} {H : Heap → Prop} {Q : Value → Shared → Prop} (B : Begins v o H) (h1 : H s.heap)
  (q : ∀ h', IsEnum h' (s.heap.objs.size + 1) s.heap.objs.size 0 .none → h'.get? s.heap.objs.size = some o → (∀ b u, s.heap.get? b = some u → h'.get? b = some u) → Q (.ref (s.heap.objs.size + 1)) { s with heap := h' }) :
  wpAny (model prog w) A (call (.type "enumerate") [v]) Q E s := by
 refine callType_new F.called_enumerate (by decide) (F.typeCall_enumerate_1 _) (F.newCall_enumerate_1 _) (fun obj => F.args_object_init_2 obj _) F.entry_enumerate_new (meets_enum1 B) ⟨h1, ?_⟩
 have z : (s.heap.push o).objs.size = s.heap.objs.size + 1 := Heap.size_push ..
 show _ ∧ _
 rw [z]
 have he : ((s.heap.push o).push { cls := .type "enumerate", data := .fields #[.none, .bool false, .ref s.heap.objs.size, rawInt 0, .none, .none] }).get? (s.heap.objs.size + 1) = some { cls := .type "enumerate", data := .fields #[.none, .bool false, .ref s.heap.objs.size, rawInt 0, .none, .none] } := by
  rw [← z]; exact Heap.get?_push_size _ rfl
 exact ⟨⟨_, he, rfl⟩, q _ he (Heap.get?_push_of_some _ (Heap.get?_push_size _ B.free)) fun b u e => Heap.get?_push_of_some _ (Heap.get?_push_of_some _ e)⟩
def Itte (K : PySem.W.Frag) (a : Addr) : It where
 go := fun i H => ∃ (xs : List V) (x : V), SqT K H a xs ∧ xs[i]? = some x
 yld := fun i H v H' => ∃ p x, v = .ref p ∧ H p = none ∧ H' = upd H p (.tup [.int (i : Nat), x]) ∧ ∀ xs, SqT K H a xs → xs[i]? = some x
 stop := fun i H => ∃ xs : List V, SqT K H a xs ∧ xs.length = i
def TnE (a e it : Addr) (i : Nat) (h : Heap) : Prop := (∃ old, IsEnum h e it (0 + ((i : Nat) : Int)) old) ∧ h.IsTupleIter it a i ∧ e ≠ it
theorem tne_apart {a e it : Addr} {i : Nat} {h : Heap} {items : Array Value} (t : TnE a e it i h) (p : IsTup h a items) : a ≠ it ∧ e ∉ [it, a] := by
 obtain ⟨⟨old, he⟩, ⟨oi, hi, ci, _⟩, ne⟩ := t
 obtain ⟨o, ho, hc, _⟩ := p
 refine ⟨fun z => ?_, fun z => ?_⟩
 ·rw [z, hi] at ho; cases ho; rw [ci] at hc; simp at hc
 ·rcases List.mem_cons.mp z with z | z
  ·exact ne z
  ·have z : e = a := by simpa using z
   have he' : h.get? e = some _ := he
   rw [z, ho] at he'; cases he'; simp at hc
theorem turn_enumT {P : Program} {w : World} {K : PySem.W.Frag} {elts : List Expr} {kk : Nat} {tpos : Pos} (a e it : Addr) : Turn P w K (.Tuple elts kk tpos) (Itte K a) [e, it] e (TnE a e it) where
 mem := by simp
 obj := fun i h st b hb => by
  obtain ⟨⟨old, he⟩, ⟨oi, hi, ci, di⟩, _⟩ := st
  rcases List.mem_cons.mp hb with z | z
  ·rw [z]; exact ⟨_, he, fun v q => nomatch q⟩
  ·have z : b = it := by simpa using z
   rw [z]; exact ⟨oi, hi, fun v q => by rw [di] at q; cases q⟩
 keep := fun i h h' st k => by
  obtain ⟨⟨old, he⟩, hi, ne⟩ := st
  exact ⟨⟨old, k e (by simp) _ he⟩, hi.at fun o q => k it (by simp) o q, ne⟩
 item := by
  intro X hP hw hK hc i pins s σ H E I hf st hg
  subst hP hw hK
  obtain ⟨xs, x, hq, hx⟩ := hg
  obtain ⟨its, rv, p, hz⟩ := I.tuple hq
  obtain ⟨u, hu, ru⟩ := rv.get hx
  obtain ⟨n1, n2⟩ := tne_apart st p
  have W := WalksT.enumFrom 0 (Draws.tuple (prog := X.prog) (w := X.w) (A := X.A.in1) (I.ok.hd hc) it a n1 its.toArray) e st.2.2 n2 (by simp)
  have hi : i < its.toArray.size := by
   have := (List.getElem?_eq_some_iff.mp hu).1
   simpa using this
  refine W.item i s _ _ hi ⟨st.1, st.2.1, p⟩ fun q vals h' tk ⟨t, y, hy, ev⟩ hq' hT hm hk => ?_
  have ey : y = u := by
   rw [Array.getElem?_eq_getElem hi] at hy
   rw [List.getElem?_eq_getElem (by simpa using hi)] at hu
   simp at hy hu
   rw [← hy, ← hu]
  subst ey
  refine ⟨_, rfl, W.go elts kk tpos i q { s with heap := h', toks := tk } _ _ hm fun h'' st' hk' => ?_⟩
  have nq := W.apart i q h' hm
  have hT2 : IsTup h'' q vals := by
   obtain ⟨o, z1, z2⟩ := hT
   exact ⟨o, hk' q o nq z1, z2⟩
  have kp : ∀ b o, b ∉ [e, it] → s.heap.get? b = some o → h''.get? b = some o := fun b o hb z => hk' b o hb (hk b o hb z)
  have new : ObjOk X.prog X.w (upd H q (.tup [.int (i : Nat), x])) h'' q (.tup [.int (i : Nat), x]) := by
   refine ⟨by show 2 ≤ sizeLine; decide, [.int (0 + (i : Int)) t, y], .cons ⟨t, by rw [Int.zero_add]⟩ (.cons ru .nil), ?_⟩
   rw [ev] at hT2; exact hT2
  have hn : H q = none := I.hok.fresh hq'
  refine ⟨.ref q, _, I.turnedNew (t' := tk) (ch := [e, it]) kp hf hq' new, rfl, ⟨q, x, rfl, hn, rfl, fun ys hy => by rw [I.tuple_inj hy hq]; exact hx⟩, ⟨st'.1, st'.2.1, st.2.2⟩, fun b hb => ?_⟩
  have hb' : b ≠ q := fun z => nq (by rw [← z]; exact hb)
  rw [upd_ne hb']
  exact (hf b hb).1
 done := by
  intro X hP hw hK hc i pins s σ H E I hf st hg
  subst hP hw hK
  obtain ⟨xs, hq, hx⟩ := hg
  obtain ⟨its, rv, p, hz⟩ := I.tuple hq
  obtain ⟨n1, n2⟩ := tne_apart st p
  have W := WalksT.enumFrom 0 (Draws.tuple (prog := X.prog) (w := X.w) (A := X.A.in1) (I.ok.hd hc) it a n1 its.toArray) e st.2.2 n2 (by simp)
  have hl : its.toArray.size = i := by rw [← hx, rv.length]; simp
  refine W.done s _ _ (by rw [hl]; exact ⟨st.1, st.2.1, p⟩) fun h' tk kp => ⟨rfl, ?_⟩
  have nit : ∀ b u, H b = some u → b ∉ [e, it] := fun b u z hb => by
   have := (hf b hb).1
   rw [this] at z; cases z
  exact I.step (g' := s.gens) (d' := s.drawn) (t' := tk) (ch := [e, it]) (fun b hb => ⟨(hf b hb).2.2.2.1, (hf b hb).2.1, (hf b hb).2.2.2.2.1, (hf b hb).2.2.2.2.2⟩) (fun b o _ _ hb z _ => kp b o hb z) (fun b o _ _ hb z _ => ⟨o.slots, kp b o hb z⟩) (fun _ _ _ _ n => n)
   (fun b o hb z => ⟨o, kp b o hb z⟩) (fun _ _ z => z) (fun _ _ _ z => z) (fun b ps z => ⟨#[], by rw [z]; simp⟩) (fun m hm => by
    obtain ⟨o, es, ep, ho, r⟩ := hm
    exact ⟨o, es, ep, kp _ o (fun z => (hf _ z).2.1 rfl) ho, r⟩) (fun b u z => (I.hok b u z).stay (fun c v hc q => kp c v (fun y => by
     rcases hc with hc | hc
     ·exact nit b u z (by rw [← hc]; exact y)
     ·exact nit c _ hc y) q) (fun _ q => q) fun _ _ q => q) I.bare
 self := fun A i s Q E st q => by
  obtain ⟨⟨old, he⟩, _⟩ := st
  exact wpAny_pyIter_enum he q
def iEnumT (K : PySem.W.Frag) (te : TE) : TI := fun σ H R => te σ H fun v H1 => ∃ a xs, [v] = [V.ref a] ∧ SqT K H1 a xs ∧ R (Itte K a) H1
theorem pi_enumT {X : Cx} {e : Expr} {te : TE} {p pos tpos : Pos} {elts : List Expr} {kk : Nat} (hg : Gl X "enumerate") (hm : X.mg "enumerate" = none) (he : PE X e te) (hs : starEach [e] X.env = [(false, eval e X.env)] := by rfl) :
  PI X (.Tuple elts kk tpos) (.Call (.Name "enumerate" p) [e] [] pos) (iEnumT X.K te) := by
 constructor
 intro pins s σ H R I h
 refine Call_ (ld_blt I hg hm boot_enumerate (PyProof.Rows.callWith_type1 (thn ((pa_cons he pa_nil hs).run pos pins s σ H (fun vs H1 => ∃ a xs, vs = [V.ref a] ∧ SqT X.K H1 a xs ∧ R (Itte X.K a) H1) I h) fun us s1 ⟨vs, H1, I1, r1, q1⟩ => ?_) hs rfl))
 obtain ⟨a, xs, rfl, hq, q⟩ := q1
 obtain ⟨u, rfl, ru⟩ := vals1 r1
 cases ru
 obtain ⟨its, rv, p', hz⟩ := I1.tuple hq
 refine call_enum1 (begins_tuple a its.toArray) p' fun h' he hit hk => wpAny_pyIter_enum he ?_
 have I2 : L2.Inv X pins σ H1 { s1 with heap := h' } := I1.kept (t' := s1.toks) hk
 refine ⟨s1.heap.objs.size + 1, [s1.heap.objs.size + 1, s1.heap.objs.size], _, _, H1, rfl, I2, turn_enumT a (s1.heap.objs.size + 1) s1.heap.objs.size, ⟨⟨.none, he⟩, ⟨_, hit, rfl, rfl⟩, Nat.succ_ne_self _⟩, fun b hb => ?_, q⟩
 have hle : s1.heap.objs.size ≤ b := by
  rcases List.mem_cons.mp hb with z | z
  ·rw [z]; exact Nat.le_succ _
  ·have z : b = s1.heap.objs.size := by simpa using z
   rw [z]; exact Nat.le_refl _
 exact I1.fpOk hle (I1.hok.fresh hle)
def enumP (xs : List PV) : List PV := xs.zipIdx.map fun p => .tup [.int (p.2 : Nat), p.1]
section
variable {X : Cx} {T : List (Addr × Str)} {e : Expr} {te : TEp}
def iEnumP (te : TEp) : TIp := fun η P => te η fun x η1 => match x with
 | .tup xs => P (enumP xs) η1
 | _ => False
theorem enumP_get {xs : List PV} {i : Nat} {x : PV} (h : (enumP xs)[i]? = some x) : ∃ y, xs[i]? = some y ∧ x = .tup [.int (i : Nat), y] := by
 unfold enumP at h
 rw [List.getElem?_map, List.getElem?_zipIdx] at h
 cases q : xs[i]? with
 | none => rw [q] at h; cases h
 | some y => rw [q] at h; simp at h; exact ⟨y, rfl, h.symm⟩
theorem it_enumT {K : PySem.W.Frag} {O H} {a : Addr} {xs : List PV} {vs : List V} (t : TupAt K O H a vs) (r : Reps K O H xs vs) : Itr8 K O (Itte K a) (enumP xs) H := fun O' H' tr c _ i => by
 have h' := t.inj_car c
 have r' := r.car c
 refine ⟨fun x e => ?_, fun e => ⟨vs, h', by rw [r'.len]; simpa [enumP] using e⟩⟩
 obtain ⟨y, hy, rfl⟩ := enumP_get e
 obtain ⟨v, e1, r1⟩ := r'.get hy
 refine ⟨⟨vs, v, h', e1⟩, fun w H'' q => ?_⟩
 obtain ⟨p, x', rfl, hp, rfl, hx⟩ := q
 have := hx vs h'
 rw [e1] at this; cases this
 exact ⟨Same.new hp, rep_newT tr hp (.cons rep_int (.cons r1 .nil))⟩
theorem zi_enumT {p pos tpos : Pos} {elts : List Expr} {kk : Nat} (hg : Gl X "enumerate") (hm : X.mg "enumerate" = none) (he : PE X e (up X.K T te)) (hs : starEach [e] X.env = [(false, eval e X.env)] := by rfl) :
  PI X (.Tuple elts kk tpos) (.Call (.Name "enumerate" p) [e] [] pos) (upI X.K T (iEnumP te)) := by
 refine PI.weak (pi_enumT hg hm he hs) fun σ H Q q => ?_
 obtain ⟨F, η, P, R, h, k⟩ := q
 refine ⟨F, η, _, R, h, fun x η1 v H1 h1 e1 R1 r1 => ?_⟩
 split at h1
 ·obtain ⟨a, vs, rfl, t, rr⟩ := r1.tup_
  exact ⟨a, vs, rfl, t.sq, k _ _ _ _ h1 e1 R1 (it_enumT t rr)⟩
 ·cases h1
end
section
variable {prog : Program} {w : World} {A : Around} {E : Value → Shared → Prop} {s : Shared}
def copied (g : Heap) (vs : List Value) : Heap := (g.push (seqObj "list" #[] 0)).update g.objs.size (Obj.mapSeq (· ++ vs.toArray))
theorem collect_tup {l : Addr} {vs : List Value} {Q : List Value → Shared → Prop} (p : IsTup s.heap l vs.toArray) (hz : vs.length ≤ sizeLine) (q : Q vs { s with heap := copied s.heap vs }) :
  wpAny (model prog w) A (collect (.ref l)) Q E s := by
 obtain ⟨ob, hb, cb, k, db⟩ := p
 have old : (s.heap.push (seqObj "list" #[] 0)).get? l = some ob := Heap.get?_push_of_some _ hb
 have new : (s.heap.push (seqObj "list" #[] 0)).get? s.heap.objs.size = some (seqObj "list" #[] 0) := Heap.get?_push_size _ rfl
 have tt : (Value.type "tuple" == Value.type "tuple") = true := by rfl
 have sz : ((#[] : Array Value) ++ vs.toArray).size ≤ sizeLine + 1 := by
  rw [Array.size_append, List.size_toArray]
  simp
  omega
 unfold collect
 refine wpAny_bind
  (wpAny_runValue (codeAny_builtin entry_proto_collect' ?_))
 show wpAny _ _ (do
  again (.builtin "list.__iadd__" ⟨[← newList [], .ref l], []⟩)) _ _ s
 refine wpAny_bind (wpAny_newList
  (wpAny_pure ⟨Code.quiet_builtin _ (by decide +kernel), codeAny_builtin entry_list_iadd' ?_⟩))
 show wpAny _ _
  (Builtin.List.listExtendWith (.ref s.heap.objs.size) (.ref l) (.ref s.heap.objs.size)) _ _
  { s with heap := s.heap.push (seqObj "list" #[] 0) }
 unfold Builtin.List.listExtendWith
 refine wpAny_bind (wpAny_typeOf (T := "tuple") ⟨ob, old, cb⟩ ?_)
 rw [if_pos (by rw [tt, Bool.or_true])]
 refine wpAny_bind (listItems_at old db ?_)
 refine wpAny_bind (listItems_at new rfl ?_)
 rw [if_neg (by simp)]
 refine wpAny_bind (listUpdate_at new rfl ?_ (Nat.zero_le _) sz)
 refine wpAny_pure ?_
 show wpAny (model prog w) A (do
  let ob ← load s.heap.objs.size
  match ob.data with
  | .seq xs _ => pure xs.toList
  | _ => unsupported "internal:collect") Q E { s with heap := copied s.heap vs }
 refine wpAny_bind (wpAny_load (get?_update_seq new _) ?_)
 show wpAny _ _ (pure ((#[] : Array Value) ++ vs.toArray).toList) Q E _
 have e : ((#[] : Array Value) ++ vs.toArray).toList = vs := by simp
 rw [e]
 exact wpAny_pure q
theorem sort_of_tup {l : Addr} {vs : List Value} {kw : List (Str × Value)} {Q : Value → Shared → Prop} (p : IsTup s.heap l vs.toArray) (hz : vs.length ≤ sizeLine) (a1 : argsOk "sorted" ⟨[.ref l], kw⟩) (a2 : ∀ x, argsOk "list.sort" ⟨[.ref x], kw⟩)
  (body : ∀ E' : Value → Shared → Prop, wpAny (model prog w) A.in1.in1 (Builtin.«list.sort» ⟨[.ref (s.heap.objs.size + 1)], kw⟩)
   (fun f s' => f = .done (.ret .none) ∧ Q (.ref (s.heap.objs.size + 1)) s') E' { s with heap := PySem.W.copyHeap s.heap vs }) :
  wpAny (model prog w) A (call (.builtin "sorted") [.ref l] kw) Q E s := by
 have sz : (copied s.heap vs).objs.size = s.heap.objs.size + 1 := by
  unfold copied
  rw [Heap.size_update, size_push']
 refine call_function_entry_kw kind_sorted plain_sorted entry_sorted a1 ?_
 unfold Builtin.«sorted»
 refine wpAny_bind
  (m := checkCount "sorted" 1 1 _) (wpAny_pure ?_)
 refine wpAny_bind (collect_tup p hz ?_)
 refine wpAny_bind (wpAny_newList ?_ hz)
 show wpAny _ _ _ _ _
  { s with heap := PySem.W.copyHeap s.heap vs }
 rw [sz]
 refine wpAny_bind (wpAny_holding
  (wpAny_call_entry_kw slot_list_sort ⟨_, PySem.W.copyHeap_at s.heap vs, rfl⟩ entry_list_sort ?_ (a2 _)))
 show wpAny (model prog w) A.in1.in1
  (Builtin.«list.sort» ⟨[.ref (s.heap.objs.size + 1)], kw⟩) _ _ _
 refine wpAny_mono (body _) (fun f s' z => ?_) fun _ _ e => e
 obtain ⟨e, z⟩ := z
 subst e
 exact ⟨_, rfl, wpAny_pure ⟨_, rfl, z⟩⟩
theorem sorted_key_tup {β : Type} {R : Value → β → Prop} {bs : List β} {l : Addr} {vs : List Value} {f : Value} {kw : List (Str × Value)} {Q : Value → Shared → Prop} (k : β → PyData) (p : IsTup s.heap l vs.toArray) (e : PySem.W.EachIs R vs bs) (hal : PySem.W.AllAlike (bs.map k)) (hk : PySem.W.Sortable (bs.map k)) (hL : bs.length ≤ sizeLine)
  (hu : ∀ x, x ∈ bs → A.units + 2 + (k x).depth < cLine) (a1 : argsOk "sorted" ⟨[.ref l], kw⟩) (a2 : ∀ x, argsOk "list.sort" ⟨[.ref x], kw⟩) (ht : ∀ x, Builtin.«list.sort» ⟨[.ref x], kw⟩ = ksk_tree x f false)
  (turn : ∀ (v : Value) (x : β), R v x → x ∈ bs → ∀ (h : Heap) (tk : Nat), (∀ b o, s.heap.get? b = some o → h.get? b = some o) →
   wpAny (model prog w) A.in1.in1 (call f [v]) (PySem.W.KeyPure (k x) { s with heap := h, toks := tk }) (fun _ _ => False) { s with heap := h, toks := tk })
  (q : ∀ out c h' tk, (∀ b o, s.heap.get? b = some o → h'.get? b = some o) → h'.get? (s.heap.objs.size + 1) = some (seqObj "list" (List.toArray out) c) → out.length = bs.length → PySem.W.EachIs R out (bs.mergeSort (PySem.W.dataLe false k)) →
   Q (.ref (s.heap.objs.size + 1)) { s with heap := h', toks := tk }) :
  wpAny (model prog w) A (call (.builtin "sorted") [.ref l] kw) Q E s := by
 have grown : ∀ {g : Heap}, PySem.W.KeepsBut (s.heap.objs.size + 1) (PySem.W.copyHeap s.heap vs) g → ∀ b o, s.heap.get? b = some o → g.get? b = some o := fun kp b o z =>
  kp b o (Nat.ne_of_lt (Nat.lt_succ_of_lt (Heap.lt_size z))) (PySem.W.copyHeap_old z)
 have hlen : (bs.map k).length = vs.length := by rw [List.length_map]; exact e.length.symm
 refine sort_of_tup p (by rw [e.length]; exact hL) a1 a2 fun E' => ?_
 rw [ht]
 refine PySem.W.keyH_tree (kz := bs.map k) (s := { s with heap := PySem.W.copyHeap s.heap vs })
  (PySem.W.copyHeap_at s.heap vs) hlen (by rw [e.length]; exact hL) hal hk (fun d hd => ?_)
  (PySem.W.keyH_turns (s := { s with heap := PySem.W.copyHeap s.heap vs }) e fun v x hR hx h tk kp => turn v x hR hx h tk (grown kp))
  fun h' tk out c kp hD ko => ⟨rfl, ?_⟩
 ·obtain ⟨x, hx, rfl⟩ := List.mem_map.mp hd
  have := hu x hx
  show A.units + 1 + 1 + _ < _
  omega
 ·exact q out c h' tk (grown kp) hD ((ko.length hlen).trans e.length) (PySem.W.keyedOut_each k ko e)
end
structure Lam1 (nm : Str) (scope : Scope) : Prop where
 kind : scope.kind = .function
 co : scope.isCoroutine = false
 gen : scope.isGenerator = false
 loc : scope.names.lookup nm = some .local
 own : ∀ y ∈ scope.names, y.2 ≠ .cell
section
variable {prog : Program} {w : World} {A : Around} {E : Value → Shared → Prop} {s : Shared}
theorem lam_pair {f r : Addr} {c' : Addr} {name qual nm : Str} {params : Arguments} {scope : Scope} {pm ctv : Value} {items : Array Value} {i j : Int} {ki kj : Nat} {u v : Value} {k1 k2 p1 p2 p3 p4 p5 p6 kt pt} {Q : Value → Shared → Prop}
  (L : Lam1 nm scope) (hroom : A.depth < recursionLimit)
  (ho : s.heap.get? f = some (PySem.W.kla_obj name qual params (.Tuple [.Subscript (.Name nm p1) (.Constant (.int i) k1 p2) p3, .Subscript (.Name nm p4) (.Constant (.int j) k2 p5) p6] kt pt) scope [] pm c' ctv))
  (hcd : s.heap.CodeRec (.ref c') qual) (hlim : s.heap.NoLimit)
  (hb : bindArgs (PySem.W.kla_fn name qual params (.Tuple [.Subscript (.Name nm p1) (.Constant (.int i) k1 p2) p3, .Subscript (.Name nm p4) (.Constant (.int j) k2 p5) p6] kt pt) scope [] pm (.ref c') ctv) ⟨[.ref r], []⟩ = pure [(nm, .ref r)])
  (ht : IsTup s.heap r items) (bi : -(2 ^ 63) ≤ i ∧ i < 2 ^ 63 ∧ seqIndex? i items.size = some ki ∧ items[ki]? = some u) (bj : -(2 ^ 63) ≤ j ∧ j < 2 ^ 63 ∧ seqIndex? j items.size = some kj ∧ items[kj]? = some v)
  (hd : (nm == ("__debug__" : Str)) = false)
  (q : ∀ h' tk a, (∀ b o, s.heap.get? b = some o → h'.get? b = some o) → IsTup h' a #[u, v] → Q (.ref a) { s with heap := h', toks := tk }) :
  wpAny (model prog w) A (call (.ref f) [.ref r]) Q E s := by
 refine wpAny_call (PySem.W.kla_callFunE hroom ho rfl L.co L.gen rfl hcd ?_)
 rw [hb]
 refine wpAny_pure (wpAny_newFunctionEnv L.own (fun y hy => ?_) (fun h1 hns hsb => ⟨hlim.fresh _ hsb, ?_⟩) L.kind)
 ·have e : y = (nm, .ref r) := by simpa using hy
  rw [e]; exact L.loc
 refine PySem.W.kla_codeExpr ?_
 have kp : ∀ b o, s.heap.get? b = some o → h1.get? b = some o := fun b o e => hsb.extBut b o (Nat.ne_of_lt (Heap.lt_size e)) (Heap.get?_push_of_some _ e)
 have ht1 : IsTup h1 r items := ht.keeps kp
 have nml : (fun y => ([(nm, Value.ref r)] : List (Str × Value)).reverse.lookup y) nm = some (.ref r) := by
  show ([(nm, Value.ref r)] : List (Str × Value)).lookup nm = _
  simp
 refine wpAny_Tuple_spliced ?_
 show wpAny _ _ (spliced [(false, _), (false, _)]) _ _ _
 refine Calls.spliced_cons (Subscript_ (wpAny_Name (wpAny_loadName_local L.kind L.loc hns nml ?_) hd))
 refine wpAny_Constant_int (item_tuple (ht1) bi.1 bi.2.1 bi.2.2.1 bi.2.2.2 ?_)
 refine Calls.spliced_cons (Subscript_ (wpAny_Name (wpAny_loadName_local L.kind L.loc hns nml ?_) hd))
 refine wpAny_Constant_int (item_tuple (ht1) bj.1 bj.2.1 bj.2.2.1 bj.2.2.2 ?_)
 refine Calls.spliced_nil ⟨by show 2 ≤ sizeLine; decide, ?_⟩
 exact q _ _ _ (fun b o e => Heap.get?_push_of_some _ (kp b o e)) (IsTup.new _ _)
end
section
variable {X : Cx} {T : List (Addr × Str)} {e : Expr} {te : TEp}
def keyP (i j : Int) : PV → PyData
 | .tup xs => match atI xs i, atI xs j with
  | some a, some b => .tuple [encD a, encD b]
  | _, _ => .none
 | _ => .none
def flatD : PV → Bool
 | .int _ => true
 | .str _ => true
 | _ => false
def tSortLP (i j : Int) (te : TEp) : TEp := fun η P => te η fun x η1 => match x with
 | .tup xs => (∀ y ∈ xs, ∃ ys a b, y = .tup ys ∧ atI ys i = some a ∧ atI ys j = some b ∧ flatD a = true ∧ flatD b = true) ∧ PySem.W.AllAlike (xs.map (keyP i j)) ∧ xs.length ≤ sizeLine ∧ P (.lst (xs.mergeSort (PySem.W.dataLe false (keyP i j)))) η1
 | _ => False
theorem flat_reads {K : PySem.W.Frag} {O H} {h : Heap} {x : PV} {v : V} {u : Value} (f : flatD x = true) (r : Rep K O H x v) (ru : L2.RelV v u) : Reads h u (encD x) [] := by
 cases x with
 | int i =>
  cases r.int_
  obtain ⟨t, rfl⟩ := ru
  exact .int _ _
 | str i =>
  cases r.str_
  obtain ⟨t, rfl⟩ := ru
  exact .str _ _
 | _ => cases f
theorem z_sortL {i j : Int} {nm : Str} {x : Str} {p lpos pos kpos : Pos} {params : Arguments} {scope : Scope} {c P : Addr} {k1 k2 p1 p2 p3 p4 p5 p6 kt pt} {k : Nat}
  (hg : Gl X "sorted") (hm : X.mg "sorted" = none) (he : PE X e (up X.K T te)) (hr : Room k X.A) (L : Lam1 nm scope) (hdef : defaultsOf params X.env = ([], [])) (TB : LamX.TabB X.base X.mg c P) (hcode : X.env.code = .ref c) (hmT : (P, X.env.qual ++ "<lambda>") ∈ T) (huT : ∀ p ∈ T, p.1 = P → p.2 = X.env.qual ++ "<lambda>")
  (hfree : ∀ y ∈ scope.names, y.2 ≠ .free)
  (hcl : cloFrom X.env.cells scope.names [] = [])
  (hb : ∀ (r : Addr) (q : Str) (pm cv ctv : Value), bindArgs (PySem.W.kla_fn "<lambda>" q params (.Tuple [.Subscript (.Name nm p1) (.Constant (.int i) k1 p2) p3, .Subscript (.Name nm p4) (.Constant (.int j) k2 p5) p6] kt pt) scope [] pm cv ctv) ⟨[.ref r], []⟩ = pure [(nm, .ref r)])
  (bi : -(2 ^ 63) ≤ i ∧ i < 2 ^ 63) (bj : -(2 ^ 63) ≤ j ∧ j < 2 ^ 63) (hd : (nm == ("__debug__" : Str)) = false)
  (hs : starEach [e] X.env = [(false, eval e X.env)] := by rfl) (h5 : backTo pos (starEach [e] X.env) = (false, eval e X.env) :: backTo pos (starEach [] X.env) := by rfl) (h6 : (backTo pos (starEach [e] X.env)).any (·.1) = false := by rfl) :
  PE X (.Call (.Name "sorted" p) [e] [⟨some "key", .Lambda params (.Tuple [.Subscript (.Name nm p1) (.Constant (.int i) k1 p2) p3, .Subscript (.Name nm p4) (.Constant (.int j) k2 p5) p6] kt pt) scope lpos, kpos⟩] pos) (up X.K T (tSortLP i j te)) := by
 constructor
 intro pins s σ H Q I h
 obtain ⟨F, η, PP, R, h, kk⟩ := h
 apply wpAny_Call_Name_kw
 refine ld_blt (u := .builtin "sorted") I hg hm (by decide +kernel) ?_
 refine PyProof.Rows.callWith_kw (thn ((pa_cons he pa_nil hs).run pos pins s σ H (fun vs H1 => ∃ xs η1 a us, vs = [V.ref a] ∧ TupAt X.K (Oof F σ η1) H1 a us ∧ Reps X.K (Oof F σ η1) H1 xs us ∧ Rs X.K T F σ η1 H1 ∧ Ext σ η σ η1 H H1 ∧
  (∀ y ∈ xs, ∃ ys a b, y = .tup ys ∧ atI ys i = some a ∧ atI ys j = some b ∧ flatD a = true ∧ flatD b = true) ∧ PySem.W.AllAlike (xs.map (keyP i j)) ∧ xs.length ≤ sizeLine ∧ PP (.lst (xs.mergeSort (PySem.W.dataLe false (keyP i j)))) η1) I ?_) fun us s1 hA => ?_) ?_ ?_ ?_ ?_
 ·refine ⟨F, η, _, R, h, fun x η1 v H1 h1 e1 R1 r1 => ?_⟩
  split at h1
  ·obtain ⟨a, us, rfl, t, rr⟩ := r1.tup_
   exact ⟨_, η1, a, us, rfl, t, rr, R1, e1, h1⟩
  ·cases h1
 ·obtain ⟨vs, H1, I1, r1, xs, η1, a, us', rfl, tA, rr, R1, e1, hx, hal, hz, hP⟩ := hA
  obtain ⟨u0, rfl, ru⟩ := vals1 r1
  cases ru
  show wpAny _ _ (evalAll [do let v ← eval (.Lambda params (.Tuple [.Subscript (.Name nm p1) (.Constant (.int i) k1 p2) p3, .Subscript (.Name nm p4) (.Constant (.int j) k2 p5) p6] kt pt) scope lpos) X.env; standAt pos; pure v]) _ _ s1
  refine wpAny_evalAll_cons (wpAny_bind (LamX.lam_make2 I1 TB hcode hmT huT R1.tb hdef (fun y hy e => absurd e (hfree y hy)) fun f c' pm ctv H2 s2 I2 eN T2 hf hfn hfr hco => wpAny_bind (wpAny_standAt (wpAny_pure (wpAny_evalAll_nil ?_)))))
  have g : Gr H1 H2 := ⟨eN, fun b n q => n fun o ho => Classical.byContradiction fun nt => q.no (eN b o ho fun ps z => nt ⟨ps, z⟩) fun ps z => nt ⟨ps, z⟩⟩
  have R2 := R1.gr g T2
  have c12 : Car (Oof F σ η1) (Oof F σ η1) H1 H2 := g.car
  have tA2 := tA.car c12
  have rr2 := rr.car c12
  obtain ⟨its, rits, p, hz2⟩ := I2.tuple tA2.sq
  rw [hcl] at hf
  obtain ⟨⟨oc, vs, tq, hoc, hdc, hvc⟩, _, _⟩ := I2.hok c' _ hco
  have hu := hr.un
  have hdp := hr.dp
  have hmem : ∀ y ∈ xs, (keyP i j y).depth ≤ 1 ∧ ∃ ys a b, y = .tup ys ∧ atI ys i = some a ∧ atI ys j = some b ∧ flatD a = true ∧ flatD b = true := fun y hy => by
   obtain ⟨ys, a, b, rfl, ha, hb', fa, fb⟩ := hx y hy
   refine ⟨?_, ys, a, b, rfl, ha, hb', fa, fb⟩
   unfold keyP
   simp only [ha, hb']
   cases a <;> first | cases fa | skip
   all_goals (cases b <;> first | cases fb | skip)
   all_goals (simp [encD, toD, PyData.depth, PyData.depthAll])
  refine sorted_key_tup (R := ValR X.K (Oof F σ η1) H2) (bs := xs) (f := .ref f) (keyP i j) p (each_val rr2 rits) hal ?_ hz (fun y hy => by have := (hmem y hy).1; omega) (ksk_s1 _ _) (fun x => ?_) (fun x => ksk_t1 f x) ?_ ?_
  ·refine .inl fun d hd => ?_
   obtain ⟨y, hy, rfl⟩ := List.mem_map.mp hd
   obtain ⟨_, ys, a, b, rfl, ha, hb', _, _⟩ := hmem y hy
   exact ⟨encD a, [encD b], by unfold keyP; simp only [ha, hb']⟩
  ·exact ksk_l1 _ _
  ·rintro v y ⟨w, rw', rep⟩ hy h tk kp
   obtain ⟨_, ys, a, b, rfl, ha, hb', fa, fb⟩ := hmem y hy
   obtain ⟨r, ws, rfl, t, rw2⟩ := rep.tup_
   cases rw'
   obtain ⟨its2, r3, p3, _⟩ := I2.tuple t.sq
   have lens : its2.length = ys.length := by rw [← r3.length]; exact rw2.len
   have item : ∀ {k : Int} {z : PV}, atI ys k = some z → flatD z = true → ∃ kk uu, seqIndex? k its2.toArray.size = some kk ∧ its2.toArray[kk]? = some uu ∧ ∀ h', Reads h' uu (encD z) [] := fun {k z} hk fz => by
    obtain ⟨kk, q1, q2, _⟩ := atI_get hk
    obtain ⟨v', q3, q4⟩ := rw2.get q2
    obtain ⟨uu, q5, q6⟩ := r3.get q3
    refine ⟨kk, uu, by rw [List.size_toArray, lens]; exact q1, by simpa using q5, fun h' => flat_reads fz q4 q6⟩
   obtain ⟨ki, ui, i1, i2, i3⟩ := item ha fa
   obtain ⟨kj, uj, j1, j2, j3⟩ := item hb' fb
   refine lam_pair (c' := c') (items := its2.toArray) L ?_ (kp _ _ hf) ⟨c', oc, vs, tq, rfl, kp _ _ hoc, hdc, hvc⟩ (I2.nolimit.keeps kp) (hb _ _ _ _ _) (p3.keeps kp) ⟨bi.1, bi.2, i1, i2⟩ ⟨bj.1, bj.2, j1, j2⟩ hd fun h' tk' a' kp' ht' => ?_
   ·show X.A.depth < recursionLimit
    omega
   ·refine ⟨h', tk', rfl, kp', ?_⟩
    obtain ⟨o, ho, hc, n, hd'⟩ := ht'
    have e : keyP i j (.tup ys) = .tuple [encD a, encD b] := by unfold keyP; simp only [ha, hb']
    rw [e]
    exact Reads.tuple ho hc hd' (ReadsAll.cons (i3 h') (ReadsAll.cons (j3 h') ReadsAll.nil))
  ·intro out cc h' tk kp hD ho eo
   obtain ⟨ys, r3, r4⟩ := val_each eo
   have fr : H2 (s2.heap.objs.size + 1) = none := I2.hok.fresh (Nat.le_succ _)
   refine ⟨.ref (s2.heap.objs.size + 1), upd H2 (s2.heap.objs.size + 1) (.lst ys), I2.laid (t' := tk) kp (Nat.le_succ _) ⟨?_, out, cc, r4, hD⟩, rfl, ?_⟩
   ·rw [r3.len, List.length_mergeSort]; exact hz
   ·exact kk _ η1 _ _ hP ((e1.trans g.ext).trans (.same (Same.new fr))) (R2.same (Same.new fr)) (rep_newL R2.trO fr r3)
 ·exact h5
 ·exact h6
 all_goals rfl
end
inductive Ar where
 | v (x : PV) | fo (o : Ow)
abbrev Ar.f (xs : List PV) : Ar := .fo (.l xs)
abbrev TArp := EP' → (List Ar → EP' → Prop) → Prop
def ArOk (K : PySem.W.Frag) (O : Addr → Prop) (H : Hp) : List Ar → List V → Prop
 | [], vs => vs = []
 | .v x :: ars, vs => ∃ v us, vs = v :: us ∧ Rep K O H x v ∧ ArOk K O H ars us
 | .fo o :: ars, vs => ∃ a us, vs = .ref a :: us ∧ OwAt K O H a o ∧ ArOk K O H ars us
def ArNew (F : Addr → Prop) (H : Hp) : List Ar → List V → Prop
 | .v _ :: ars, _ :: us => ArNew F H ars us
 | .fo _ :: ars, .ref a :: us => Nw H a ∧ ¬ F a ∧ ArNew (With F a) H ars us
 | [], [] => True
 | _, _ => False
def FA (F : Addr → Prop) : List Ar → List V → Addr → Prop
 | .v _ :: ars, _ :: us => FA F ars us
 | .fo _ :: ars, .ref a :: us => FA (With F a) ars us
 | _, _ => F
def upAr (K : PySem.W.Frag) (T : List (Addr × Str)) (tp : TArp) : TA := fun σ H Q => ∃ F η P, Rs K T F σ η H ∧ tp η P ∧ ∀ ars η' vs H', P ars η' → Ext σ η σ η' H H' → Rs K T (FA F ars vs) σ η' H' → ArNew F H ars vs → ArOk K (Oof (FA F ars vs) σ η') H' ars vs → Q vs H'
section
variable {K : PySem.W.Frag} {T : List (Addr × Str)} {F : Addr → Prop} {σ : St} {η : EP'} {H H' : Hp}
theorem ArOk.mono {O O' : Addr → Prop} (h : ∀ a, O' a → O a) : ∀ {ars : List Ar} {vs : List V}, ArOk K O H ars vs → ArOk K O' H ars vs
 | [], _, r => r
 | .v x :: ars, _, r => by
  obtain ⟨v, us, rfl, r1, r2⟩ := r
  exact ⟨v, us, rfl, r1.mono h, r2.mono h⟩
 | .fo o :: ars, _, r => by
  obtain ⟨a, us, rfl, r1, r2⟩ := r
  exact ⟨a, us, rfl, r1.mono h, r2.mono h⟩
theorem FA_with {a b : Addr} : ∀ {ars : List Ar} {vs : List V} {F : Addr → Prop}, FA (With F a) ars vs b ↔ FA F ars vs b ∨ b = a
 | [], [], F => Iff.rfl
 | [], _ :: _, F => Iff.rfl
 | .v _ :: ars, _ :: us, F => FA_with (ars := ars) (vs := us)
 | .v _ :: _, [], F => Iff.rfl
 | .fo _ :: ars, .ref c :: us, F => by
  show FA (With (With F a) c) ars us b ↔ FA (With F c) ars us b ∨ b = a
  rw [FA_with, FA_with, FA_with]
  constructor
  ·rintro ((h | h) | h)
   ·exact .inl (.inl h)
   ·exact .inr h
   ·exact .inl (.inr h)
  ·rintro ((h | h) | h)
   ·exact .inl (.inl h)
   ·exact .inr h
   ·exact .inl (.inr h)
 | .fo _ :: _, [], F => Iff.rfl
 | .fo _ :: _, .non :: _, F => Iff.rfl
 | .fo _ :: _, .bl _ :: _, F => Iff.rfl
 | .fo _ :: _, .int _ :: _, F => Iff.rfl
 | .fo _ :: _, .str _ :: _, F => Iff.rfl
 | .fo _ :: _, .byt _ :: _, F => Iff.rfl
 | .fo _ :: _, .flt _ :: _, F => Iff.rfl
 | .fo _ :: _, .ty _ :: _, F => Iff.rfl
theorem ArNew.mono : ∀ {ars : List Ar} {vs : List V} {F F' : Addr → Prop}, (∀ a, F' a → F a) → ArNew F H ars vs → ArNew F' H ars vs
 | [], [], _, _, _, _ => trivial
 | [], _ :: _, _, _, _, h => h.elim
 | .v _ :: ars, _ :: us, _, _, m, h => ArNew.mono (ars := ars) (vs := us) m h
 | .v _ :: _, [], _, _, _, h => h.elim
 | .fo _ :: ars, .ref c :: us, _, _, m, h => ⟨h.1, fun z => h.2.1 (m c z), ArNew.mono (ars := ars) (vs := us) (fun a z => z.elim (fun z => .inl (m a z)) .inr) h.2.2⟩
 | .fo _ :: _, [], _, _, _, h => h.elim
 | .fo _ :: _, .non :: _, _, _, _, h => h.elim
 | .fo _ :: _, .bl _ :: _, _, _, _, h => h.elim
 | .fo _ :: _, .int _ :: _, _, _, _, h => h.elim
 | .fo _ :: _, .str _ :: _, _, _, _, h => h.elim
 | .fo _ :: _, .byt _ :: _, _, _, _, h => h.elim
 | .fo _ :: _, .flt _ :: _, _, _, _, h => h.elim
 | .fo _ :: _, .ty _ :: _, _, _, _, h => h.elim
theorem FA_not {a : Addr} : ∀ {ars : List Ar} {vs : List V} {F : Addr → Prop}, ArNew (With F a) H ars vs → ¬ F a → ¬ FA F ars vs a
 | [], [], _, _, n, h => n h
 | [], _ :: _, _, h, _, _ => h.elim
 | .v _ :: ars, _ :: us, _, h, n, z => FA_not (ars := ars) (vs := us) h n z
 | .v _ :: _, [], _, h, _, _ => h.elim
 | .fo _ :: ars, .ref c :: us, F, h, n, z => by
  have z' : FA (With F c) ars us a := z
  have hc : ¬ With F a c := h.2.1
  rcases FA_with.mp z' with z' | z'
  ·exact FA_not (ars := ars) (vs := us) (F := F) (h.2.2.mono fun b q => .inl q) n z'
  ·exact hc (.inr z'.symm)
 | .fo _ :: _, [], _, h, _, _ => h.elim
 | .fo _ :: _, .non :: _, _, h, _, _ => h.elim
 | .fo _ :: _, .bl _ :: _, _, h, _, _ => h.elim
 | .fo _ :: _, .int _ :: _, _, h, _, _ => h.elim
 | .fo _ :: _, .str _ :: _, _, h, _, _ => h.elim
 | .fo _ :: _, .byt _ :: _, _, h, _, _ => h.elim
 | .fo _ :: _, .flt _ :: _, _, h, _, _ => h.elim
 | .fo _ :: _, .ty _ :: _, _, h, _, _ => h.elim
def storesV : List Nat → List V → St → St
 | i :: is, v :: vs, σ => storesV is vs (σ.set i (some v))
 | _, _, σ => σ
def storesP : List Nat → List Ar → EP' → EP'
 | i :: is, .v x :: ars, η => storesP is ars (η.set i (.va x))
 | i :: is, .fo o :: ars, η => storesP is ars (η.set i (.ow o))
 | _, _, η => η
def okIx (n : Nat) : List Nat → List Ar → Prop
 | i :: is, .v _ :: ars => okIx n is ars
 | i :: is, .fo _ :: ars => 0 ≠ i ∧ i < n ∧ okIx n is ars
 | [], [] => True
 | _, _ => False
theorem stores_ok {σ0 : St} {η0 : EP'} {H0 : Hp} : ∀ {is : List Nat} {ars : List Ar} {vs : List V} {F : Addr → Prop} {σ : St} {η : EP'}, okIx η.length is ars → Rs K T (FA F ars vs) σ η H → Ext σ0 η0 σ η H0 H → ArNew F H0 ars vs → ArOk K (Oof (FA F ars vs) σ η) H ars vs →
  Rs K T F (storesV is vs σ) (storesP is ars η) H ∧ Ext σ0 η0 (storesV is vs σ) (storesP is ars η) H0 H
 | [], [], vs, F, σ, η, _, R, E, N, A => by
  have A' : vs = [] := A
  subst A'
  exact ⟨R, E⟩
 | i :: is, .v x :: ars, vs, F, σ, η, hi, R, E, N, A => by
  obtain ⟨v, us, rfl, r, A⟩ := A
  have R' : Rs K T (FA F ars us) σ η H := R
  have m : ∀ a, Oof (FA F ars us) (σ.set i (some v)) (η.set i (.va x)) a → Oof (FA F ars us) σ η a := Oof_mono fun b z => own_set z
  exact stores_ok (is := is) (ars := ars) (vs := us) (F := F) (by rw [List.length_set]; exact hi) (R'.setv r) (E.trans .setv) N (A.mono m)
 | i :: is, .fo o :: ars, vs, F, σ, η, hi, R, E, N, A => by
  obtain ⟨a, us, rfl, r, A⟩ := A
  obtain ⟨h0, hl, hi⟩ := hi
  obtain ⟨n1, n2, N⟩ := N
  have R0 : Rs K T (FA (With F a) ars us) σ η H := R
  have nf : ¬ FA F ars us a := FA_not N n2
  have R1 : Rs K T (With (FA F ars us) a) σ η H := R0.shrink fun b z => FA_with.mpr z
  have m0 : ∀ b, Oof (With (FA F ars us) a) σ η b → Oof (FA (With F a) ars us) σ η b := fun b z => z.elim (fun z => .inl (FA_with.mpr z)) .inr
  have R2 := R1.seto (i := i) (o := o) nf (r.mono m0) hl
  have m1 : ∀ b, Oof (FA F ars us) (σ.set i (some (.ref a))) (η.set i (.ow o)) b → Oof (FA (With F a) ars us) σ η b := by
   rintro b (z | ⟨j, p, z1, z2⟩)
   ·exact .inl (FA_with.mpr (.inl z))
   ·by_cases hj : j = i
    ·subst hj
     cases at_set z1
     exact .inl (FA_with.mpr (.inr rfl))
    ·rw [ne_set hj] at z1 z2
     exact .inr ⟨j, p, z1, z2⟩
  exact stores_ok (is := is) (ars := ars) (vs := us) (F := F) (by rw [List.length_set]; exact hi) R2 (E.seto n1 h0) (N.mono fun b z => .inl z) (A.mono m1)
 | [], .v _ :: _, _, _, _, _, h, _, _, _, _ => h.elim
 | [], .fo _ :: _, _, _, _, _, h, _, _, _, _ => h.elim
 | _ :: _, [], _, _, _, _, h, _, _, _, _ => h.elim
end
section
variable {X : Cx} {T : List (Addr × Str)} {e a b c : Expr} {es : List Expr} {te : TEp} {tf : TFp} {tr : TArp} {pos : Pos}
def tNilAr : TArp := fun η P => P [] η
def tConsV (te : TEp) (t : TArp) : TArp := fun η P => te η fun x η1 => t η1 fun ars η2 => P (.v x :: ars) η2
theorem zr_nil : PA X [] (upAr X.K T tNilAr) := by
 refine PA.weak pa_nil fun σ H Q q => ?_
 obtain ⟨F, η, P, R, h, k⟩ := q
 exact k [] η [] H h .refl R trivial rfl
theorem new_back {F : Addr → Prop} {σ : St} {η η1 : EP'} {H H1 : Hp} (e : Ext σ η σ η1 H H1) : ∀ {ars : List Ar} {vs : List V} {F : Addr → Prop}, ArNew F H1 ars vs → ArNew F H ars vs
 | [], [], _, _ => trivial
 | [], _ :: _, _, h => h.elim
 | .v _ :: ars, _ :: us, _, h => new_back e (F := F) (ars := ars) (vs := us) h
 | .v _ :: _, [], _, h => h.elim
 | .fo _ :: ars, .ref c :: us, _, h => ⟨e.nw h.1, h.2.1, new_back e (F := F) (ars := ars) (vs := us) h.2.2⟩
 | .fo _ :: _, [], _, h => h.elim
 | .fo _ :: _, .non :: _, _, h => h.elim
 | .fo _ :: _, .bl _ :: _, _, h => h.elim
 | .fo _ :: _, .int _ :: _, _, h => h.elim
 | .fo _ :: _, .str _ :: _, _, h => h.elim
 | .fo _ :: _, .byt _ :: _, _, h => h.elim
 | .fo _ :: _, .flt _ :: _, _, h => h.elim
 | .fo _ :: _, .ty _ :: _, _, h => h.elim
theorem car_FA {F G : Addr → Prop} {σ : St} {η η1 : EP'} {H H1 : Hp} (e : Ext σ η σ η1 H H1) (hn : ∀ b, G b → F b ∨ Nw H b) : Car (Oof F σ η) (Oof G σ η1) H H1 := fun a o n h t => by
 obtain ⟨k, n'⟩ := e.car (F := F) a o n h t
 refine ⟨k, fun z => ?_⟩
 rcases z with z | z
 ·rcases hn a z with z | z
  ·exact n (.inl z)
  ·exact z.no h t
 ·exact n' (.inr z)
theorem FA_new {H : Hp} : ∀ {ars : List Ar} {vs : List V} {F : Addr → Prop} {b : Addr}, ArNew F H ars vs → FA F ars vs b → F b ∨ Nw H b
 | [], [], _, _, _, h => .inl h
 | [], _ :: _, _, _, h, _ => h.elim
 | .v _ :: ars, _ :: us, _, _, h, z => FA_new (ars := ars) (vs := us) h z
 | .v _ :: _, [], _, _, h, _ => h.elim
 | .fo _ :: ars, .ref c :: us, F, b, h, z => by
  rcases FA_new (ars := ars) (vs := us) (F := With F c) h.2.2 z with (q | q) | q
  ·exact .inl q
  ·rw [q]; exact .inr h.1
  ·exact .inr q
 | .fo _ :: _, [], _, _, h, _ => h.elim
 | .fo _ :: _, .non :: _, _, _, h, _ => h.elim
 | .fo _ :: _, .bl _ :: _, _, _, h, _ => h.elim
 | .fo _ :: _, .int _ :: _, _, _, h, _ => h.elim
 | .fo _ :: _, .str _ :: _, _, _, h, _ => h.elim
 | .fo _ :: _, .byt _ :: _, _, _, h, _ => h.elim
 | .fo _ :: _, .flt _ :: _, _, _, h, _ => h.elim
 | .fo _ :: _, .ty _ :: _, _, _, h, _ => h.elim
theorem zr_v (he : PE X e (up X.K T te)) (hr : PA X es (upAr X.K T tr)) (hs : starEach (e :: es) X.env = (false, eval e X.env) :: starEach es X.env := by rfl) : PA X (e :: es) (upAr X.K T (tConsV te tr)) := by
 refine PA.weak (pa_cons he hr hs) fun σ H Q q => ?_
 obtain ⟨F, η, P, R, h, k⟩ := q
 refine ⟨F, η, _, R, h, fun x η1 v H1 h1 e1 R1 r1 => ⟨F, η1, _, R1, h1, fun ars η2 vs H2 h2 e2 R2 N2 A2 => ?_⟩⟩
 exact k (.v x :: ars) η2 (v :: vs) H2 h2 (e1.trans e2) R2 (show ArNew F H ars vs from new_back (F := F) e1 N2) ⟨v, vs, rfl, r1.car (car_FA e2 fun b z => FA_new N2 z), A2⟩
def tParP (is : List Nat) (tr : TArp) : TSp := fun D η => tr η fun ars η1 => ars.length = is.length ∧ okIx η1.length is ars ∧ D.nx (storesP is ars η1)
theorem ArOk.len {K : PySem.W.Frag} {O H} : ∀ {ars : List Ar} {vs : List V}, ArOk K O H ars vs → vs.length = ars.length
 | [], _, r => by
  have r' : _ = [] := r
  rw [r']; rfl
 | .v x :: ars, _, r => by
  obtain ⟨v, us, rfl, r1, r2⟩ := r
  simp [r2.len]
 | .fo o :: ars, _, r => by
  obtain ⟨a, us, rfl, r1, r2⟩ := r
  simp [r2.len]
theorem par_up {K : PySem.W.Frag} {is : List Nat} {D : Ends} {σ : St} {H : Hp} (q : upS K T (tParP is tr) D σ H) : upAr K T tr σ H (fun vs H1 => vs.length = is.length ∧ D.nx (storesV is vs σ) H1) := by
 obtain ⟨F, η, D', R, h, k1, k2, k3, k4⟩ := q
 refine ⟨F, η, _, R, h, fun ars η1 vs H1 h1 e1 R1 N A => ⟨by rw [A.len]; exact h1.1, ?_⟩⟩
 obtain ⟨R2, E2⟩ := stores_ok (is := is) h1.2.1 R1 e1 N A
 exact k1 _ _ _ h1.2.2 E2 R2
theorem z_par3 {i j l : Nat} {st : Stmt} {K0 : PySem.W.Frag} (hK : X.K = K0) (pf : PS X st (tPar3 i j l (upAr K0 T tr))) : PS X st (upS K0 T (tParP [i, j, l] tr)) := by
 refine PS.weak pf fun D σ H q => ?_
 obtain ⟨F, η, P, R, h, k⟩ := par_up q
 refine ⟨F, η, P, R, h, fun ars η' vs H' h1 e1 R1 N A => ?_⟩
 obtain ⟨hl, hd⟩ := k ars η' vs H' h1 e1 R1 N A
 match vs, hl, hd with
 | [u, v, w], _, hd => exact ⟨u, v, w, rfl, hd⟩
end
section
variable {X : Cx} {T : List (Addr × Str)} {a b e o : Expr} {es : List Expr} {te ta tb : TEp} {t : TAp} {tf : TFp} {pos p apos : Pos} {x : Str}
theorem z_gi {i : Int} (hg : Gl X x) (h : ∃ u, X.mg x = some u ∧ RelV (.int i) u) (hd : (x == ("__debug__" : Str)) = false := by decide) : PE X (.Name x pos) (up X.K T (tConP (.int i))) := by
 obtain ⟨u, hm, r⟩ := h
 exact z_con (pe_glob hg hm r hd) fun _ _ => by unfold Rep; rfl
theorem z_gs {i : Str} (hg : Gl X x) (h : ∃ u, X.mg x = some u ∧ RelV (.str i) u) (hd : (x == ("__debug__" : Str)) = false := by decide) : PE X (.Name x pos) (up X.K T (tConP (.str i))) := by
 obtain ⟨u, hm, r⟩ := h
 exact z_con (pe_glob hg hm r hd) fun _ _ => by unfold Rep; rfl
theorem z_gc {C : Addr} (hg : Gl X x) (hm : X.mg x = some (.ref C)) (hd : (x == ("__debug__" : Str)) = false := by decide) : PE X (.Name x pos) (up X.K T (tConP (.raw (.ref C)))) := z_con (pe_glob (v := .ref C) hg hm rfl hd) fun _ _ => by unfold Rep; rfl
theorem z_ty {id : String} (hg : Gl X x) (hm : X.mg x = none) (hv : bootBuiltins x = some (.type id)) (hn : x ≠ "__name__" := by decide) (hd : (x == ("__debug__" : Str)) = false := by decide) : PE X (.Name x pos) (up X.K T (tConP (.raw (.ty id)))) := z_con (pe_bltn (v := .ty id) hg hm hv rfl hn hd) fun _ _ => by unfold Rep; rfl
def tNegP (te : TEp) : TEp := fun η P => te η fun x η1 => match x with | .int i => P (.int (-i)) η1 | _ => False
theorem zgs_cons1 {t : TGp} {u : TGsp} (h1 : PG X e (upG X.K T t)) (h2 : PGs X es (upGs X.K T u)) (hs : (assignEach (e :: es) X.env).map (·.2) = assign e X.env :: (assignEach es X.env).map (·.2) := by rfl) : PGs X (e :: es) (upGs X.K T (gConsP t u)) := zgs_cons h1 h2 (pgs_cons h1 h2 hs)
theorem z_chain1 {c : Expr} {tc : TEp} {op op' : CmpOp} {r r' : R2p} (ho : OpR X (compareOp op) (r2 X.K r)) (ho' : OpR X (compareOp op') (r2 X.K r')) (ha : PE X a (up X.K T ta)) (hb : PE X b (up X.K T tb)) (hc : PE X c (up X.K T tc))
  (hm : lastMarks [op, op'] [b, c] = false := by with_unfolding_all rfl) : PE X (.Compare a [op, op'] [b, c] pos) (up X.K T (tChainP r r' ta tb tc)) := z_chain ho ho' ha hb hc (pe_chain ho ho' ha hb hc hm)
theorem zt_chain {c : Expr} {tc : TEp} {op op' : CmpOp} {r r' : R2p} (ho : OpR X (compareOp op) (r2 X.K r)) (ho' : OpR X (compareOp op') (r2 X.K r')) (ha : PE X a (up X.K T ta)) (hb : PE X b (up X.K T tb)) (hc : PE X c (up X.K T tc))
  (hm : lastMarks [op, op'] [b, c] = false := by with_unfolding_all rfl) : PT X (.Compare a [op, op'] [b, c] pos) (upB X.K T (tBlP (tChainP r r' ta tb tc))) := by
 refine PT.weak (pt_chain ho ho' ha hb hc hm) fun σ H Q q => ?_
 obtain ⟨F, η, P, R, h, k⟩ := q
 refine ⟨F, η, _, R, h, fun x η1 v H1 h1 e1 R1 r1' => ⟨F, η1, _, R1, h1, fun y η2 w H2 h2 e2 R2' rw' => ?_⟩⟩
 refine ⟨Oof F σ η2, x, y, _, R2'.trO, r1'.car e2.car, rw', h2, fun z u H3 pz s rz => ?_⟩
 obtain ⟨kk, rfl, pz⟩ := pz
 unfold Rep at rz
 refine ⟨kk, rz, ?_⟩
 cases kk with
 | false => exact ⟨_, rfl, k _ η2 H3 pz ((e1.trans e2).trans (.same s)) (R2'.same s)⟩
 | true =>
  simp only [if_true] at pz ⊢
  refine ⟨F, η2, _, R2'.same s, pz, fun z' η3 u' H4 h4 e4 R4 r4 => ?_⟩
  refine ⟨Oof F σ η3, y, z', _, R4.trO, (rw'.car (Car.same s)).car e4.car, r4, h4, fun z2 u2 H5 p5 s5 r5 => ?_⟩
  split at p5
  ·unfold Rep at r5
   exact ⟨_, r5, k _ η3 H5 p5 ((((e1.trans e2).trans (.same s)).trans e4).trans (.same s5)) (R4.same s5)⟩
  ·cases p5
theorem zi_enum1 {p pos tpos : Pos} {elts : List Expr} {kk : Nat} (hg : Gl X "enumerate") (hm : X.mg "enumerate" = none) (he : PE X e (up X.K T te)) (hs : starEach [e] X.env = [(false, eval e X.env)] := by rfl) :
  PI X (.Tuple elts kk tpos) (.Call (.Name "enumerate" p) [e] [] pos) (upI X.K T (iEnumP te)) := zi_enumT hg hm he hs
def rMulA : R2p := fun x y P => rMul x y P ∨ rMulS x y P
theorem zo_mulA : OpR X (binaryOp .Mult) (r2 X.K rMulA) := by
 intro pins s σ H x y v u Q I rx ry q
 obtain ⟨O, px, py, P, tr, h1, h2, h, k⟩ := q
 rcases h with h | h
 ·exact zo_mul pins s σ H x y v u Q I rx ry ⟨O, px, py, P, tr, h1, h2, h, k⟩
 ·exact zo_mulS pins s σ H x y v u Q I rx ry ⟨O, px, py, P, tr, h1, h2, h, k⟩
end
structure FunX (K : PySem.W.Frag) (x qual : Str) (st : Stmt) (dvs : List V) (c f : Addr) (fd : FuncData) : Prop where
 ex : ∃ (oc : Value) (od : Option Addr) (dV kV doc pm : Value) (an : Option Addr) (ct : Value) (osl : Array (Option Value)),
  fd = PySem.W.fnOf x qual (defArgs st) (defBody st) (defScope st) dV kV doc pm an (.ref c) ct ∧ K.lookup f = some ⟨oc, od, .func fd, osl⟩ ∧ PySem.W.codeIn K (.ref c) qual = true ∧ DflV K dV dvs
 kp : PySem.W.keepIn K (.ref f) = true
section
variable {P : Program} {w : World} {K : PySem.W.Frag} {mg : Str → Option Value} {base : Heap} {T : List (Addr × Str)} {x qual : Str} {st : Stmt} {f c : Addr} {fd : FuncData} {dvs : List V} {ps : List Str}
theorem FunX.d (F : FunX K x qual st dvs c f fd) : FunD K x qual (defArgs st) (defBody st) (defScope st) dvs [] f fd := by
 obtain ⟨oc, od, dV, kV, doc, pm, an, ct, osl, h1, h2, h3, h4⟩ := F.ex
 exact ⟨⟨oc, od, dV, kV, doc, pm, an, .ref c, ct, osl, h1, h2, h3, h4, .inl rfl⟩, F.kp⟩
theorem okRX {nm : Str} {N : List Str} {k : Nat} {sp : SpR} (F : FunX K x qual st dvs c f fd) (S : FnScope (nm :: N) (nm :: ps) (defScope st)) (hl : ∀ o args P, sp o args P → args.length = ps.length) (hn : ps.length ≤ N.length)
  (hbody : ∀ (A : Around) (outer : List Env) (s : Shared) (H : Hp) (E : XK), Room k (A.deeper (envOfC qual (defScope st) s.heap.objs.size f (.ref c))) →
   ∃ ts, PSs (cxOf CX0 P w K mg base (nm :: N) qual (defScope st) f (.ref c) A outer s H E).nox (defBody st) (upS K T ts) ∧
    ∀ o args P, sp o args P → ts { nx := fun η' => ∃ o', η'[0]? = some (Sl.ow o') ∧ P .non o', rt := fun x η' => ∃ o', η'[0]? = some (Sl.ow o') ∧ P x o' } (startR (N.length + 1) o args)) :
  FnOk P w K mg base CX0 (k + 1) f fd (nm :: ps) (upSpR K T sp) := by
 obtain ⟨oc, od, dV, kV, doc, pm, an, ct, osl, rfl, lk, hcd, _⟩ := F.ex
 refine fn_of lk hcd S (len_spR hl) fun A outer s H vs Q E hr h => ?_
 obtain ⟨ts, d, rd⟩ := hbody A outer s H E hr
 exact ⟨_, d.nox, body_spR h (fun o args P hs => by rw [hl _ _ _ hs]; exact hn) rd⟩
theorem FunX.b0 (F : FunX K x qual st dvs c f fd) (hd : dvs ≠ [])
  (h : ∀ (T : Addr) (kV doc pm : Value) (an : Option Addr) (cdv ct : Value) (us its : List Value), us.length = ps.length → its.length = dvs.length →
   ∃ k, bindArgs (PySem.W.fnOf x qual (defArgs st) (defBody st) (defScope st) (.ref T) kV doc pm an cdv ct) ⟨us, []⟩ = seqItems? (.ref T) >>= k ∧ k (some its.toArray) = pure (ps.zip (us ++ its.drop dvs.length))) : Binds K fd ps [] := by
 obtain ⟨ds, h1, h2⟩ := F.d.binds1 (ps := ps) ps.length dvs.length hd (by omega) h
 rw [List.drop_length] at h1
 cases ds with
 | nil => exact h2
 | cons => exact (nomatch h1)
end
end Z
namespace Z
open PySem PySem.Spec L2 ClX
open PyProof.Rows hiding St
structure SMet (K : PySem.W.Frag) (C : Addr) (mc : Value) (m : Str) (p g : Addr) : Prop where
 at_ : PySem.W.findCls K (.ref C) mc m = some (.get (.builtin "staticmethod.__get__") (.ref p) .none (.ref C))
 rc : ∃ rest, PySem.W.recIn K p "staticmethod" = some (.ref g :: rest)
 kp : PySem.W.keepIn K (.ref g) = true
structure SInst (K : PySem.W.Frag) (C : Addr) (m : Str) (p g : Addr) : Prop where
 pg : PySem.W.plainGet K C Str.empty = true
 ic : PySem.W.isClsIn K C = true
 at_ : PySem.W.findIn K (.ref C) m = some (some (.ref p))
 ty : PySem.W.typeIn K (.ref p) = some (.type "staticmethod")
 get : PySem.W.specialIn K (.ref p) "__get__" = some (some (.builtin "staticmethod.__get__"))
 tk : PySem.W.takesIn K (.ref p) = some false
 cp : PySem.W.copiedNames.contains m = false
 rc : ∃ rest, PySem.W.recIn K p "staticmethod" = some (.ref g :: rest)
 kp : PySem.W.keepIn K (.ref g) = true
section
variable {X : Cx} {T : List (Addr × Str)} {k : Nat} {C p g : Addr} {mc : Value} {sp : SpP} {o e : Expr} {es : List Expr} {m : Str} {pos apos kpos : Pos} {te ta : TEp} {t : TAp} {fd : FuncData} {ps ks : List Str} {kws : List Keyword} {nm : Option Str}
theorem PK.weak {kws : List Keyword} {t t' : TA} (h : PK X kws t) (w : ∀ σ H Q, t' σ H Q → t σ H Q) : PK X kws t' := ⟨fun pos pins s σ H Q I q => h.run pos pins s σ H Q I (w _ _ _ q)⟩
theorem zk_nil : PK X [] (upA X.K T tNilP) := by
 refine PK.weak pk_nil fun σ H Q q => ?_
 obtain ⟨F, η, P, R, h, k⟩ := q
 exact k [] η [] H h .refl R .nil
theorem zk_cons (ha : PE X e (up X.K T te)) (hr : PK X kws (upA X.K T t)) : PK X (⟨nm, e, kpos⟩ :: kws) (upA X.K T (tConsP te t)) := by
 refine PK.weak (pk_cons ha hr) fun σ H Q q => ?_
 obtain ⟨F, η, P, R, h, k⟩ := q
 refine ⟨F, η, _, R, h, fun x η1 v H1 h1 e1 R1 r1' => ⟨F, η1, _, R1, h1, fun y η2 w H2 h2 e2 R2' rw' => ?_⟩⟩
 exact k (x :: y) η2 (v :: w) H2 h2 (e1.trans e2) R2' (.cons (r1'.car e2.car) rw')
end
end Z
namespace Z
open PySem PySem.Spec L2 ClX
open PyProof.Rows hiding St
section
variable {X : Cx} {T : List (Addr × Str)} {C : Addr} {mc : Value} {e : Expr} {f : Str} {pos : Pos} {ta : TEp} {x : PV} {v : V} {u : Value}
def tDic0P : TEp := fun η P => P .dic0 η
theorem z_dic0 : PE X (.Dict [] [] pos) (up X.K T tDic0P) := by
 refine PE.weak pe_dnewK fun σ H Q q => ?_
 obtain ⟨F, η, P, R, h, kk⟩ := q
 intro p hp
 refine kk _ _ _ _ h (.same (Same.new hp)) (R.same (Same.new hp)) ?_
 unfold Rep
 exact ⟨p, [], rfl, R.trO.fresh hp, upd_same, RepD.nil⟩
end
def trk0 (ts : List Addr) (a : Addr) (o : Obj) (u : HO) : Hp := fun b => if b = a then some (.frz o u) else if b ∈ ts then some (.tbl #[]) else none
section
variable {ts : List Addr} {a b : Addr} {o : Obj} {u : HO}
theorem trk0_a : trk0 ts a o u a = some (.frz o u) := if_pos rfl
theorem trk0_t (n : b ≠ a) (h : b ∈ ts) : trk0 ts a o u b = some (.tbl #[]) := (if_neg n).trans (if_pos h)
theorem trk0_n (n : b ≠ a) (h : b ∉ ts) : trk0 ts a o u b = none := (if_neg n).trans (if_neg h)
end
def NoList (K : PySem.W.Frag) : Bool := K.all fun p => match p.2.cls with
 | .type n => !(n == "list")
 | _ => true
theorem noList_at {K : PySem.W.Frag} (h : NoList K = true) {b : Addr} {o : Obj} (e : K.lookup b = some o) : o.cls ≠ .type "list" := by
 intro z
 have hm : ∃ p ∈ K, p.2 = o := by
  clear h
  induction K with
  | nil => cases e
  | cons p r ih =>
   rw [List.lookup_cons] at e
   cases q : (b == p.1) with
   | true =>
    rw [q] at e
    exact ⟨p, List.mem_cons_self, Option.some.inj e⟩
   | false =>
    rw [q] at e
    obtain ⟨p', h1, h2⟩ := ih e
    exact ⟨p', List.mem_cons_of_mem _ h1, h2⟩
 obtain ⟨p, h1, h2⟩ := hm
 have h3 := List.all_eq_true.mp h p h1
 rw [h2, z] at h3
 exact absurd h3 (by decide)
structure AtEnd (K : PySem.W.Frag) (mg mb : Str → Option Value) (cs : List (Addr × Addr)) (h : Heap) : Prop where
 X : K.In h
 g : h.Ns mainGlobals mg
 b : h.Ns builtinsNs mb
 bb : ∀ x : Str, x ≠ "__name__" → mb x = bootBuiltins x
 nolim : h.NoLimit
 code : ∀ p ∈ cs, PySem.W.CodeHd h p.1 p.2
 tab : ∀ p ∈ cs, h.get? p.2 = some (PySem.W.tabObj #[])
 bm : ∃ bm ob, mg "__builtins__" = some (.ref bm) ∧ bm ≠ builtinsNs ∧ h.get? bm = some ob ∧ ob.cls = .type "module" ∧ ob.dict = some builtinsNs ∧ ob.data = .plain
theorem law_endG {P : Program} {w : World} {K : PySem.W.Frag} {mg mb : Str → Option Value} {k : Nat} {fa a : Addr} {cs : List (Addr × Addr)} {T : List (Addr × Str)} {fd : FuncData} {x : Str} {sp : SpP} {s1 : Shared} {vs : List Value} {ns : List Int}
  (t : AtEnd K mg mb cs s1.heap) (nl : NoList K = true) (nK : ∀ p ∈ cs, K.lookup p.2 = none) (hTT : ∀ p ∈ T, p.1 ∈ cs.map (·.2)) (gn : s1.gens = #[])
  (ha : s1.heap.get? a = some { cls := .type "list", data := .seq vs.toArray }) (hi : IntsAre vs ns) (hl : ns.length ≤ sizeLine) (hr : Room k callerA)
  (F : ∀ base : Heap, K.In base → base.Ns mainGlobals mg → (∀ p ∈ cs, LamX.TabB base mg p.1 p.2) → FnG P w K mg base k fa fd [x] (upSp K T sp)) (hb : ∀ (s : Shared) (u : Value), BindsTo s fd ⟨[u], []⟩ [(x, u)])
  (hsp : sp [.scr ns] fun z => z = .bl true) :
  codeAny (model P w) callerA (.call (.ref fa) ⟨[.ref a], []⟩) (fun r s' => r = .ok (.ret (.bool true)) ∧ OldK s1.heap s'.heap ∧ s'.os = s1.os ∧ AllBare s'.gens) s1 := by
 let ts := cs.map (·.2)
 let ob : Obj := { cls := .type "list", data := .seq vs.toArray }
 let H : Hp := trk0 ts a ob (.lst (ns.map V.int))
 have isT : ∀ b ∈ ts, s1.heap.get? b = some (PySem.W.tabObj #[]) := fun b hb => by
  obtain ⟨p, hp, e⟩ := List.mem_map.mp hb
  rw [← e]; exact t.tab p hp
 have aT : a ∉ ts := fun z => by
  have q := (isT a z).symm.trans ha
  cases q
 have tA : ∀ b ∈ ts, b ≠ a := fun b hb z => aT (z ▸ hb)
 have kA : K.lookup a = none := by
  cases q : K.lookup a with
  | none => rfl
  | some o =>
   have e := (t.X a o q).symm.trans ha
   cases e
   exact absurd rfl (noList_at nl q)
 have kT : ∀ b ∈ ts, K.lookup b = none := fun b hb => by
  obtain ⟨p, hp, e⟩ := List.mem_map.mp hb
  rw [← e]; exact nK p hp
 -- an object that is neither the script nor a table
 have out : ∀ {b : Addr} {o : Obj}, s1.heap.get? b = some o → (∀ vs n, o.data ≠ .seq vs n) → o.data ≠ .fields #[] → H b = none := fun {b o} e h1 h2 => by
  refine trk0_n (fun z => ?_) fun z => ?_
  ·rw [z, ha] at e; cases e; exact h1 _ _ rfl
  ·rw [isT b z] at e; cases e; exact h2 rfl
 have toBase : ∀ {b : Addr} {o : Obj}, s1.heap.get? b = some o → (∀ vs n, o.data ≠ .seq vs n) → o.data ≠ .fields #[] → (hidT s1.heap H).get? b = some o := fun e h1 h2 => hidT_get e (out e h1 h2)
 have nsB : ∀ {b : Addr} {m : Str → Option Value}, s1.heap.Ns b m → (hidT s1.heap H).Ns b m := fun {b m} ⟨o, es, ep, e, d, r⟩ => ⟨o, es, ep, toBase e (fun vs n z => by rw [d] at z; cases z) (fun z => by rw [d] at z; cases z), d, r⟩
 have KB : K.In (hidT s1.heap H) := fun b o e => hidT_get (t.X b o e) (by
  refine trk0_n (fun z => ?_) fun z => ?_
  ·rw [z, kA] at e; cases e
  ·rw [kT b z] at e; cases e)
 have M : L2.Mod K mg (hidT s1.heap H) := ⟨KB, nsB t.g, ⟨mb, nsB t.b, t.bb⟩, let ⟨mc, h1, h2⟩ := t.nolim; ⟨mc, nsB h1, h2⟩⟩
 have TB : ∀ p ∈ cs, LamX.TabB (hidT s1.heap H) mg p.1 p.2 := fun p hp => by
  have e2 := t.tab p hp
  refine ⟨?_, ?_, fun z => ?_⟩
  ·obtain ⟨o, us, file, tf, flags, tg, inF, text, tt, e1, r1, r2, r3, r⟩ := t.code p hp
   exact ⟨o, us, file, tf, flags, tg, inF, text, tt, toBase e1 (fun vs n z => by rw [r2] at z; cases z) (fun z => by rw [r2] at z; cases z; simp at r3), r1, r2, r3, r⟩
  ·obtain ⟨m, om, b1, b2, b3, b4, b5, b6⟩ := t.bm
   refine ⟨m, om, b1, b2, fun q => ?_, fun q => ?_, toBase b3 (fun vs n z => by rw [b6] at z; cases z) (fun z => by rw [b6] at z; cases z), b4, b5, b6⟩
   ·obtain ⟨o, es, ep, e, hd, _⟩ := t.g
    rw [q, e] at b3; cases b3; rw [hd] at b6; cases b6
   ·rw [q, e2] at b3; cases b3; cases b6
  ·obtain ⟨o, es, ep, e, hd, _⟩ := t.g
   rw [z, e2] at e; cases e; cases hd
 have rv := vals_ints hi
 have hok : HOk P w H s1.heap := fun b u e => by
  by_cases hba : b = a
  ·rw [hba] at e ⊢
   obtain rfl : _ = u := Option.some.inj (trk0_a.symm.trans e)
   exact ⟨ha, by rw [List.length_map]; exact hl, vs, _, rv, ha⟩
  ·by_cases hbt : b ∈ ts
   ·obtain rfl : _ = u := Option.some.inj ((trk0_t hba hbt).symm.trans e)
    exact isT b hbt
   ·have z := (trk0_n (o := ob) (u := .lst (ns.map V.int)) hba hbt).symm.trans e
    cases z
 have e0 : Env0 P w K mg (hidT s1.heap H) callerA [] s1 H := ⟨rfl, M, fun b o e => of_hidT e, Nat.le_of_eq (hidT_size _ _), trivial, (fun b z => absurd (show b ∈ ([] : List Addr) from z) (by simp)), hok, .of_eq gn⟩
 have hT0 : LamX.Tabs T H := fun p hp => ⟨#[], trk0_t (tA _ (hTT p hp)) (hTT p hp), trivial, fun pos cv z => by cases z⟩
 have promise : upSp K T sp [.ref a] H (fun v _ => v = .bl true) fun _ _ _ => False := by
  refine ⟨fun _ => False, [.scr ns], fun z => z = .bl true, fun b z => z.elim, hT0, ?_, hsp, fun z v H' e _ _ r => ?_⟩
  ·unfold Reps
   refine ⟨.ref a, [], rfl, ?_, ?_⟩
   ·unfold Rep
    exact ⟨a, ob, rfl, id, trk0_a⟩
   ·unfold Reps
    rfl
  ·subst e
   exact r.bl_
 refine codeAny_mono ((F _ KB (nsB t.g) TB).run callerA [] s1 H ⟨[.ref a], []⟩ [.ref a] [.ref a] _ _ rfl hr e0 (hb s1 (.ref a)) (.cons rfl .nil) promise) fun r s' h => ?_
 match r, h with
 | .error e, h => exact h.elim
 | .ok (.ret u), ⟨v, H', os, bare, un, hok', r', q⟩ =>
  have q' : v = .bl true := q
  subst q'
  obtain rfl : u = Value.bool true := r'
  have same : ∀ b o, b ∉ ts → s1.heap.get? b = some o → s'.heap.get? b = some o := fun b o nb e => by
   by_cases hba : b = a
   ·have z2 := un.frzs b ob (.lst (ns.map V.int)) (by rw [hba]; exact trk0_a)
    rw [hba] at e z2 ⊢
    rw [ha] at e; cases e
    exact (hok' a _ z2).1
   ·exact un.keep b o e (trk0_n hba nb) (by intro z; exact absurd (show b ∈ ([] : List Addr) from z) (by simp)) (by simp)
  have more : ∀ b ∈ ts, ∃ m : Array Value, s'.heap.get? b = some (PySem.W.tabObj m) := fun b hb => by
   obtain ⟨m, z⟩ := un.tbls b #[] (trk0_t (tA b hb) hb)
   exact ⟨_, hok' b _ z⟩
  refine ⟨rfl, ⟨fun b o e => ?_, fun b o e => ?_⟩, os, bare⟩
  ·by_cases hb : b ∈ ts
   ·obtain ⟨m, hm⟩ := more b hb
    rw [isT b hb] at e; cases e
    obtain ⟨p, hp, ep⟩ := List.mem_map.mp hb
    refine .inr (.inl ⟨?_, rfl, #[], m, rfl, by rw [Array.empty_append]; exact hm⟩)
    rw [← ep]
    exact ((t.code p hp).tab (t.tab p hp)).isCodeTable
   ·exact .inl (same b o hb e)
  ·by_cases hb : b ∈ ts
   ·obtain ⟨m, hm⟩ := more b hb
    exact ⟨_, hm⟩
   ·exact ⟨o, same b o hb e⟩
def LawG (l : PySem.W.OpenLaw) (w : World) (K : PySem.W.Frag) (k n : Nat) (x : Str) (mg : Str → Option Value) (fa : Addr) (h : Heap) : Prop :=
 ∃ (fd : FuncData) (cs : List (Addr × Addr)) (T : List (Addr × Str)) (sp : SpP), (∀ p ∈ cs, PySem.W.CodeHd h p.1 p.2) ∧ (∀ p ∈ cs, h.get? p.2 = some (PySem.W.tabObj #[])) ∧ (∀ p ∈ cs, K.lookup p.2 = none) ∧ NoList K = true ∧ (∀ p ∈ T, p.1 ∈ cs.map (·.2)) ∧
  (∀ (s : Shared) (u : Value), BindsTo s fd ⟨[u], []⟩ [(x, u)]) ∧ (∀ ns : List Int, ns.length ≤ n → (∀ z ∈ ns, Builtin.Int.intBits z ≤ 1048576) → sp [.scr ns] fun z => z = .bl true) ∧
  ∀ base : Heap, K.In base → base.Ns mainGlobals mg → (∀ p ∈ cs, LamX.TabB base mg p.1 p.2) → FnG l.prog w K mg base k fa fd [x] (upSp K T sp)
theorem walkG {l : PySem.W.OpenLaw} {n k : Nat} {q : Program} {loose : List Str} {XP : (Str → Option Value) → Heap → Prop} {YP : World → Heap → Prop} {d : DefRec} {K : Params → PySem.W.Frag} {x : Str}
  (hn : l.most = some n) (hn2 : n ≤ sizeLine) (hdf : d.params.defaults = []) (hr : Room k callerA) (hY : ∀ (w : World) (h : Heap), YP w h → (K w.params).In h)
  (F : ∀ (w : World) (mg : Str → Option Value) (fa : Addr) (h : Heap), YP w h → (K w.params).In h → h.Ns mainGlobals mg → mg d.name = some (.ref fa) → LawG l w (K w.params) k n x mg fa h) :
  PySem.W.WalkO q loose XP YP l.row.toRowW d [] (fun f vs => PySem.call f vs) := by
 refine Att.attach_callB hn hdf fun w s0 s1 mg mb fa o pm cd doc a vs ns G Y ho hd hcd hmg hobj hints hlen hbits hg => ?_
 obtain ⟨fd, cs, T, sp, hC, hT, nT, nl, hTT, hb, hsp, hF⟩ := F w mg fa _ Y (hY w _ Y) G.T.g hmg
 exact law_endG ⟨hY w _ Y, G.T.g, G.T.b, G.T.builtins, G.T.nolimit, hC, hT, G.T.bmain⟩ nl nT hTT hg hobj hints (Nat.le_trans hlen hn2) hr hF hb (hsp ns hlen hbits)
end Z
namespace Z
open PySem PySem.Spec L2 PySem.Calls
open PyProof.Rows hiding St
structure OwnC (K : PySem.W.Frag) (C fE fL fS : Addr) : Prop where
 t : ClsT K C
 eq : PySem.W.findIn K (.ref C) "__eq__" = some (some (.ref fE))
 eqf : PySem.W.isFn K (.ref fE) = true
 ne : PySem.W.findIn K (.ref C) "__ne__" = some (some (.builtin "object.__ne__"))
 len : PySem.W.findIn K (.ref C) "__len__" = some (some (.ref fL))
 lenf : PySem.W.isFn K (.ref fL) = true
 bool : PySem.W.findIn K (.ref C) "__bool__" = some none
 str : PySem.W.findIn K (.ref C) "__str__" = some (some (.ref fS))
 strf : PySem.W.isFn K (.ref fS) = true
 nf : ∀ n : String, n ∈ ["NoneType", "int", "bool", "str", "tuple", "list", "dict"] → PySem.W.notFirst K C (.type n) = true
end Z
namespace Z
open PySem PySem.Spec L2 PySem.Calls
open PyProof.Rows hiding St
section
variable {X : Cx} {k : Nat} {C fE fL fS f : Addr} {fd : FuncData} {ps : List Str} {sp : Sp}
theorem run_at {pins : List (Addr × Obj)} {σ : St} {H : Hp} {s : Shared} {Q : VK} {us : List Value} {vs : List V} {A : Around} (F : FnOk X.prog X.w X.K X.mg X.base CX0 k f fd ps sp) (fr : A.frames = X.A.frames) (hr : Room k A) (hb : Binds X.K fd ps [])
  (I : Inv X pins σ H s) (r : Vals vs us) (h : sp vs H Q E0) : wpAny (model X.prog X.w) A (call (.ref f) us) (EP X pins σ Q) X.xe s := by
 have e := I.env0
 have e0 : Env0 X.prog X.w X.K X.mg X.base A X.stack s H := ⟨by rw [fr]; exact e.frames, e.mod, e.bs, e.bsz, e.funs, e.frf, e.hok, e.bare⟩
 have hl := F.len _ _ _ _ h
 refine wpAny_call (codeAny_mono (F.run A X.stack s H ⟨us, []⟩ us vs Q E0 hr e0 (by
  have z := hb s us I.kIn (by rw [List.append_nil, ← r.length]; exact hl)
  rwa [List.append_nil] at z) r h) fun r' s' hq => ?_)
 match r', hq with
 | .error e, hq => exact pass0 pins σ H s e s' I hq
 | .ok (.ret u), hq => exact I.after hq
def rStrO (C : Addr) (sp : Sp) : List V → Hp → VK → Prop := fun xs H Q => ∃ a dx fs, xs = [.ref a] ∧ H a = some (.ins C dx fs) ∧ sp [.ref a] H (fun z H' => ∃ y, z = .str y ∧ Q z H') E0
theorem call_strO (F : FnOk X.prog X.w X.K X.mg X.base CX0 k fS fd ps sp) (hr : Room (k + 2) X.A) (o : OwnC X.K C fE fL fS) (hb : Binds X.K fd ps []) : CallR X (.type "str") (rStrO C sp) := by
 intro pins s σ H xs us Q I r h
 obtain ⟨a, dx, fs, rfl, ha, hsp⟩ := h
 obtain rfl := Vals.ref1 r
 obtain ⟨mA, J, _⟩ := ins_get I.hok ha
 obtain ⟨od, J, _⟩ := J.look
 refine PySem.W.kso_call (Room.in1 (Room.in1 hr)).units0 I.kIn J o.str o.strf ?_
 refine wpAny_mono (run_at F rfl (Room.in1 (Room.in1 hr)) hb I r hsp) (fun v s' ⟨z, H', I', rz, y, ez, q⟩ => ?_) fun _ _ e => e
 subst ez
 obtain ⟨t, rfl⟩ : ∃ t, v = Value.str y t := rz
 exact ⟨.str y, H', I', ⟨t, rfl⟩, q⟩
end
section
variable {X : Cx} {T : List (Addr × Str)} {k : Nat} {C fE fL fS f : Addr} {fd : FuncData} {ps ks : List Str} {sp : SpP} {sr : SpR} {a b e : Expr} {es : List Expr} {ta tb : TEp} {t tk : TAp} {pos p : Pos} {x : Str} {kws : List Keyword}
def tStrOP (C : Addr) (sp : SpP) (t : TAp) : TEp := fun η P => t η fun xs η1 => ∃ fs, xs = [.ins C fs] ∧ sp [.ins C fs] fun z => (∃ y, z = .str y) ∧ P z η1
theorem z_strO (o : OwnC X.K C fE fL fS) (hc : CallR X (.type "str") (rStrO C (upSp X.K T sp))) (hg : Gl X x) (hm : X.mg x = none) (hv : bootBuiltins x = some (.type "str")) (ha : PA X (e :: es) (upA X.K T t)) (hn : x ≠ "__name__" := by decide) (hdb : (x == ("__debug__" : Str)) = false := by decide)
  (he : starEach (e :: es) X.env = (false, eval e X.env) :: starEach es X.env := by rfl) (hpl : (backTo pos (starEach es X.env)).any (·.1) = false := by rfl) : PE X (.Call (.Name x p) (e :: es) [] pos) (up X.K T (tStrOP C sp t)) := by
 refine PE.weak (pe_callTy hc hg hm hv ha hn hdb he hpl) fun σ H Q q => ?_
 obtain ⟨F, η, P, R, h, kk⟩ := q
 refine ⟨F, η, _, R, h, fun xs η1 v H1 h1 e1 R1 r1 => ?_⟩
 obtain ⟨fs, rfl, h1⟩ := h1
 obtain ⟨v1, rfl, r2⟩ := r1.one
 obtain ⟨a', dx, ws, rfl, na, q', rr⟩ := id r2.ins_
 exact ⟨a', dx, ws, rfl, q', Oof F σ η1, _, _, R1.trO, R1.tb, .cons r2 .nil, h1, fun z v H3 ⟨⟨y, ez⟩, pz⟩ g tb rz => ⟨y, by rw [ez] at rz; exact rz.str_, kk _ η1 _ H3 pz (e1.trans g.ext) (R1.gr g tb) rz⟩⟩
end
def LowS (x : Str) : Prop := ∀ c ∈ x.cps.toList, 97 ≤ c ∧ c ≤ 122
abbrev Row3 := Str × Int × Int
structure GoodR (r : Row3) : Prop where
 low : LowS r.1
 s0 : 0 ≤ r.2.1
 e0 : 0 ≤ r.2.2
end Z
namespace Z
open PySem PySem.Spec L2 StX
open PyProof.Rows hiding St
section
variable {X : Cx} {T : List (Addr × Str)} {e : Expr} {es : List Expr} {te : TEp} {t : TAp} {pos p : Pos}
def tStarP (te : TEp) (t : TAp) : TAp := fun η P => te η fun x η1 => match x with
 | .lst xs => t η1 fun ys η2 => P (xs ++ ys) η2
 | .tup xs => t η1 fun ys η2 => P (xs ++ ys) η2
 | _ => False
theorem za_star (he : PE X e (up X.K T te)) (hr : PA X es (upA X.K T t)) (hs : starEach (.Starred e p :: es) X.env = (true, eval e X.env) :: starEach es X.env := by rfl) : PA X (.Starred e p :: es) (upA X.K T (tStarP te t)) := by
 refine PA.weak (pa_star he hr hs) fun σ H Q q => ?_
 obtain ⟨F, η, P, R, h, k⟩ := q
 refine ⟨F, η, _, R, h, fun x η1 v H1 h1 e1 R1 r1 => ?_⟩
 split at h1
 ·obtain ⟨a, vs, rfl, n, q, rr⟩ := r1.lst_
  exact ⟨a, vs, rfl, .inr (SqL.of q), F, η1, _, R1, h1, fun ys η2 ws H2 h2 e2 R2 r2 => k _ η2 _ H2 h2 (e1.trans e2) R2 ((rr.car e2.car).app r2)⟩
 ·obtain ⟨a, vs, rfl, q, rr⟩ := r1.tup_
  exact ⟨a, vs, rfl, .inl q.sq, F, η1, _, R1, h1, fun ys η2 ws H2 h2 e2 R2 r2 => k _ η2 _ H2 h2 (e1.trans e2) R2 ((rr.car e2.car).app r2)⟩
 ·cases h1
def tFmtP (te : TEp) : TEp := fun η P => te η fun x η1 => match x with
 | .str y => y.length ≤ sizeLine ∧ P (.str y) η1
 | .int i => i.natAbs.log2 < 1920 ∧ P (.str (toString i)) η1
 | _ => False
theorem z_fmt (he : PE X e (up X.K T te)) : PE X (.FormattedValue e (-1) none pos) (up X.K T (tFmtP te)) := by
 refine PE.weak (pe_fmt he) fun σ H Q q => ?_
 obtain ⟨F, η, P, R, h, k⟩ := q
 refine ⟨F, η, _, R, h, fun x η1 v H1 h1 e1 R1 r1 => ?_⟩
 split at h1
 ·exact .inl ⟨_, r1.str_, h1.1, k _ η1 _ H1 h1.2 e1 R1 (by unfold Rep; rfl)⟩
 ·exact .inr ⟨_, r1.int_, h1.1, k _ η1 _ H1 h1.2 e1 R1 (by unfold Rep; rfl)⟩
 ·cases h1
def tJsP : List TEp → Str → EP' → (Str → EP' → Prop) → Prop
 | [], acc, η, P => P acc η
 | t :: ts, acc, η, P => t η fun x η1 => ∃ y : Str, x = .str y ∧ (acc ++ y).length ≤ sizeLine ∧ tJsP ts (acc ++ y) η1 P
def tJoinedP (ts : List TEp) : TEp := fun η P => tJsP ts Str.empty η fun out η' => P (.str out) η'
theorem js_up {K : PySem.W.Frag} {F : Addr → Prop} {σ : St} : ∀ (ts : List TEp) (acc : Str) (η : EP') (H : Hp) (P : Str → EP' → Prop) (Q : Str → Hp → Prop), Rs K T F σ η H → tJsP ts acc η P →
  (∀ out η' H', P out η' → Ext σ η σ η' H H' → Rs K T F σ η' H' → Q out H') → tJs (ts.map (up K T)) acc σ H Q
 | [], acc, η, H, P, Q, R, h, k => k acc η H h .refl R
 | t :: ts, acc, η, H, P, Q, R, h, k => by
  refine ⟨F, η, _, R, h, fun x η1 v H1 h1 e1 R1 r1 => ?_⟩
  obtain ⟨y, rfl, hz, h1⟩ := h1
  exact ⟨y, r1.str_, hz, js_up ts _ η1 H1 P Q R1 h1 fun out η' H' p e2 R2 => k out η' H' p (e1.trans e2) R2⟩
theorem z_js {v1 v2 : Expr} {rest : List Expr} {ts : List TEp} (h : PJ X (v1 :: v2 :: rest) (ts.map (up X.K T))) : PE X (.JoinedStr (v1 :: v2 :: rest) pos) (up X.K T (tJoinedP ts)) := by
 refine PE.weak (pe_joined h) fun σ H Q q => ?_
 obtain ⟨F, η, P, R, h, k⟩ := q
 exact js_up ts Str.empty η H _ _ R h fun out η' H' p e1 R1 => k _ η' _ H' p e1 R1 (by unfold Rep; rfl)
def rSlA : PV → Option Int → Option Int → (PV → Prop) → Prop := fun x lo hi P => match x with
 | .tup xs => P (.tup (cutP xs lo hi))
 | _ => False
theorem cut_whole {α : Type} {xs : List α} {lo hi : Option Int} (h : HT.sIx xs.length 0 lo = 0 ∧ HT.sIx xs.length xs.length hi = xs.length) : cutP xs lo hi = xs := by
 unfold cutP
 rw [h.1, h.2, List.drop_zero, Nat.sub_zero, List.take_length]
theorem zl_slA : SlR X (fun x lo hi H Q => ∃ O px P, Trk O H ∧ Rep X.K O H px x ∧ rSlA px lo hi P ∧ Out X.K O H P Q) := by
 refine SlR.weak (sl_tupA (X := X)) fun x lo hi H Q h => ?_
 obtain ⟨O, px, P, tr, hx, h, k⟩ := h
 unfold rSlA at h
 split at h
 ·rename_i xs
  have hx' := hx
  obtain ⟨a, vs, rfl, q, rr⟩ := hx.tup_
  refine ⟨a, vs, rfl, q.sq, fun w => ?_, fun _ p hp => k.newT h tr (cut_reps rr) hp⟩
  rw [rr.len] at w
  rw [cut_whole w] at h
  exact k _ _ H h (fun _ _ z => z) hx'
 ·cases h
def tSliceAP (te : TEp) (tl th : TOp) : TEp := fun η P => te η fun x η1 => tl η1 fun l η2 => th η2 fun u η3 => rSlA x l u fun z => P z η3
theorem z_sliceA {lo hi : Option Expr} {tl th : TOp} {p2 : Pos} (he : PE X e (up X.K T te)) (hl : PO X lo (upO X.K T tl)) (hu : PO X hi (upO X.K T th)) : PE X (.Subscript e (.Slice lo hi none p2) pos) (up X.K T (tSliceAP te tl th)) := by
 refine PE.weak (pe_slice zl_slA he hl hu) fun σ H Q q => ?_
 obtain ⟨F, η, P, R, h, k⟩ := q
 refine ⟨F, η, _, R, h, fun x η1 v H1 h1 e1 R1 r1' => ⟨F, η1, _, R1, h1, fun l η2 H2 h2 e2 R2' => ⟨F, η2, _, R2', h2, fun u η3 H3 h3 e3 R3 => ?_⟩⟩⟩
 exact ⟨Oof F σ η3, x, _, R3.trO, (r1'.car e2.car).car e3.car, h3, fun z u H4 pz s rz => k z η3 u H4 pz (((e1.trans e2).trans e3).trans (.same s)) (R3.same s) rz⟩
end
theorem reps_rev {K : PySem.W.Frag} {O : Addr → Prop} {H : Hp} : ∀ {zs : List PV} {vs : List V}, Reps K O H zs vs → Reps K O H zs.reverse vs.reverse
 | [], _, h => by cases h.inv0; exact .nil
 | x :: xs, _, h => by
  obtain ⟨v, us, rfl, r, t⟩ := h.inv
  rw [List.reverse_cons, List.reverse_cons]
  exact (reps_rev t).app (.cons r .nil)
theorem val_weak {K : PySem.W.Frag} {T : List (Addr × Str)} {tf : TFp} {σ : St} {H : Hp} {Q : VK} (q : up K T (tValP tf) σ H Q) : upF K T tf σ H Q := by
 obtain ⟨F, η, P, R, h, k⟩ := q
 refine ⟨F, η, _, R, h, fun xs η' a vs H' h1 e1 R1 hn nf hv r => ?_⟩
 refine k _ _ _ _ h1 e1 (R1.shrink fun b z => .inl z) ?_
 unfold Rep
 refine ⟨a, vs, rfl, fun z => ?_, hv, r.mono fun b z => z.elim (fun z => .inl (.inl z)) .inr⟩
 rcases z with z | ⟨j, p, h1, h2⟩
 ·exact nf z
 ·obtain ⟨b, q1, q2, q3⟩ := R1.ow j p h2
  rw [h1] at q1; cases q1
  exact q3 (.inr rfl)
theorem z_setLc {X : Cx} {T : List (Addr × Str)} {y : Str} {py : Pos} {elt tg iter : Expr} {ifs : List Expr} {scope : Scope} {own : List (Str × Nat)} {pos spos : Pos} {i : Nat} {ti : TIp} {g : TGp} {tt : TTp} {te : TEp}
  (pf : PS X (.Assign [.Name y py] (.ListComp elt [⟨tg, iter, ifs, 0⟩] scope pos) spos) (tAsg (tLc (upI X.K T ti) (upGw X.K T (own.map (·.2)) g) (upB X.K T tt) (up X.K T te) (own.map (·.2))) (gName i))) :
  PS X (.Assign [.Name y py] (.ListComp elt [⟨tg, iter, ifs, 0⟩] scope pos) spos) (upS X.K T (tSetP i (tValP (tLcP ti g tt te (own.map (·.2)))))) := by
 refine PS.weak pf fun D σ H q => lc_weak (val_weak ?_)
 obtain ⟨F, η, D', R, h, k1, k2, k3, k4⟩ := q
 exact ⟨F, η, _, R, h, fun x η1 v H1 h1 e1 R1 r => k1 _ _ _ h1 (e1.trans .setv) (R1.setv r)⟩
end Z
namespace Z
open PySem PySem.Spec L2 GenW
open PyProof.Rows hiding St
end Z
namespace Z
open PySem PySem.Spec L2 GenW
open PyProof.Rows hiding St
end Z
namespace Z
open PySem PySem.Spec L2 StX
open PyProof.Rows hiding St
def flV : PV → Option V
 | .non => some .non
 | .bl b => some (.bl b)
 | .int i => some (.int i)
 | .str z => some (.str z)
 | _ => none
def flVs : List PV → Option (List V)
 | [] => some []
 | x :: r => (flV x).bind fun v => (flVs r).map (v :: ·)
theorem flV_rep {K : PySem.W.Frag} {O : Addr → Prop} {H : Hp} {x : PV} {v w : V} (h : Rep K O H x v) (e : flV x = some w) : v = w ∧ flatV w = true := by
 cases x <;> unfold flV at e <;> cases e
 ·exact ⟨h.non_, rfl⟩
 ·exact ⟨h.bl_, rfl⟩
 ·exact ⟨h.int_, rfl⟩
 ·exact ⟨h.str_, rfl⟩
theorem flVs_rep {K : PySem.W.Frag} {O : Addr → Prop} {H : Hp} : ∀ {xs : List PV} {vs ws : List V}, Reps K O H xs vs → flVs xs = some ws → vs = ws ∧ ws.all flatV = true
 | [], _, _, r, e => by cases r.inv0; cases e; exact ⟨rfl, rfl⟩
 | x :: xs, _, ws, r, e => by
  obtain ⟨v, vs, rfl, r1, r2⟩ := r.inv
  rw [flVs] at e
  obtain ⟨u, e1, e2⟩ := Option.bind_eq_some_iff.mp e
  obtain ⟨us, e3, rfl⟩ := Option.map_eq_some_iff.mp e2
  obtain ⟨a1, a2⟩ := flV_rep r1 e1
  obtain ⟨b1, b2⟩ := flVs_rep r2 e3
  exact ⟨by rw [a1, b1], by rw [List.all_cons, a2, b2]; rfl⟩
def itemsOf : PV → Option (List PV)
 | .lst xs => some xs
 | .tup xs => some xs
 | _ => none
def rInL (neg : Bool) : R2p := fun x y P => ∃ v ys vs, flV x = some v ∧ itemsOf y = some ys ∧ flVs ys = some vs ∧ P (.bl (if neg then !inV v vs else inV v vs))
section
variable {X : Cx}
theorem inL_raw {neg : Bool} : ∀ x y H Q, r2 X.K (rInL neg) x y H Q → rIn X.K neg x y H Q := fun x y H Q h => by
 obtain ⟨O, px, py, P, tr, hx, hy, ⟨v, ys, vs, e1, e2, e3, h⟩, k⟩ := h
 obtain ⟨rfl, f1⟩ := flV_rep hx e1
 cases py <;> unfold itemsOf at e2 <;> cases e2
 ·obtain ⟨a, us, rfl, q, rr⟩ := hy.tup_
  obtain ⟨rfl, f2⟩ := flVs_rep rr e3
  exact ⟨a, us, rfl, .inr q.sq, f1, f2, k.bl h⟩
 ·obtain ⟨a, us, rfl, n, q, rr⟩ := hy.lst_
  obtain ⟨rfl, f2⟩ := flVs_rep rr e3
  exact ⟨a, us, rfl, .inl (SqL.of q), f1, f2, k.bl h⟩
theorem zo_inL : OpR X (compareOp .In) (r2 X.K (rInL false)) := OpR.weak (op_in_seq (X := X)) inL_raw
theorem zo_notInL : OpR X (compareOp .NotIn) (r2 X.K (rInL true)) := OpR.weak (op_notIn_seq (X := X)) inL_raw
end
end Z
namespace Z
open PySem PySem.Spec L2 StX
open PyProof.Rows hiding St
end Z
namespace Z
open PySem PySem.Spec L2 StX
open PyProof.Rows hiding St
def pick {α : Type} (is : List Nat) (xs : List α) : List α := is.filterMap fun i => xs[i]?
theorem vals_get : ∀ {zs : List V} {ws : List Value} {i : Nat}, Vals zs ws → (zs[i]? = none ∧ ws[i]? = none) ∨ ∃ z w, zs[i]? = some z ∧ ws[i]? = some w ∧ RelV z w
 | _, _, i, .nil => .inl ⟨by simp, by simp⟩
 | _, _, 0, .cons r t => .inr ⟨_, _, rfl, rfl, r⟩
 | _, _, i + 1, .cons r t => by
  simpa using vals_get (i := i) t
theorem vals_pick : ∀ (is : List Nat) {zs : List V} {ws : List Value}, Vals zs ws → Vals (pick is zs) (pick is ws)
 | [], _, _, _ => .nil
 | i :: is, zs, ws, h => by
  unfold pick
  rcases vals_get (i := i) h with ⟨h1, h2⟩ | ⟨z, w, h1, h2, r⟩
  ·rw [List.filterMap_cons_none h1, List.filterMap_cons_none h2]; exact vals_pick is h
  ·rw [List.filterMap_cons_some h1, List.filterMap_cons_some h2]; exact .cons r (vals_pick is h)
theorem reps_pick {K : PySem.W.Frag} {O : Addr → Prop} {H : Hp} : ∀ (is : List Nat) {zs : List PV} {vs : List V}, Reps K O H zs vs → Reps K O H (pick is zs) (pick is vs)
 | [], _, _, _ => .nil
 | i :: is, zs, vs, h => by
  unfold pick
  cases e : zs[i]? with
  | some x =>
   obtain ⟨v, h1, h2⟩ := h.get e
   rw [List.filterMap_cons_some e, List.filterMap_cons_some h1]
   exact .cons h2 (reps_pick is h)
  | none =>
   have e2 : vs[i]? = none := by
    rw [List.getElem?_eq_none_iff] at e ⊢
    rw [h.len]; exact e
   rw [List.filterMap_cons_none e, List.filterMap_cons_none e2]
   exact reps_pick is h
structure KwB (K : PySem.W.Frag) (fd : FuncData) (ps : List Str) (n : Nat) (ks : List Str) (is : List Nat) : Prop where
 to : ∀ (s : Shared) (us ws : List Value), K.In s.heap → us.length = n → ws.length = ks.length → BindsTo s fd ⟨us, ks.zip ws⟩ (ps.zip (us ++ pick is ws))
 ln : n + is.length = ps.length ∧ ∀ i ∈ is, i < ks.length
def tCallKV (sp : Sp) (n nk : Nat) (is : List Nat) (E : XK) (t tk : TA) : TE := fun σ H Q => t σ H fun vs H1 => tk σ H1 fun zs H2 => vs.length = n ∧ zs.length = nk ∧ sp (vs ++ pick is zs) H2 Q E
section
variable {X : Cx} {CX : CXT} {k n : Nat} {f : Addr} {fd : FuncData} {ps ks : List Str} {sp : Sp} {E : XK} {is : List Nat}
theorem run_kw {pins : List (Addr × Obj)} {σ : St} {H : Hp} {s : Shared} {Q : VK} {us ws : List Value} {vs zs : List V} (F : FnOk X.prog X.w X.K X.mg X.base CX k f fd ps sp) (hr : Room k X.A) (hb : KwB X.K fd ps n ks is) (hx : Passes CX X E)
  (I : Inv X pins σ H s) (r : Vals vs us) (rz : Vals zs ws) (l1 : vs.length = n) (l2 : zs.length = ks.length) (h : sp (vs ++ pick is zs) H Q E) : wpAny (model X.prog X.w) X.A (call (.ref f) us (ks.zip ws)) (EP X pins σ Q) X.xe s := by
 have b := hb.to s us ws I.kIn (by rw [← r.length]; exact l1) (by rw [← rz.length]; exact l2)
 refine wpAny_call (codeAny_mono (F.run X.A X.stack s H ⟨us, ks.zip ws⟩ (us ++ pick is ws) (vs ++ pick is zs) Q E hr I.env0 b (r.append (vals_pick is rz)) h) fun q s' hq => ?_)
 cases q with
 | error e => exact hx pins σ H s e s' I hq
 | ok z =>
  cases z with
  | ret u => exact I.after hq
  | next => exact hq.elim
  | brk => exact hq.elim
  | cont => exact hq.elim
end
section
variable {X : Cx} {CX : CXT} {k n : Nat} {C f : Addr} {sp : Sp} {E : XK} {o e : Expr} {es : List Expr} {m x : Str} {pos apos p : Pos} {ta : TE} {t tk : TA} {pl : Sem Bool} {fd : FuncData} {ps ks : List Str} {kws : List Keyword} {is : List Nat}
theorem pe_callKw0 (F : FnOk X.prog X.w X.K X.mg X.base CX k f fd ps sp) (hr : Room k X.A) (hg : Gl X x) (hm : X.mg x = some (.ref f)) (hk : PySem.W.keepIn X.K (.ref f) = true) (hb : KwB X.K fd ps 0 ks is) (hx : Passes CX X E) (hkw : PK X kws tk)
  (hall : (backToKw pos (keywordEach kws X.env)).all (·.1.isSome) = true := by rfl) (hks : (backToKw pos (keywordEach kws X.env)).filterMap (·.1) = ks := by rfl) (hdb : (x == ("__debug__" : Str)) = false := by decide)
  (hpl : ((backTo pos (starEach [] X.env)).any (·.1) || (backToKw pos (keywordEach kws X.env)).any (·.1.isNone)) = false := by rfl) :
  PE X (.Call (.Name x p) [] kws pos) (tCallKV sp 0 ks.length is E tNil tk) := by
 refine ⟨fun pins s σ H Q I h => wpAny_Call_Name_kw (ld_glob I hg hm ?_ hdb)⟩
 refine PySem.W.callWith_KW0 (h₀ := X.base) (first := []) I.ok.mod.kin hk hall (thn (hkw.run pos pins s σ H _ I h) fun ws s2 ⟨zs, H2, I2, rz, _, l2, q2⟩ => ⟨I2.kIn, ?_⟩) hpl
 rw [hks]
 exact run_kw (us := []) (vs := []) F hr hb hx I2 .nil rz rfl l2 q2
end
end Z
namespace Z
open PySem
open Sem (wp)
def stung : GenState → GenState
 | .suspended _ l c p fs _ => .suspended (fun _ => .unsupported "") l c p fs false
 | x => x
def sleeps : GenState → Bool
 | .suspended .. => true
 | _ => false
def isGenF : Frame → Bool
 | .gen .. => true
 | _ => false
def NoG (fs : List Frame) : Prop := ∀ F ∈ fs, isGenF F = false
def NoGS : GenState → Prop
 | .suspended _ _ _ _ fs _ => NoG fs
 | _ => True
def pickG (y : Option GenState) (x : GenState) : GenState := match y with
 | some y => if sleeps y = true then y else x
 | none => x
def un (G : Array GenState) (s : Shared) : Shared := { s with gens := s.gens.mapIdx fun i x => pickG G[i]? x }
structure Good (G : Array GenState) (s : Shared) : Prop where
 sz : G.size ≤ s.gens.size
 sl : ∀ (i : Nat) (y : GenState), G[i]? = some y → sleeps y = true → s.gens[i]? = some (stung y)
 no : ∀ (i : Nat) (x : GenState), (∀ y, G[i]? = some y → sleeps y = false) → s.gens[i]? = some x → NoGS x
section
variable {G : Array GenState} {s : Shared}
theorem Good.of {s' : Shared} (g : Good G s) (e : s'.gens = s.gens) : Good G s' := ⟨by rw [e]; exact g.sz, by rw [e]; exact g.sl, by rw [e]; exact g.no⟩
end
end Z
namespace Z
open PySem L2
open Sem (wp)
open PyProof.Rows hiding St
section
variable {M : Model} {G : Array GenState}
def Still (G : Array GenState) (s : Shared) : Prop := ∀ (i : Nat) (y : GenState), G[i]? = some y → sleeps y = true → s.gens[i]? = some y
end
end Z
namespace Z
open PySem PySem.Spec L2 GenW
open PyProof.Rows hiding St
structure WRel (it L : Addr) (s0 s : Shared) : Prop where
 os : s.os = s0.os
 gens : s.gens = s0.gens
 keep : ∀ b o, b ≠ it → b ≠ L → s0.heap.get? b = some o → s.heap.get? b = some o
def TupQ (qs : List V) (q : Addr) (h : Heap) : Prop := ∃ its : List Value, Vals qs its ∧ h.IsTuple q its.toArray
structure WAt (it L q : Addr) (i : Nat) (h : Heap) : Prop where
 ns : ∃ m, h.Ns L m
 it : h.IsTupleIter it q i
def YW (it L q : Addr) (qs : List V) (N : Nat) : Protocol := fun n s0 v s1 kap =>
 ∃ i x, n + (i + 1) = N ∧ qs[i]? = some x ∧ RelV x v ∧ WRel it L s0 s1 ∧ WAt it L q (i + 1) s1.heap ∧ ∀ s'', WAt it L q (i + 1) s''.heap → TupQ qs q s''.heap → kap (.send .none) s'' ∧ kap (.send (.bool true)) s''
def FW (it L : Addr) (qs : List V) (N n : Nat) (s0 s1 : Shared) : Prop := N = n + qs.length ∧ WRel it L s0 s1
def RW (it L : Addr) (qs : List V) (N : Nat) : GenEnd := fun n s0 r s1 => ((r = .ok (.ret .none) ∨ r = .ok .next) ∧ FW it L qs N n s0 s1) ∨ ∃ e, r = .error e ∧ False
theorem WRel.refl {it L : Addr} {s : Shared} : WRel it L s s := ⟨rfl, rfl, fun _ _ _ _ e => e⟩
theorem WRel.trans {it L : Addr} {s0 s1 s2 : Shared} (a : WRel it L s0 s1) (b : WRel it L s1 s2) : WRel it L s0 s2 := ⟨b.os.trans a.os, b.gens.trans a.gens, fun c o h1 h2 e => b.keep c o h1 h2 (a.keep c o h1 h2 e)⟩
theorem WRel.toks {it L : Addr} {s0 s : Shared} {t : Nat} (a : WRel it L s0 s) : WRel it L s0 { s with toks := t } := ⟨a.os, a.gens, a.keep⟩
section
variable {prog : Program} {w : World} {A : Around} {env : Env} {it L q : Addr} {qs : List V} {p1 p2 p3 p4 p5 p6 p7 : Pos}
abbrev wBody (p4 p5 p6 : Pos) : List Stmt := [.Expr (.Yield (some (.Name "row" p4)) p5) p6]
abbrev wFor (p1 p2 p3 p4 p5 p6 p7 : Pos) (f : Str) : Stmt := .For (.Name "row" p1) (.Attribute (.Name "self" p2) f p3) (wBody p4 p5 p6) [] p7
end
end Z
namespace Z
open PySem PySem.Spec L2 GenW
open PyProof.Rows hiding St
section
variable {P : Program} {w : World} {A : Around} {a it L q : Addr} {g : Nat} {qs : List V}
structure GAt (P : Program) (w : World) (A : Around) (a it L q : Addr) (g : Nat) (qs : List V) (i : Nat) (s : Shared) : Prop where
 gs : ∃ gs : GenState, s.gens[g]? = some gs ∧ sleeps gs = true ∧ gs.bare = true ∧ ∀ s'', WAt it L q i s''.heap → TupQ qs q s''.heap → gs.Goes (model P w) A.in1 (RW it L qs qs.length) (YW it L q qs qs.length) (qs.length - i) (.send .none) s''
 at_ : WAt it L q i s.heap
 gen : s.heap.IsGen a g
structure GStep (it L : Addr) (g : Nat) (s s1 : Shared) : Prop where
 os : s1.os = s.os
 bare : AllBare s.gens → AllBare s1.gens
 keep : ∀ b o, b ≠ it → b ≠ L → s.heap.get? b = some o → s1.heap.get? b = some o
end
end Z
set_option maxHeartbeats 1000000
namespace Z
open PySem PySem.Spec L2 GenW
open PyProof.Rows hiding St
structure WNew (P : Program) (w : World) (fl : Str) (o a L : Addr) (g : Nat) (s : Shared) : Prop where
 gen : s.heap.IsGen a g
 gs : ∃ env p1 p2 p3 p4 p5 p6 p7, s.gens[g]? = some (.fresh (.func [wFor p1 p2 p3 p4 p5 p6 p7 fl] env)) ∧ env.scope.kind = .function ∧ env.kindOf "self" = some .local ∧ env.kindOf "row" = some .local ∧ env.scope.isCoroutine = false ∧
  interactive env = false ∧ env.locals = L ∧ attributeBase (.Name "self" p2) fl env (eval (.Name "self" p2) env) = eval (.Name "self" p2) env
 ns : ∃ m, s.heap.Ns L m ∧ m "self" = some (.ref o)
structure WMade (P : Program) (w : World) (fl : Str) (o : Addr) (s : Shared) (u : Value) (s' : Shared) : Prop where
 ex : ∃ a L g, u = .ref a ∧ s.heap.objs.size ≤ a ∧ s.heap.objs.size ≤ L ∧ WNew P w fl o a L g s'
 os : s'.os = s.os
 bare : AllBare s'.gens
 keep : ∀ b ob, s.heap.get? b = some ob → s'.heap.get? b = some ob
structure WFn (P : Program) (w : World) (K : PySem.W.Frag) (mg : Str → Option Value) (base : Heap) (k : Nat) (f : Addr) (fd : FuncData) (fl : Str) : Prop where
 run : ∀ (A : Around) (outer : List Env) (s : Shared) (H : Hp) (args : Args) (o : Addr), Room k A → Env0 P w K mg base A outer s H → BindsTo s fd args (([("self" : Str)]).zip [Value.ref o]) →
  codeAny (model P w) A (.call (.ref f) args) (fun r s' => match r with | .ok (.ret u) => WMade P w fl o s u s' | _ => False) s
section
variable {X : Cx} {k : Nat} {C f : Addr} {fd : FuncData} {fl m : Str} {o : Expr} {ta : TE} {pos' apos : Pos}
structure PWk (X : Cx) (C : Addr) (fl : Str) (e : Expr) (tw : St → Hp → (Addr → Addr → List V → Hp → Prop) → Prop) : Prop where
 run : ∀ (pins : List (Addr × Obj)) (s : Shared) (σ : L2.St) (H : Hp) (R : Addr → Addr → List V → Hp → Prop), Inv X pins σ H s → tw σ H R → wpAny (model X.prog X.w) X.A (eval e X.env)
  (fun u s' => ∃ o q qs H1 a L g, u = .ref a ∧ Inv X pins σ H1 s' ∧ FpOk X pins H1 a ∧ FpOk X pins H1 L ∧ WNew X.prog X.w fl o a L g s' ∧ (∃ dx fs, H1 o = some (.ins C dx fs) ∧ fs.lookup fl = some (.ref q)) ∧ SqT X.K H1 q qs ∧ qs.length < 1000 ∧ R o q qs H1) X.xe s
end
end Z
namespace Z
open PySem PySem.Spec L2 GenW
open PyProof.Rows hiding St
section
variable {X : Cx} {C : Addr} {fl : Str} {e : Expr} {tw : St → Hp → (Addr → Addr → List V → Hp → Prop) → Prop}
theorem Still.trans {G : Array GenState} {s s' : Shared} (h : Still G s) (k : Still s.gens s') : Still G s' := fun i y e z => k i y (h i y e z) z
end
end Z
namespace Z
open PySem PySem.Spec L2 GenW
open PyProof.Rows hiding St
end Z
namespace Z
open PySem PySem.Spec L2 GenW
open PyProof.Rows hiding St
end Z
namespace Z
open PySem PySem.Spec L2
open PyProof.Rows hiding St
section
variable {X : Cx}
end
end Z
namespace Z
open PySem PySem.Spec L2 HT
open PyProof.Rows hiding St
end Z
namespace Z
open PySem PySem.Spec L2
open PyProof.Rows hiding St
end Z
namespace Z
open PySem PySem.Spec L2
open PyProof.Rows hiding St
def zipP (xs ys : List PV) : List PV := List.zipWith (fun x y => PV.tup [x, y]) xs ys
theorem zipP_get {xs ys : List PV} {i : Nat} {z : PV} (h : (zipP xs ys)[i]? = some z) : ∃ x y, xs[i]? = some x ∧ ys[i]? = some y ∧ z = .tup [x, y] := by
 unfold zipP at h
 rw [List.getElem?_zipWith] at h
 cases p : xs[i]? with
 | none => rw [p] at h; cases h
 | some x =>
  cases q : ys[i]? with
  | none => rw [p, q] at h; cases h
  | some y => rw [p, q] at h; exact ⟨x, y, rfl, rfl, (Option.some.inj h).symm⟩
theorem zipP_end {xs ys : List PV} {i : Nat} (h : (zipP xs ys).length = i) : xs.length ≤ i ∨ ys.length ≤ i := by
 unfold zipP at h
 rw [List.length_zipWith] at h
 omega
section
variable {X : Cx} {T : List (Addr × Str)} {e e2 tg : Expr} {te : TEp} {t : TAp}
theorem it_zipT {K : PySem.W.Frag} {O H} {a b : Addr} {xs ys : List PV} {vs us : List V} (t1 : TupAt K O H a vs) (t2 : TupAt K O H b us) (r1 : Reps K O H xs vs) (r2 : Reps K O H ys us) : Itr8 K O (RZ.ItzT K a b) (zipP xs ys) H := fun O' H' tr c _ i => by
 have h1 := t1.inj_car c
 have h2 := t2.inj_car c
 have s1 := r1.car c
 have s2 := r2.car c
 refine ⟨fun z e => ?_, fun e => ⟨vs, us, h1, h2, by rw [s1.len, s2.len]; exact zipP_end e⟩⟩
 obtain ⟨x, y, hx, hy, rfl⟩ := zipP_get e
 obtain ⟨v, e1, q1⟩ := s1.get hx
 obtain ⟨u, e2, q2⟩ := s2.get hy
 refine ⟨⟨vs, us, v, u, h1, h2, e1, e2⟩, fun w H'' q => ?_⟩
 obtain ⟨p, x', y', rfl, hp, rfl, kx, ky⟩ := q
 have k1 := kx vs h1
 have k2 := ky us h2
 rw [e1] at k1; cases k1
 rw [e2] at k2; cases k2
 exact ⟨Same.new hp, rep_newT tr hp (.cons q1 (.cons q2 .nil))⟩
theorem it_zipL {K : PySem.W.Frag} {O H} {a b : Addr} {xs ys : List PV} {vs us : List V} (n1 : ¬ O a) (t1 : H a = some (.lst vs)) (n2 : ¬ O b) (t2 : H b = some (.lst us)) (r1 : Reps K O H xs vs) (r2 : Reps K O H ys us) : Itr8 K O (Itz K a b) (zipP xs ys) H := fun O' H' tr c _ i => by
 have h1 : SqL K H' a vs := SqL.of (c a _ n1 t1 nofun).1
 have h2 : SqL K H' b us := SqL.of (c b _ n2 t2 nofun).1
 have s1 := r1.car c
 have s2 := r2.car c
 refine ⟨fun z e => ?_, fun e => ⟨vs, us, h1, h2, by rw [s1.len, s2.len]; exact zipP_end e⟩⟩
 obtain ⟨x, y, hx, hy, rfl⟩ := zipP_get e
 obtain ⟨v, e1, q1⟩ := s1.get hx
 obtain ⟨u, e2, q2⟩ := s2.get hy
 refine ⟨⟨vs, us, v, u, h1, h2, e1, e2⟩, fun w H'' q => ?_⟩
 obtain ⟨p, x', y', rfl, hp, rfl, kx, ky⟩ := q
 have k1 := kx vs h1
 have k2 := ky us h2
 rw [e1] at k1; cases k1
 rw [e2] at k2; cases k2
 exact ⟨Same.new hp, rep_newT tr hp (.cons q1 (.cons q2 .nil))⟩
def iZipP (t : TAp) : TIp := fun η P => t η fun zs η1 => match zs with
 | [.tup xs, .tup ys] => P (zipP xs ys) η1
 | [.lst xs, .lst ys] => P (zipP xs ys) η1
 | _ => False
theorem zi_zip {p pos tpos : Pos} {elts : List Expr} {kk : Nat} (hg : Gl X "zip") (hm : X.mg "zip" = none) (ha : PA X [e, e2] (upA X.K T t))
  (hs : starEach [e, e2] X.env = (false, eval e X.env) :: starEach [e2] X.env := by rfl) (hpl : (backTo pos (starEach [e2] X.env)).any (·.1) = false := by rfl) :
  PI X (.Tuple elts kk tpos) (.Call (.Name "zip" p) [e, e2] [] pos) (upI X.K T (iZipP t)) := by
 refine PI.weak (RZ.pi_zipA hg hm ha hs hpl) fun σ H Q q => ?_
 obtain ⟨F, η, P, R, h, k⟩ := q
 refine ⟨F, η, _, R, h, fun zs η1 vs H1 h1 e1 R1 r1 => ?_⟩
 split at h1
 ·obtain ⟨v, w, rfl, ra, rb⟩ := r1.two
  obtain ⟨a, vs, rfl, q, rr⟩ := ra.tup_
  obtain ⟨b, us, rfl, q2, rr2⟩ := rb.tup_
  exact ⟨a, b, vs, us, rfl, .inr ⟨q.sq, q2.sq, k _ _ _ _ h1 e1 R1 (it_zipT q q2 rr rr2)⟩⟩
 ·obtain ⟨v, w, rfl, ra, rb⟩ := r1.two
  obtain ⟨a, vs, rfl, n, q, rr⟩ := ra.lst_
  obtain ⟨b, us, rfl, n2, q2, rr2⟩ := rb.lst_
  exact ⟨a, b, vs, us, rfl, .inl ⟨SqL.of q, SqL.of q2, k _ _ _ _ h1 e1 R1 (it_zipL n q n2 q2 rr rr2)⟩⟩
 ·cases h1
end
end Z
namespace Z
open PySem PySem.Spec L2
open PyProof.Rows hiding St
end Z
namespace Z
open PySem PySem.Spec L2
open PyProof.Rows hiding St
section
variable {X : Cx} {T : List (Addr × Str)} {e : Expr} {es : List Expr} {te ta : TEp} {t : TAp} {pos p : Pos} {k : Nat} {f : Addr} {fd : FuncData} {ps : List Str} {x : Str} {i : Nat}
def upAO (K : PySem.W.Frag) (T : List (Addr × Str)) (t : TAp) (i : Nat) : TA := fun σ H Q => ∃ F η P, Rs K T F σ η H ∧ t η P ∧ ∀ xs η' vs H', P xs η' → Ext σ η σ η' H H' → Rs K T F σ η' H' → Reps K (Oof F σ η') H' xs vs → ∃ a, σ[i]? = some (some (V.ref a)) ∧ Q (vs ++ [.ref a]) H'
theorem zo_last (h : PE X e (tVar i)) (hs : starEach [e] X.env = (false, eval e X.env) :: starEach [] X.env := by rfl) : PA X [e] (upAO X.K T tNilP i) := by
 refine PA.weak (pa_cons h pa_nil hs) fun σ H Q q => ?_
 obtain ⟨F, η, P, R, h, k⟩ := q
 obtain ⟨a, hs, q⟩ := k [] η [] H h .refl R .nil
 exact ⟨.ref a, hs, q⟩
theorem zo_cons (ha : PE X e (up X.K T ta)) (hr : PA X es (upAO X.K T t i)) (hs : starEach (e :: es) X.env = (false, eval e X.env) :: starEach es X.env := by rfl) : PA X (e :: es) (upAO X.K T (tConsP ta t) i) := by
 refine PA.weak (pa_cons ha hr hs) fun σ H Q q => ?_
 obtain ⟨F, η, P, R, h, k⟩ := q
 refine ⟨F, η, _, R, h, fun x η1 v H1 h1 e1 R1 r1' => ⟨F, η1, _, R1, h1, fun y η2 w H2 h2 e2 R2' rw' => ?_⟩⟩
 exact k (x :: y) η2 (v :: w) H2 h2 (e1.trans e2) R2' (.cons (r1'.car e2.car) rw')
theorem flV_free {K : PySem.W.Frag} {O O' : Addr → Prop} {H H' : Hp} {x : PV} {v : V} (h : Rep K O H x v) (e : (flV x).isSome = true) : Rep K O' H' x v := by
 cases x <;> first | (unfold Rep at h ⊢; exact h) | (unfold flV at e; cases e)
theorem flVs_free {K : PySem.W.Frag} {O O' : Addr → Prop} {H H' : Hp} : ∀ {xs : List PV} {vs : List V}, Reps K O H xs vs → (∀ x ∈ xs, (flV x).isSome = true) → Reps K O' H' xs vs
 | [], _, h, _ => by rw [h.inv0]; exact .nil
 | x :: xs, _, h, e => by
  obtain ⟨v, us, rfl, r, t⟩ := h.inv
  exact .cons (flV_free r (e x List.mem_cons_self)) (flVs_free t fun y hy => e y (List.mem_cons_of_mem _ hy))
def tCallFOP (sp : SpF) (t : TAp) (i : Nat) : TFp := fun η P => t η fun args η1 => match η1[i]? with
 | some (.ow (.l xs)) => sp (args ++ [.lst xs]) fun ys => (∀ y ∈ ys, (flV y).isSome = true) ∧ P ys η1
 | _ => False
theorem z_callFO {sp : SpF} (Fn : FnOk X.prog X.w X.K X.mg X.base CX0 k f fd ps (upSpF X.K T sp)) (hr : Room k X.A) (hg : Gl X x) (hm : X.mg x = some (.ref f)) (hk : PySem.W.keepIn X.K (.ref f) = true) (hb : Binds X.K fd ps [])
  (ha : PA X (e :: es) (upAO X.K T t i)) (hdb : (x == ("__debug__" : Str)) = false := by decide) (he : starEach (e :: es) X.env = (false, eval e X.env) :: starEach es X.env := by rfl) (hpl : (backTo pos (starEach es X.env)).any (·.1) = false := by rfl) :
  PE X (.Call (.Name x p) (e :: es) [] pos) (upF X.K T (tCallFOP sp t i)) := by
 refine PE.weak (pe_call Fn hr hg hm hk hb .nil pass0 ha hdb he hpl) fun σ H Q q => ?_
 obtain ⟨F, η, P, R, h, k⟩ := q
 refine ⟨F, η, _, R, h, fun args η1 vs H1 h1 e1 R1 r1 => ?_⟩
 split at h1
 ·rename_i xs ei
  obtain ⟨a0, s0, ⟨ws, q1, q2⟩, nf0⟩ := R1.ow i _ ei
  refine ⟨a0, s0, ?_⟩
  have sub : ∀ b, (Oof F σ η1 b ∧ b ≠ a0) → Oof F σ η1 b := fun b z => z.1
  refine ⟨fun b => Oof F σ η1 b ∧ b ≠ a0, args ++ [.lst xs], _, fun b z => R1.trO b z.1, R1.tb, ?_, h1, fun ys a us H2 pz g tb hn hv rz => ?_⟩
  ·rw [List.append_nil]
   refine (r1.mono sub).app (.cons ?_ .nil)
   unfold Rep
   exact ⟨a0, ws, rfl, fun z => z.2 rfl, q1, q2.mono sub⟩
  ·have hn0 : Nw H a := e1.nw hn
   have nF : ¬ F a := fun z => R.tr a z hn0
   have nO : ¬ Oof F σ η1 a := fun z => R1.trO a z hn
   have R2 : Rs X.K T F σ η1 H2 := R1.gr g tb
   have c : Car (Oof F σ η1) (Oof (With F a) σ η1) H1 H2 := fun b u n hb t => ⟨g.keep b u hb t, fun z => by
    rcases z with (z | z) | z
    ·exact n (.inl z)
    ·exact hn.no (by rw [← z]; exact hb) t
    ·exact n (.inr z)⟩
   have R3 : Rs X.K T (With F a) σ η1 H2 := by
    refine ⟨R2.len, fun i y e => ?_, fun i o e => ?_, R2.nd, fun b z => ?_, tb⟩
    ·obtain ⟨v, q1, q2⟩ := R1.va i y e
     exact ⟨v, q1, q2.car c⟩
    ·obtain ⟨b, q1, q2, q3⟩ := R1.ow i o e
     refine ⟨b, q1, q2.car c ?_, fun z => z.elim q3 fun z => nO (by rw [← z]; exact .inr ⟨i, o, q1, e⟩)⟩
     cases o with
     | l xs => obtain ⟨vs, q, _⟩ := q2; rw [q]; exact g.keep _ _ q nofun
     | o C fs => obtain ⟨dx, ws, q, _⟩ := q2; rw [q]; exact g.keep _ _ q nofun
     | d kvs => obtain ⟨ws, q, _⟩ := q2; rw [q]; exact g.keep _ _ q nofun
    ·rcases z with z | z
     ·exact R2.tr b z
     ·rw [z]; exact fun q => q.no hv nofun
   exact k ys η1 a us H2 pz.2 (e1.trans g.ext) R3 hn0 nF hv (flVs_free rz pz.1)
 ·cases h1
end
end Z
namespace Z
open PySem PySem.Spec L2 GenW
open PyProof.Rows hiding St
end Z
namespace Z
open PySem PySem.Spec L2 GenW
open PyProof.Rows hiding St
end Z
namespace Z
open PySem PySem.Spec L2
open PyProof.Rows hiding St
section
variable {X : Cx}
theorem call_divmodW : CallR X (.builtin "divmod") (fun xs H Q => ∃ i j, xs = [.int i, .int j] ∧ CDivW i j ∧ ∀ p, H p = none → Q (.ref p) (upd H p (.tup [.int (i / j), .int (i % j)]))) := by
 intro pins s σ H xs us Q I r h
 obtain ⟨i, j, rfl, ⟨h1, h2⟩, q⟩ := h
 obtain ⟨u, w', rfl, ⟨t, rfl⟩, ⟨t', rfl⟩⟩ := vals2 r
 refine divmod_int (by omega) ?_ (.inl (PyProof.noPylong_of_log2 h2))
 rw [Int.fdiv_eq_ediv_of_nonneg i (by omega), Int.fmod_eq_emod_of_nonneg i (by omega)]
 have hn : H s.heap.objs.size = none := I.hok.fresh (Nat.le_refl _)
 refine ⟨.ref s.heap.objs.size, _, ?_, rfl, q _ hn⟩
 refine I.laid (fun b o e => Heap.get?_push_of_some _ e) (Nat.le_refl _) ⟨by simp only [List.length_cons, List.length_nil]; rw [sizeLine_eq]; decide, [.int (i / j) s.toks, .int (i % j) (s.toks + 1)], .cons ⟨_, rfl⟩ (.cons ⟨_, rfl⟩ .nil), ?_⟩
 exact ⟨_, Heap.get?_push_size s.heap rfl, rfl, 0, rfl⟩
def rDivmodW : R1p := fun ps P => match ps with
 | [.int i, .int j] => CDivW i j ∧ P (.tup [.int (i / j), .int (i % j)])
 | _ => False
theorem zc_divmodW : CallR X (.builtin "divmod") (r1 X.K rDivmodW) := by
 refine CallR.weak (call_divmodW (X := X)) fun xs H Q h => ?_
 obtain ⟨O, ps, P, tr, hx, h, k⟩ := h
 unfold rDivmodW at h
 split at h
 ·obtain ⟨v, w, rfl, r, r'⟩ := hx.two
  cases r.int_; cases r'.int_
  exact ⟨_, _, rfl, h.1, fun p hp => k.newT h.2 tr (.cons rep_int (.cons rep_int .nil)) hp⟩
 ·cases h
theorem q_divmodW {i j : Int} {P : PV → Prop} (c : CDivW i j) (h : P (.tup [.int (i / j), .int (i % j)])) : rDivmodW [.int i, .int j] P := ⟨c, h⟩
theorem cdivW {i j : Int} (h : 0 < j) (h' : j < 10 ^ 40) : CDivW i j := wide_div (b := 200) h (by
 have : (10 : Int) ^ 40 < 2 ^ 200 := by decide
 omega) (by decide) (by decide)
end
def Kn (K : PySem.W.Frag) (x : PV) : Prop := (tyN x).isSome = true ∨ ∃ C fs, x = .ins C fs ∧ ClsT K C
def isInt : PV → Bool
 | .int _ => true
 | _ => false
def isStn : PV → Bool
 | .int i => decide (0 ≤ i)
 | _ => false
def isLat (s : Int) : PV → Bool
 | .int i => decide (s < i)
 | _ => false
def abc : Str := ("abcdefghijklmnopqrstuvwxyz" : Str)
def isNm : PV → Bool
 | .str z => decide (1 ≤ z.length) && (decide (z.length ≤ 8) && z.cps.toList.all fun c => decide (c ∈ abc.cps.toList))
 | _ => false
abbrev Trip := Str × Int × Int
def rowP (r : Trip) : PV := .tup [.str r.1, .int r.2.1, .int r.2.2]
def rowsP (rs : List Trip) : PV := .tup (rs.map rowP)
structure Rw (rs : List Trip) : Prop where
 len : rs.length ≤ 24
 each : ∀ r ∈ rs, isNm (.str r.1) = true ∧ 0 ≤ r.2.1 ∧ r.2.1 < r.2.2
 asc : rs.Pairwise fun a b => a.1.cps.toList < b.1.cps.toList
def queueP (rs : List Trip) : PV := .tup ((rs.map rowP).mergeSort (PySem.W.dataLe false (keyP 1 0)))
def lineF (n : Int) (rs : List Trip) : List (Str × PV) := [(("seat_count" : Str), .int n), (("rows" : Str), rowsP rs), (("queue" : Str), queueP rs)]
def lineP (C : Addr) (n : Int) (rs : List Trip) : PV := .ins C (lineF n rs)
abbrev PrP := PySem.W.Frag → Addr → SpP
def sp_is_integer : PrP := fun K _ args P => ∃ x, args = [x] ∧ Kn K x ∧ P (.bl (isInt x))
def sp_is_station : PrP := fun K _ args P => ∃ x, args = [x] ∧ Kn K x ∧ P (.bl (isStn x))
def sp_is_later : PrP := fun K _ args P => ∃ x s, args = [x, .int s] ∧ Kn K x ∧ P (.bl (isLat s x))
def sp_is_trip_name : PrP := fun K _ args P => ∃ x, args = [x] ∧ Kn K x ∧ (∀ z, x = .str z → z.length ≤ sizeLine) ∧ P (.bl (isNm x))
def sp_is_trip : PrP := fun K _ args P => ∃ r : Trip, args = [rowP r] ∧ r.1.length ≤ sizeLine ∧ P (.bl (isNm (.str r.1) && (decide (0 ≤ r.2.1) && decide (r.2.1 < r.2.2))))
def sp_check_seats : PrP := fun K _ args P => ∃ n : Int, args = [.int n] ∧ 1 ≤ n ∧ n ≤ 20 ∧ P .non
def sp_valid_beginning : PrP := fun K _ args P => ∃ rs, args = [rowsP rs] ∧ Rw rs ∧ P (.int rs.length)
def sp_Line_init : PySem.W.Frag → Addr → SpR := fun K C o args P => ∃ n rs, o = .o C [] ∧ args = [.int n, rowsP rs] ∧ 1 ≤ n ∧ n ≤ 20 ∧ Rw rs ∧ P .non (.o C (lineF n rs))
def sp_Line_trips : PrP := fun K C args P => ∃ n rs, args = [lineP C n rs] ∧ P (rowsP rs)
def sp_law_cell : PrP := fun K _ args P => ∃ ns k, args = [.scr ns, .int k] ∧ 0 ≤ k ∧ k < 100 ∧ ∀ c, P (.int c)
def sp_law_pool : PySem.W.Frag → Addr → SpF := fun K _ args P => ∃ c, args = [.int c] ∧ ∀ s d, 0 ≤ s → s < 1000000007 → 0 ≤ d → P [.int s, .int d, .int 0]
def Pool (o : Ow) : Prop := ∃ s d c, o = .l [.int s, .int d, .int c] ∧ 0 ≤ s ∧ s < 1000000007 ∧ 0 ≤ d
abbrev PrR := PySem.W.Frag → Addr → SpR
def sp_law_draw : PrR := fun K _ o args P => ∃ m : Int, Pool o ∧ args = [.int m] ∧ 0 < m ∧ m < 10 ^ 40 ∧ ∀ o' (k : Int), Pool o' → 0 ≤ k → k < m → P (.int k) o'
def Nms (ws : List Str) : Prop := (∀ w ∈ ws, isNm (.str w) = true) ∧ ws.Nodup
def ts_is_integer (K : PySem.W.Frag) (CLine : Addr) : TSp := tRetP (tAndVP (tCBP (rIsI K) (tConsP (tVarP 0) (tConsP (tConP (.raw (.ty "int"))) (tNilP)))) (tNotVP (tCBP (rIsI K) (tConsP (tVarP 0) (tConsP (tConP (.raw (.ty "bool"))) (tNilP))))))
def ts_is_station (K : PySem.W.Frag) (CLine : Addr) : TSp := tRetP (tAndVP (tCallP (sp_is_integer K CLine) [] (tConsP (tVarP 0) (tNilP))) (tOpP rGe (tVarP 0) (tConP (.int 0))))
def ts_is_later (K : PySem.W.Frag) (CLine : Addr) : TSp := tRetP (tAndVP (tCallP (sp_is_integer K CLine) [] (tConsP (tVarP 0) (tNilP))) (tOpP rGt (tVarP 0) (tVarP 1)))
def ts_is_trip_name (K : PySem.W.Frag) (CLine : Addr) : TSp := tSeqP (tIfSP (tOrP (tNotP (tBlP (tCBP (rIsI K) (tConsP (tVarP 0) (tConsP (tConP (.raw (.ty "str"))) (tNilP)))))) (tNotP (tBlP (tChainP rLe rLe (tConP (.int 1)) (tCBP rLen (tConsP (tVarP 0) (tNilP))) (tConP (.int 8)))))) (tRetP (tConP (.bl false))) (tNextP)) (tRetP (tCBP rAllP (tConsP (tValP (tLcP (iStrP (tVarP 0)) (gNameP 1) (tYesP) (tOpP (rInS false) (tVarP 1) (tConP (.str ("abcdefghijklmnopqrstuvwxyz" : Str)))) [1])) (tNilP))))
def ts_is_trip (K : PySem.W.Frag) (CLine : Addr) : TSp := tSeqP (tIfSP (tOrP (tNotP (tBlP (tCBP (rIsI K) (tConsP (tVarP 0) (tConsP (tConP (.raw (.ty "tuple"))) (tNilP)))))) (tBlP (tOpP (rEqP true) (tCBP rLen (tConsP (tVarP 0) (tNilP))) (tConP (.int 3))))) (tRetP (tConP (.bl false))) (tNextP)) (tSeqP (tAsgP (tVarP 0) (gTupP 3 (gConsP (gNameP 1) (gConsP (gNameP 2) (gConsP (gNameP 3) (gNilP)))))) (tRetP (tAndVP (tCallP (sp_is_trip_name K CLine) [] (tConsP (tVarP 1) (tNilP))) (tAndVP (tCallP (sp_is_station K CLine) [] (tConsP (tVarP 2) (tNilP))) (tCallP (sp_is_later K CLine) [] (tConsP (tVarP 3) (tConsP (tVarP 2) (tNilP))))))))
def ts_check_seats (K : PySem.W.Frag) (CLine : Addr) : TSp := tIfSP (tOrP (tNotP (tBlP (tCallP (sp_is_integer K CLine) [] (tConsP (tVarP 0) (tNilP))))) (tNotP (tBlP (tChainP rLe rLe (tConP (.int 1)) (tVarP 0) (tConP (.int 20)))))) (tNevP) (tNextP)
def ts_valid_beginning (K : PySem.W.Frag) (CLine : Addr) : TSp := tSeqP (tSetP 1 (tConP (.str ("" : Str)))) (tSeqP (tForP (iEnumP (tVarP 0)) (gTupP 2 (gConsP (gNameP 2) (gConsP (gNameP 3) (gNilP)))) (tSeqP (tIfSP (tOrP (tBlP (tOpP (rEqP false) (tVarP 2) (tConP (.int 24)))) (tOrP (tNotP (tBlP (tCallP (sp_is_trip K CLine) [] (tConsP (tVarP 3) (tNilP))))) (tBlP (tOpP rLe (tOpP rIxP (tVarP 3) (tConP (.int 0))) (tVarP 1))))) (tRetP (tVarP 2)) (tNextP)) (tSetP 1 (tOpP rIxP (tVarP 3) (tConP (.int 0)))))) (tRetP (tCBP rLen (tConsP (tVarP 0) (tNilP)))))
def ts_Line_trips (K : PySem.W.Frag) (CLine : Addr) : TSp := tRetP (tFldP CLine ("rows" : Str) (tVarP 0))
def ts_Line_init (K : PySem.W.Frag) (CLine : Addr) : TSp := tSeqP (tDropP (tCallP (sp_check_seats K CLine) [] (tConsP (tVarP 1) (tNilP)))) (tSeqP (tIfSP (tNotP (tBlP (tCBP (rIsI K) (tConsP (tVarP 2) (tConsP (tConP (.raw (.ty "tuple"))) (tNilP)))))) (tNevP) (tNextP)) (tSeqP (tSetP 3 (tCallP (sp_valid_beginning K CLine) [] (tConsP (tVarP 2) (tNilP)))) (tSeqP (tIfSP (tBlP (tOpP rLt (tVarP 3) (tCBP rLen (tConsP (tVarP 2) (tNilP))))) (tNevP) (tNextP)) (tSeqP (tFldSP CLine 0 ("seat_count" : Str) (tVarP 1)) (tSeqP (tFldSP CLine 0 ("rows" : Str) (tVarP 2)) (tFldSP CLine 0 ("queue" : Str) (tCBP rTuple (tConsP (tSortLP 1 0 (tVarP 2)) (tNilP)))))))))
def ts_law_cell (K : PySem.W.Frag) (CLine : Addr) : TSp := tSeqP (tIfSP (tBlP (tOpP rLt (tVarP 1) (tCBP rLen (tConsP (tVarP 0) (tNilP))))) (tRetP (tOpP rIxP (tVarP 0) (tVarP 1))) (tNextP)) (tSeqP (tSetP 2 (tOpP rMod (tOpP rMulA (tConP (.int 50021)) (tOpP rAdd (tOpP rAdd (tOpP rMulA (tVarP 1) (tVarP 1)) (tOpP rMulA (tConP (.int 7)) (tVarP 1))) (tConP (.int 3)))) (tConP (.int 1000000007)))) (tSeqP (tForP (iListP (tSliceP (tVarP 0) (tNoPartP) (tPartP (tConP (.int 3))))) (gNameP 3) (tSetP 2 (tOpP rMod (tOpP rAdd (tOpP rMulA (tVarP 2) (tConP (.int 30011))) (tVarP 3)) (tConP (.int 1000000007))))) (tRetP (tVarP 2))))
def ts_law_pool (K : PySem.W.Frag) (CLine : Addr) : TFp := tSeqFP (tSetP 1 (tConP (.int 0))) (tSeqFP (tIfSP (tOrP (tBlP (tOpP rLt (tVarP 0) (tConP (.int 0)))) (tBlP (tOpP rGe (tVarP 0) (tOpP rPow (tConP (.int 10)) (tConP (.int 18)))))) (tSetP 1 (tCBP rAbs (tConsP (tVarP 0) (tNilP)))) (tNextP)) (tLstFP (tConsP (tOpP rMod (tVarP 0) (tConP (.int 1000000007))) (tConsP (tVarP 1) (tConsP (tConP (.int 0)) (tNilP))))))
def ts_law_draw (K : PySem.W.Frag) (CLine : Addr) : TSp := tSeqP (tAsgP (tOpP rAdd (tIxOP 0 (tConP (.int 2))) (tConP (.int 1))) (gSubP 0 (tConP (.int 2)))) (tSeqP (tSetP 2 (tIxOP 0 (tConP (.int 0)))) (tSeqP (tAsgP (tOpP rMod (tOpP rAdd (tOpP rAdd (tOpP rMulA (tVarP 2) (tOpP rAdd (tOpP rMod (tVarP 2) (tConP (.int 46007))) (tConP (.int 20011)))) (tOpP rMulA (tConP (.int 60013)) (tIxOP 0 (tConP (.int 2))))) (tConP (.int 5))) (tConP (.int 1000000007))) (gSubP 0 (tConP (.int 0)))) (tSeqP (tIfSP (tBlP (tOpP rGt (tIxOP 0 (tConP (.int 1))) (tConP (.int 0)))) (tSeqP (tAsgP (tCBP rDivmodW (tConsP (tIxOP 0 (tConP (.int 1))) (tConsP (tVarP 1) (tNilP)))) (gTupP 2 (gConsP (gSubP 0 (tConP (.int 1))) (gConsP (gNameP 3) (gNilP))))) (tRetP (tVarP 3))) (tNextP)) (tRetP (tOpP rMod (tOpP rDiv (tIxOP 0 (tConP (.int 0))) (tConP (.int 32))) (tVarP 1))))))
section
variable {K : PySem.W.Frag} {C : Addr} {args : List PV} {P : PV → Prop} {PR : PV → Ow → Prop} {PF : List PV → Prop} {o : Ow}
theorem len_is_integer (h : sp_is_integer K C args P) : args.length = 1 := by
 unfold sp_is_integer at h
 first | (obtain ⟨_, rfl, _⟩ := h; rfl) | (obtain ⟨_, _, rfl, _⟩ := h; rfl)
theorem len_is_station (h : sp_is_station K C args P) : args.length = 1 := by
 unfold sp_is_station at h
 first | (obtain ⟨_, rfl, _⟩ := h; rfl) | (obtain ⟨_, _, rfl, _⟩ := h; rfl)
theorem len_is_later (h : sp_is_later K C args P) : args.length = 2 := by
 unfold sp_is_later at h
 first | (obtain ⟨_, rfl, _⟩ := h; rfl) | (obtain ⟨_, _, rfl, _⟩ := h; rfl)
theorem len_is_trip_name (h : sp_is_trip_name K C args P) : args.length = 1 := by
 unfold sp_is_trip_name at h
 first | (obtain ⟨_, rfl, _⟩ := h; rfl) | (obtain ⟨_, _, rfl, _⟩ := h; rfl)
theorem len_is_trip (h : sp_is_trip K C args P) : args.length = 1 := by
 unfold sp_is_trip at h
 first | (obtain ⟨_, rfl, _⟩ := h; rfl) | (obtain ⟨_, _, rfl, _⟩ := h; rfl)
theorem len_check_seats (h : sp_check_seats K C args P) : args.length = 1 := by
 unfold sp_check_seats at h
 first | (obtain ⟨_, rfl, _⟩ := h; rfl) | (obtain ⟨_, _, rfl, _⟩ := h; rfl)
theorem len_valid_beginning (h : sp_valid_beginning K C args P) : args.length = 1 := by
 unfold sp_valid_beginning at h
 first | (obtain ⟨_, rfl, _⟩ := h; rfl) | (obtain ⟨_, _, rfl, _⟩ := h; rfl)
theorem len_Line_trips (h : sp_Line_trips K C args P) : args.length = 1 := by
 unfold sp_Line_trips at h
 first | (obtain ⟨_, rfl, _⟩ := h; rfl) | (obtain ⟨_, _, rfl, _⟩ := h; rfl)
theorem len_law_cell (h : sp_law_cell K C args P) : args.length = 2 := by
 unfold sp_law_cell at h
 first | (obtain ⟨_, rfl, _⟩ := h; rfl) | (obtain ⟨_, _, rfl, _⟩ := h; rfl)
theorem len_law_pool (h : sp_law_pool K C args PF) : args.length = 1 := by
 unfold sp_law_pool at h
 first | (obtain ⟨_, rfl, _⟩ := h; rfl) | (obtain ⟨_, _, rfl, _⟩ := h; rfl)
theorem len_law_draw (h : sp_law_draw K C o args PR) : args.length = 1 := by
 unfold sp_law_draw at h
 first | (obtain ⟨_, _, rfl, _⟩ := h; rfl) | (obtain ⟨_, _, _, rfl, _⟩ := h; rfl)
theorem len_Line_init (h : sp_Line_init K C o args PR) : args.length = 2 := by
 obtain ⟨_, _, _, rfl, _⟩ := h; rfl
theorem rIsI_ty {x : PV} {n : String} {Q : PV → Prop} : rIsI K [x, .raw (.ty n)] Q = (match tyN x with
  | some t => ∃ b, kitB t n = some b ∧ Q (.bl b)
  | none => match x with
   | .ins C _ => ClsT K C ∧ n ∈ ["int", "bool", "str", "tuple", "list", "dict"] ∧ Q (.bl false)
   | _ => False) := rfl
theorem isi_ty {x : PV} {n : String} {Q : PV → Prop} (h : Kn K x) (hn : n ∈ ["int", "bool", "str", "tuple", "list", "dict"]) (q : ∀ b, (∀ t, tyN x = some t → kitB t n = some b) → (tyN x = none → b = false) → Q (.bl b)) : rIsI K [x, .raw (.ty n)] Q := by
 rw [rIsI_ty]
 split
 ·rename_i t e
  have : ∃ b, kitB t n = some b := by
   have ht : t ∈ ["NoneType", "int", "bool", "str", "tuple", "list", "dict"] := by cases x <;> simp [tyN] at e <;> subst e <;> decide
   simp only [List.mem_cons, List.not_mem_nil, or_false] at hn ht
   rcases hn with rfl | rfl | rfl | rfl | rfl | rfl <;> rcases ht with rfl | rfl | rfl | rfl | rfl | rfl | rfl <;> first | exact ⟨true, by decide +kernel⟩ | exact ⟨false, by decide +kernel⟩
  obtain ⟨b, hb⟩ := this
  exact ⟨b, hb, q b (fun t' z => by cases e.symm.trans z; exact hb) fun z => by rw [z] at e; cases e⟩
 ·rename_i e
  rcases h with h | ⟨D, fs, rfl, cl⟩
  ·rw [e] at h; cases h
  ·exact ⟨cl, hn, q false (fun t z => nomatch z) fun _ => rfl⟩
theorem isi_is {x : PV} {n : String} {f : PV → Bool} {Q : PV → Prop} (h : Kn K x) (hn : n ∈ ["int", "bool", "str", "tuple", "list", "dict"]) (hf : ∀ x t, tyN x = some t → kitB t n = some (f x)) (h0 : ∀ x, tyN x = none → f x = false) (q : Q (.bl (f x))) : rIsI K [x, .raw (.ty n)] Q := by
 refine isi_ty h hn fun b h1 h2 => ?_
 cases e : tyN x with
 | some t =>
  have := (h1 t e).symm.trans (hf x t e)
  cases this
  exact q
 | none => rw [h2 e, ← h0 x e]; exact q
def isIb : PV → Bool
 | .int _ => true
 | .bl _ => true
 | _ => false
def isBl : PV → Bool
 | .bl _ => true
 | _ => false
def isSt : PV → Bool
 | .str _ => true
 | _ => false
def isTu : PV → Bool
 | .tup _ => true
 | _ => false
theorem isi_int {x : PV} {Q : PV → Prop} (h : Kn K x) (q : Q (.bl (isIb x))) : rIsI K [x, .raw (.ty "int")] Q :=
 isi_is h (by decide) (fun x t e => by cases x <;> simp [tyN] at e <;> subst e <;> first | (show kitB _ _ = some true; decide +kernel) | (show kitB _ _ = some false; decide +kernel)) (fun x e => by cases x <;> simp [tyN] at e <;> rfl) q
theorem isi_bool {x : PV} {Q : PV → Prop} (h : Kn K x) (q : Q (.bl (isBl x))) : rIsI K [x, .raw (.ty "bool")] Q :=
 isi_is h (by decide) (fun x t e => by cases x <;> simp [tyN] at e <;> subst e <;> first | (show kitB _ _ = some true; decide +kernel) | (show kitB _ _ = some false; decide +kernel)) (fun x e => by cases x <;> simp [tyN] at e <;> rfl) q
theorem isi_str {x : PV} {Q : PV → Prop} (h : Kn K x) (q : Q (.bl (isSt x))) : rIsI K [x, .raw (.ty "str")] Q :=
 isi_is h (by decide) (fun x t e => by cases x <;> simp [tyN] at e <;> subst e <;> first | (show kitB _ _ = some true; decide +kernel) | (show kitB _ _ = some false; decide +kernel)) (fun x e => by cases x <;> simp [tyN] at e <;> rfl) q
theorem isi_tuple {x : PV} {Q : PV → Prop} (h : Kn K x) (q : Q (.bl (isTu x))) : rIsI K [x, .raw (.ty "tuple")] Q :=
 isi_is h (by decide) (fun x t e => by cases x <;> simp [tyN] at e <;> subst e <;> first | (show kitB _ _ = some true; decide +kernel) | (show kitB _ _ = some false; decide +kernel)) (fun x e => by cases x <;> simp [tyN] at e <;> rfl) q
theorem rd_is_integer (h : sp_is_integer K C args P) : ts_is_integer K C { nx := fun _ => P .non, rt := fun x _ => P x } (startP 1 args) := by
 obtain ⟨x, rfl, hk, hp⟩ := h
 have e : startP 1 [x] = [.va x] := rfl
 simp only [ts_is_integer, e, tLcP, tForP, iStrP, iListP, iTupP, iRng1P, iRng2P, iEnumP, wipeP, tAppP, tJoinP, tSeqP, tRetP, tRetNP, tIfSP, tNextP, tNevP, tSetP, tSetFP, tDropP, tAsgP, gNameP, gNilP, gConsP, gTupP, tAndVP, tNotVP, tOrVP, tCBP, tConsP, tNilP, tVarP, tConP, tBlP, tOrP, tAndP, tNotP, tOpP, tChainP, tCallP, tCallFP, tTupP, tLstP, tLstFP, tValP, tIfP, tNegP, tSliceP, tNoPartP, tPartP, tSeqFP, tYesP, frz, List.getElem?_cons_zero, List.getElem?_cons_succ, List.set_cons_zero, List.set_cons_succ, List.append_nil, List.length_cons, List.length_nil, Nat.zero_add]
 refine isi_int hk ?_
 cases x <;> first | exact isi_bool hk hp | exact hp
theorem rd_is_station (h : sp_is_station K C args P) : ts_is_station K C { nx := fun _ => P .non, rt := fun x _ => P x } (startP 1 args) := by
 obtain ⟨x, rfl, hk, hp⟩ := h
 have e : startP 1 [x] = [.va x] := rfl
 simp only [ts_is_station, e, tLcP, tForP, iStrP, iListP, iTupP, iRng1P, iRng2P, iEnumP, wipeP, tAppP, tJoinP, tSeqP, tRetP, tRetNP, tIfSP, tNextP, tNevP, tSetP, tSetFP, tDropP, tAsgP, gNameP, gNilP, gConsP, gTupP, tAndVP, tNotVP, tOrVP, tCBP, tConsP, tNilP, tVarP, tConP, tBlP, tOrP, tAndP, tNotP, tOpP, tChainP, tCallP, tCallFP, tTupP, tLstP, tLstFP, tValP, tIfP, tNegP, tSliceP, tNoPartP, tPartP, tSeqFP, tYesP, frz, List.getElem?_cons_zero, List.getElem?_cons_succ, List.set_cons_zero, List.set_cons_succ, List.append_nil, List.length_cons, List.length_nil, Nat.zero_add]
 refine ⟨x, rfl, hk, ?_⟩
 cases x <;> exact hp
theorem rd_is_later (h : sp_is_later K C args P) : ts_is_later K C { nx := fun _ => P .non, rt := fun x _ => P x } (startP 2 args) := by
 obtain ⟨x, s, rfl, hk, hp⟩ := h
 have e : startP 2 [x, .int s] = [.va x, .va (.int s)] := rfl
 simp only [ts_is_later, e, tLcP, tForP, iStrP, iListP, iTupP, iRng1P, iRng2P, iEnumP, wipeP, tAppP, tJoinP, tSeqP, tRetP, tRetNP, tIfSP, tNextP, tNevP, tSetP, tSetFP, tDropP, tAsgP, gNameP, gNilP, gConsP, gTupP, tAndVP, tNotVP, tOrVP, tCBP, tConsP, tNilP, tVarP, tConP, tBlP, tOrP, tAndP, tNotP, tOpP, tChainP, tCallP, tCallFP, tTupP, tLstP, tLstFP, tValP, tIfP, tNegP, tSliceP, tNoPartP, tPartP, tSeqFP, tYesP, frz, List.getElem?_cons_zero, List.getElem?_cons_succ, List.set_cons_zero, List.set_cons_succ, List.append_nil, List.length_cons, List.length_nil, Nat.zero_add]
 refine ⟨x, rfl, hk, ?_⟩
 cases x <;> exact hp
theorem blsOf_map {α : Type} (f : α → Bool) : ∀ xs : List α, blsOf (xs.map fun c => PV.bl (f c)) = some (xs.map f)
 | [] => rfl
 | x :: xs => by rw [List.map_cons, blsOf, blsOf_map f xs]; rfl
theorem rd_is_trip_name (h : sp_is_trip_name K C args P) : ts_is_trip_name K C { nx := fun _ => P .non, rt := fun x _ => P x } (startP 2 args) := by
 obtain ⟨x, rfl, hk, hz, hp⟩ := h
 have e : startP 2 [x] = [.va x, .no] := rfl
 simp only [ts_is_trip_name, e, tLcP, tForP, iStrP, iListP, iTupP, iRng1P, iRng2P, iEnumP, wipeP, tAppP, tJoinP, tSeqP, tRetP, tRetNP, tIfSP, tNextP, tNevP, tSetP, tSetFP, tDropP, tAsgP, gNameP, gNilP, gConsP, gTupP, tAndVP, tNotVP, tOrVP, tCBP, tConsP, tNilP, tVarP, tConP, tBlP, tOrP, tAndP, tNotP, tOpP, tChainP, tCallP, tCallFP, tTupP, tLstP, tLstFP, tValP, tIfP, tNegP, tSliceP, tNoPartP, tPartP, tSeqFP, tYesP, frz, List.getElem?_cons_zero, List.getElem?_cons_succ, List.set_cons_zero, List.set_cons_succ, List.append_nil, List.length_cons, List.length_nil, Nat.zero_add]
 refine isi_str hk ?_
 cases x <;> try exact hp
 rename_i z
 have hz := hz z rfl
 simp only [isSt, rLe, rLen, rAllP, Bool.not_true, Bool.false_eq_true, if_false, tLcP, tForP, iStrP, iListP, iTupP, iRng1P, iRng2P, iEnumP, wipeP, tAppP, tJoinP, tSeqP, tRetP, tRetNP, tIfSP, tNextP, tNevP, tSetP, tSetFP, tDropP, tAsgP, gNameP, gNilP, gConsP, gTupP, tAndVP, tNotVP, tOrVP, tCBP, tConsP, tNilP, tVarP, tConP, tBlP, tOrP, tAndP, tNotP, tOpP, tChainP, tCallP, tCallFP, tTupP, tLstP, tLstFP, tValP, tIfP, tNegP, tSliceP, tNoPartP, tPartP, tSeqFP, tYesP, frz, List.getElem?_cons_zero, List.getElem?_cons_succ, List.set_cons_zero, List.set_cons_succ, List.append_nil, List.length_cons, List.length_nil, Nat.zero_add]
 refine ⟨hz, _, rfl, ?_⟩
 by_cases h1 : (1 : Int) ≤ z.length
 ·rw [decide_eq_true h1]
  by_cases h2 : (z.length : Int) ≤ 8
  ·simp only [decide_eq_true h2, if_true, Bool.not_true, Bool.false_eq_true, if_false, tLcP, tForP, iStrP, iListP, iTupP, iRng1P, iRng2P, iEnumP, wipeP, tAppP, tJoinP, tSeqP, tRetP, tRetNP, tIfSP, tNextP, tNevP, tSetP, tSetFP, tDropP, tAsgP, gNameP, gNilP, gConsP, gTupP, tAndVP, tNotVP, tOrVP, tCBP, tConsP, tNilP, tVarP, tConP, tBlP, tOrP, tAndP, tNotP, tOpP, tChainP, tCallP, tCallFP, tTupP, tLstP, tLstFP, tValP, tIfP, tNegP, tSliceP, tNoPartP, tPartP, tSeqFP, tYesP, frz, List.getElem?_cons_zero, List.getElem?_cons_succ, List.set_cons_zero, List.set_cons_succ, List.append_nil, List.length_cons, List.length_nil, Nat.zero_add]
   refine ⟨fun i acc η => acc = (z.cps.toList.take i).map (fun c => .bl (decide (c ∈ abc.cps.toList))) ∧ η = [.va (.str z), .no], ⟨rfl, rfl⟩, ?_, ?_⟩
   ·rintro i y acc η hi ⟨rfl, rfl⟩
    rw [List.getElem?_map] at hi
    cases q : z.cps.toList[i]? with
    | none => rw [q] at hi; cases hi
    | some c =>
     rw [q] at hi; cases hi
     have hil : i < z.cps.toList.length := (List.getElem?_eq_some_iff.mp q).1
     simp only [rInS, if_true, tLcP, tForP, iStrP, iListP, iTupP, iRng1P, iRng2P, iEnumP, wipeP, tAppP, tJoinP, tSeqP, tRetP, tRetNP, tIfSP, tNextP, tNevP, tSetP, tSetFP, tDropP, tAsgP, gNameP, gNilP, gConsP, gTupP, tAndVP, tNotVP, tOrVP, tCBP, tConsP, tNilP, tVarP, tConP, tBlP, tOrP, tAndP, tNotP, tOpP, tChainP, tCallP, tCallFP, tTupP, tLstP, tLstFP, tValP, tIfP, tNegP, tSliceP, tNoPartP, tPartP, tSeqFP, tYesP, frz, List.getElem?_cons_zero, List.getElem?_cons_succ, List.set_cons_zero, List.set_cons_succ, List.append_nil, List.length_cons, List.length_nil, Nat.zero_add]
     refine ⟨c, rfl, ?_, ?_, trivial⟩
     ·rw [List.length_map, List.length_take]
      have : sizeLine > 100 := by decide
      have : z.length = z.cps.toList.length := by simp [Str.length]
      omega
     ·simp only [Bool.false_eq_true, if_false]
      rw [List.take_succ, q]
      simp [abc]
   ·rintro acc η ⟨rfl, rfl⟩
    rw [List.length_map, List.take_length]
    refine ⟨_, blsOf_map _ _, ?_⟩
    have : (isNm (.str z)) = ((z.cps.toList.map fun c => decide (c ∈ abc.cps.toList)).all id) := by
     have h1' : 1 ≤ z.length := by omega
     have h2' : z.length ≤ 8 := by omega
     simp [isNm, h1', h2']
    rw [← this]
    exact hp
  ·simp only [decide_eq_false h2, if_true, Bool.not_false]
   have : isNm (.str z) = false := by
    have h2' : ¬ z.length ≤ 8 := by omega
    simp [isNm, h2']
   rw [this] at hp
   exact hp
 ·simp only [decide_eq_false h1, Bool.false_eq_true, if_false, if_true, Bool.not_false]
  have : isNm (.str z) = false := by
   have h2' : ¬ 1 ≤ z.length := by omega
   simp only [isNm, decide_eq_false h2', Bool.false_and]
  rw [this] at hp
  exact hp
theorem Kn.i {i : Int} : Kn K (.int i) := .inl rfl
theorem Kn.s {i : Str} : Kn K (.str i) := .inl rfl
theorem Kn.t {xs : List PV} : Kn K (.tup xs) := .inl rfl
theorem rd_is_trip (h : sp_is_trip K C args P) : ts_is_trip K C { nx := fun _ => P .non, rt := fun x _ => P x } (startP 4 args) := by
 obtain ⟨r, rfl, hz, hp⟩ := h
 have e : startP 4 [rowP r] = [.va (rowP r), .no, .no, .no] := rfl
 simp only [ts_is_trip, e, tLcP, tForP, iStrP, iListP, iTupP, iRng1P, iRng2P, iEnumP, wipeP, tAppP, tJoinP, tSeqP, tRetP, tRetNP, tIfSP, tNextP, tNevP, tSetP, tSetFP, tDropP, tAsgP, gNameP, gNilP, gConsP, gTupP, tAndVP, tNotVP, tOrVP, tCBP, tConsP, tNilP, tVarP, tConP, tBlP, tOrP, tAndP, tNotP, tOpP, tChainP, tCallP, tCallFP, tTupP, tLstP, tLstFP, tValP, tIfP, tNegP, tSliceP, tNoPartP, tPartP, tSeqFP, tYesP, frz, List.getElem?_cons_zero, List.getElem?_cons_succ, List.set_cons_zero, List.set_cons_succ, List.append_nil, List.length_cons, List.length_nil, Nat.zero_add]
 refine isi_tuple .t ?_
 simp only [isTu, rowP, rLen, Bool.not_true, Bool.false_eq_true, if_false, tLcP, tForP, iStrP, iListP, iTupP, iRng1P, iRng2P, iEnumP, wipeP, tAppP, tJoinP, tSeqP, tRetP, tRetNP, tIfSP, tNextP, tNevP, tSetP, tSetFP, tDropP, tAsgP, gNameP, gNilP, gConsP, gTupP, tAndVP, tNotVP, tOrVP, tCBP, tConsP, tNilP, tVarP, tConP, tBlP, tOrP, tAndP, tNotP, tOpP, tChainP, tCallP, tCallFP, tTupP, tLstP, tLstFP, tValP, tIfP, tNegP, tSliceP, tNoPartP, tPartP, tSeqFP, tYesP, frz, List.getElem?_cons_zero, List.getElem?_cons_succ, List.set_cons_zero, List.set_cons_succ, List.append_nil, List.length_cons, List.length_nil, Nat.zero_add]
 refine ⟨.int 3, .int 3, rfl, rfl, rfl, rfl, ?_⟩
 have q : (if true = true then !PyData.eqv (.int 3) (.int 3) else PyData.eqv (.int 3) (.int 3)) = false := by decide +kernel
 simp only [q, Bool.false_eq_true, if_false, tLcP, tForP, iStrP, iListP, iTupP, iRng1P, iRng2P, iEnumP, wipeP, tAppP, tJoinP, tSeqP, tRetP, tRetNP, tIfSP, tNextP, tNevP, tSetP, tSetFP, tDropP, tAsgP, gNameP, gNilP, gConsP, gTupP, tAndVP, tNotVP, tOrVP, tCBP, tConsP, tNilP, tVarP, tConP, tBlP, tOrP, tAndP, tNotP, tOpP, tChainP, tCallP, tCallFP, tTupP, tLstP, tLstFP, tValP, tIfP, tNegP, tSliceP, tNoPartP, tPartP, tSeqFP, tYesP, frz, List.getElem?_cons_zero, List.getElem?_cons_succ, List.set_cons_zero, List.set_cons_succ, List.append_nil, List.length_cons, List.length_nil, Nat.zero_add]
 refine ⟨trivial, trivial, _, rfl, .s, fun z e => by cases e; exact hz, ?_⟩
 cases q : isNm (.str r.1) with
 | false => rw [q] at hp; exact hp
 | true =>
  rw [q] at hp
  refine ⟨_, rfl, .i, ?_⟩
  by_cases h1 : 0 ≤ r.2.1
  ·have h1' : isStn (.int r.2.1) = true := decide_eq_true h1
   rw [h1']
   rw [decide_eq_true h1] at hp
   exact ⟨_, _, rfl, .i, hp⟩
  ·have h1' : isStn (.int r.2.1) = false := decide_eq_false h1
   rw [h1']
   rw [decide_eq_false h1] at hp
   exact hp
theorem rd_check_seats (h : sp_check_seats K C args P) : ts_check_seats K C { nx := fun _ => P .non, rt := fun x _ => P x } (startP 1 args) := by
 obtain ⟨n, rfl, h1, h2, hp⟩ := h
 have e : startP 1 [.int n] = [.va (.int n)] := rfl
 simp only [ts_check_seats, e, tLcP, tForP, iStrP, iListP, iTupP, iRng1P, iRng2P, iEnumP, wipeP, tAppP, tJoinP, tSeqP, tRetP, tRetNP, tIfSP, tNextP, tNevP, tSetP, tSetFP, tDropP, tAsgP, gNameP, gNilP, gConsP, gTupP, tAndVP, tNotVP, tOrVP, tCBP, tConsP, tNilP, tVarP, tConP, tBlP, tOrP, tAndP, tNotP, tOpP, tChainP, tCallP, tCallFP, tTupP, tLstP, tLstFP, tValP, tIfP, tNegP, tSliceP, tNoPartP, tPartP, tSeqFP, tYesP, frz, List.getElem?_cons_zero, List.getElem?_cons_succ, List.set_cons_zero, List.set_cons_succ, List.append_nil, List.length_cons, List.length_nil, Nat.zero_add]
 refine ⟨_, rfl, .i, ?_⟩
 simp only [isInt, rLe, Bool.not_true, Bool.false_eq_true, if_false, tLcP, tForP, iStrP, iListP, iTupP, iRng1P, iRng2P, iEnumP, wipeP, tAppP, tJoinP, tSeqP, tRetP, tRetNP, tIfSP, tNextP, tNevP, tSetP, tSetFP, tDropP, tAsgP, gNameP, gNilP, gConsP, gTupP, tAndVP, tNotVP, tOrVP, tCBP, tConsP, tNilP, tVarP, tConP, tBlP, tOrP, tAndP, tNotP, tOpP, tChainP, tCallP, tCallFP, tTupP, tLstP, tLstFP, tValP, tIfP, tNegP, tSliceP, tNoPartP, tPartP, tSeqFP, tYesP, frz, List.getElem?_cons_zero, List.getElem?_cons_succ, List.set_cons_zero, List.set_cons_succ, List.append_nil, List.length_cons, List.length_nil, Nat.zero_add]
 refine ⟨_, rfl, ?_⟩
 simp only [decide_eq_true h1, decide_eq_true h2, if_true, Bool.not_true, Bool.false_eq_true, if_false, tLcP, tForP, iStrP, iListP, iTupP, iRng1P, iRng2P, iEnumP, wipeP, tAppP, tJoinP, tSeqP, tRetP, tRetNP, tIfSP, tNextP, tNevP, tSetP, tSetFP, tDropP, tAsgP, gNameP, gNilP, gConsP, gTupP, tAndVP, tNotVP, tOrVP, tCBP, tConsP, tNilP, tVarP, tConP, tBlP, tOrP, tAndP, tNotP, tOpP, tChainP, tCallP, tCallFP, tTupP, tLstP, tLstFP, tValP, tIfP, tNegP, tSliceP, tNoPartP, tPartP, tSeqFP, tYesP, frz, List.getElem?_cons_zero, List.getElem?_cons_succ, List.set_cons_zero, List.set_cons_succ, List.append_nil, List.length_cons, List.length_nil, Nat.zero_add]
 exact hp
theorem rd_Line_trips (h : sp_Line_trips K C args P) : ts_Line_trips K C { nx := fun _ => P .non, rt := fun x _ => P x } (startP 1 args) := by
 obtain ⟨n, rs, rfl, hp⟩ := h
 exact ⟨rfl, _, rfl, hp⟩
end
section
variable {K : PySem.W.Frag} {P : PV → Prop} {i j : Int} {x y : PV} {xs ys : List PV} {a b : Str} {η : EP'} {Q : PV → EP' → Prop} {R : EP' → Prop} {n : Nat}
theorem q_add (h : P (.int (i + j))) : rAdd (.int i) (.int j) P := h
theorem q_addS (l : a.length + b.length ≤ sizeLine) (h : P (.str (a ++ b))) : rAdd (.str a) (.str b) P := ⟨l, h⟩
theorem q_sub (h : P (.int (i - j))) : rSub (.int i) (.int j) P := h
theorem q_mul (c : CMul i j) (h : P (.int (i * j))) : rMulA (.int i) (.int j) P := .inl ⟨c, h⟩
theorem q_div (c : CDiv i j) (h : P (.int (i / j))) : rDiv (.int i) (.int j) P := ⟨c, h⟩
theorem q_mod (c : 0 < j) (h : P (.int (i % j))) : rMod (.int i) (.int j) P := ⟨c, h⟩
theorem q_pow (c : CPow i j) (h : P (.int (i ^ j.toNat))) : rPow (.int i) (.int j) P := ⟨c, h⟩
theorem q_lt (h : P (.bl (decide (i < j)))) : rLt (.int i) (.int j) P := h
theorem q_gt (h : P (.bl (decide (j < i)))) : rGt (.int i) (.int j) P := h
theorem q_ge (h : P (.bl (decide (j ≤ i)))) : rGe (.int i) (.int j) P := h
theorem q_le (h : P (.bl (decide (i ≤ j)))) : rLe (.int i) (.int j) P := h
theorem q_leS (h : P (.bl (!decide (b.cps.toList < a.cps.toList)))) : rLe (.str a) (.str b) P := h
theorem beq_int : (i == j) = decide (i = j) := by by_cases h : i = j <;> simp [h]
theorem q_eq (h : P (.bl (decide (i = j)))) : rEqP false (.int i) (.int j) P := ⟨.int i, .int j, rfl, rfl, rfl, rfl, by
 have e : PyData.eqv (.int i) (.int j) = decide (i = j) := by rw [show PyData.eqv (.int i) (.int j) = (i == j) by simp [PyData.eqv]]; exact beq_int
 simpa [e] using h⟩
theorem q_len (h : P (.int xs.length)) : rLen [.lst xs] P := h
theorem q_lenT (h : P (.int xs.length)) : rLen [.tup xs] P := h
theorem q_lenC {ns : List Int} (h : P (.int ns.length)) : rLen [.scr ns] P := h
theorem q_ix (e : atI xs i = some x) (h : P x) : rIxP (.lst xs) (.int i) P := ⟨x, e, h⟩
theorem q_ixT (e : atI xs i = some x) (h : P x) : rIxP (.tup xs) (.int i) P := ⟨x, e, h⟩
theorem q_ixC {ns : List Int} (e : atI ns i = some j) (h : P (.int j)) : rIxP (.scr ns) (.int i) P := ⟨j, e, h⟩
theorem q_max (h : P (.int (if j > i then j else i))) : rMax2 [.int i, .int j] P := h
theorem q_min (h : P (.int (if j < i then j else i))) : rMin2 [.int i, .int j] P := h
theorem q_abs (h : P (.int (if i < 0 then -i else i))) : rAbs [.int i] P := h
theorem q_all {bs : List Bool} (e : blsOf xs = some bs) (h : P (.bl (bs.all id))) : rAllP [.lst xs] P := ⟨bs, e, h⟩
theorem q_ite {p : Prop} [Decidable p] {A B : Prop} (h1 : p → A) (h2 : ¬ p → B) : if decide p = true then A else B := by
 by_cases h : p
 ·rw [if_pos (decide_eq_true h)]; exact h1 h
 ·rw [if_neg (by simp [h])]; exact h2 h
theorem q_iteT {A B : Prop} (h : A) : if true = true then A else B := h
theorem q_iteF {A B : Prop} (h : B) : if false = true then A else B := h
theorem q_cmp {p : Prop} [Decidable p] {A B : Prop} (h1 : p → A) (h2 : ¬ p → B) : if (!decide p) = true then B else A := by
 by_cases h : p
 ·rw [decide_eq_true h]; exact h1 h
 ·rw [decide_eq_false h]; exact h2 h
theorem q_it {A B : Prop} [Decidable True] (h : A) : if True then A else B := by rw [if_pos trivial]; exact h
theorem q_ixO {s : Nat} (e : η[s]? = some (.ow (.l xs))) (e1 : atI xs i = some x) (h : Q x η) : tIxOP s (fun η P => P (.int i) η) η Q := by
 refine ⟨⟨_, e⟩, ?_⟩
 show (match η[s]? with
 | some (.ow (.l xs)) => ∃ kk v, PV.int i = .int kk ∧ atI xs kk = some v ∧ Q v η
 | _ => False)
 rw [e]
 exact ⟨i, x, rfl, e1, h⟩
theorem q_setO {s : Nat} (e : η[s]? = some (.ow (.l xs))) (e1 : ixN xs.length i = some n) (h : R (η.set s (.ow (.l (xs.set n x))))) : gSubP s (fun η P => P (.int i) η) x η R := by
 refine ⟨⟨_, e⟩, ?_⟩
 show (match η[s]? with
 | some (.ow (.l xs)) => ∃ kk j, PV.int i = .int kk ∧ ixN xs.length kk = some j ∧ R (η.set s (.ow (.l (xs.set j x))))
 | _ => False)
 rw [e]
 exact ⟨i, n, rfl, e1, h⟩
theorem q_draw {s : Nat} {o : Ow} {C : Addr} {m : Int} {ta : TAp} (e : η[s]? = some (.ow o)) (ha : ta = fun η P => P [.int m] η) (hp : Pool o) (h0 : 0 < m) (h1 : m < 10 ^ 40) (h : ∀ o' (k : Int), Pool o' → 0 ≤ k → k < m → Q (.int k) (η.set s (.ow o'))) : tCallRP s (sp_law_draw K C) ta η Q := by
 subst ha
 refine ⟨⟨_, e⟩, ?_⟩
 show (match η[s]? with
 | some (.ow o) => sp_law_draw K C o [.int m] fun z o' => Q z (η.set s (.ow o'))
 | _ => False)
 rw [e]
 exact ⟨m, hp, rfl, h0, h1, fun o' k p a b => h o' k p a b⟩
variable {D : EndsP} {t u : TSp} {te ta tb : TEp} {tx : TAp} {tf : TFp} {s : Nat} {o : Ow} {r : R2p} {r1 : R1p} {tc td : TTp} {QA : List PV → EP' → Prop} {QB : Bool → EP' → Prop} {g : TGp} {ti : TIp}
theorem w_seq (h : t { D with nx := fun η' => u D η' } η) : tSeqP t u D η := h
theorem w_set (h : te η fun x η1 => D.nx (η1.set s (.va x))) : tSetP s te D η := h
theorem w_if (h : tc η fun b η1 => if b = true then t D η1 else u D η1) : tIfSP tc t u D η := h
theorem w_ret (h : te η D.rt) : tRetP te D η := h
theorem w_next (h : D.nx η) : tNextP D η := h
theorem w_asg (h : te η fun x η1 => g x η1 D.nx) : tAsgP te g D η := h
theorem w_con (h : Q x η) : tConP x η Q := h
theorem w_var (e : η[s]? = some (.va x)) (h : Q x η) : tVarP s η Q := by unfold tVarP; rw [e]; exact h
theorem w_varO (e : η[s]? = some (.ow o)) (h : Q (frz o) (η.set s (.va (frz o)))) : tVarP s η Q := by unfold tVarP; rw [e]; exact h
theorem w_op (h : ta η fun x η1 => tb η1 fun y η2 => r x y fun z => Q z η2) : tOpP r ta tb η Q := h
theorem w_cb (h : tx η fun xs η1 => r1 xs fun z => Q z η1) : tCBP r1 tx η Q := h
theorem w_nil (h : QA [] η) : tNilP η QA := h
theorem w_cons (h : te η fun x η1 => tx η1 fun xs η2 => QA (x :: xs) η2) : tConsP te tx η QA := h
theorem w_tup (h : tx η fun xs η1 => xs.length ≤ sizeLine ∧ Q (.tup xs) η1) : tTupP tx η Q := h
theorem w_lst (h : tx η fun xs η1 => xs.length ≤ sizeLine ∧ Q (.lst xs) η1) : tLstP tx η Q := h
theorem w_lstF (h : tx η fun xs η1 => xs.length ≤ sizeLine ∧ QA xs η1) : tLstFP tx η QA := h
theorem w_val (h : tf η fun xs η1 => Q (.lst xs) η1) : tValP tf η Q := h
theorem w_bl (h : te η fun x η1 => match x with | .bl b => QB b η1 | _ => False) : tBlP te η QB := h
theorem w_or (h : tc η fun c η1 => if c = true then QB true η1 else td η1 QB) : tOrP tc td η QB := h
theorem w_not (h : tc η fun c η1 => QB (!c) η1) : tNotP tc η QB := h
theorem w_ife (h : tc η fun c η1 => if c = true then ta η1 Q else tb η1 Q) : tIfP tc ta tb η Q := h
theorem w_call {sp : SpP} {dps : List PV} (h : tx η fun args η1 => sp (args ++ dps) fun z => Q z η1) : tCallP sp dps tx η Q := h
theorem w_lc {tt : TTp} {vs : List Nat} (h : ti η fun xs η1 => ∃ Inv : Nat → List PV → EP' → Prop, Inv 0 [] (wipeP η1 vs) ∧
 (∀ i x acc η2, xs[i]? = some x → Inv i acc η2 → g x (wipeP η2 vs) fun η3 => tt η3 fun b η4 => if b = true then te η4 fun y η5 => acc.length < sizeLine ∧ Inv (i + 1) (acc ++ [y]) (wipeP η5 vs) else Inv (i + 1) acc (wipeP η4 vs)) ∧
 (∀ acc η2, Inv xs.length acc η2 → QA acc η2)) : tLcP ti g tt te vs η QA := h
theorem w_for (h : ti η fun xs η1 => ∃ Inv : Nat → EP' → Prop, Inv 0 η1 ∧
 (∀ i x η2, xs[i]? = some x → Inv i η2 → g x η2 fun η3 => t { D with nx := Inv (i + 1), ct := Inv (i + 1), bk := D.nx } η3) ∧ (∀ η2, Inv xs.length η2 → D.nx η2)) : tForP ti g t D η := h
theorem w_rng1 (h : te η fun x η1 => match x with
 | .int j => -(2 ^ 62) ≤ j ∧ j < 2 ^ 62 ∧ QA (rangeP 0 j.toNat) η1
 | _ => False) : iRng1P te η QA := h
theorem rangeP_get {lo : Int} {n i : Nat} {x : PV} (h : (rangeP lo n)[i]? = some x) : i < n ∧ x = .int (lo + i) := by
 unfold rangeP at h
 rw [List.getElem?_map] at h
 by_cases hi : i < n
 ·rw [List.getElem?_range hi] at h
  cases h
  exact ⟨hi, rfl⟩
 ·rw [List.getElem?_eq_none (by simpa using hi)] at h; cases h
theorem rangeP_len {lo : Int} {n : Nat} : (rangeP lo n).length = n := by simp [rangeP]
theorem sz2 {a b : PV} : [a, b].length ≤ sizeLine := by show 2 ≤ sizeLine; decide
theorem w_gname {R : EP' → Prop} {x : PV} {η : EP'} {s : Nat} (h : R (η.set s (.va x))) : gNameP s x η R := h
theorem w_yes {QB : Bool → EP' → Prop} {η : EP'} (h : QB true η) : tYesP η QB := h
theorem w_join {ta tb : TEp} {η : EP'} {Q : PV → EP' → Prop} (h : ta η fun x η1 => (∃ z, x = .str z) ∧ tb η1 fun y η2 => match x, y with
 | .str z, .lst xs => ∃ ys, strsOf xs = some ys ∧ (ys.map (·.length)).sum + ys.length * z.length ≤ 16777216 ∧ Q (.str (Txt.join z ys)) η2
 | _, _ => False) : tJoinP ta tb η Q := h
theorem w_nop {η : EP'} {P : Option Int → EP' → Prop} (h : P none η) : tNoPartP η P := h
theorem w_part {te : TEp} {η : EP'} {P : Option Int → EP' → Prop} (h : te η fun x η1 => match x with
 | .int i => P (some i) η1
 | _ => False) : tPartP te η P := h
end
section
variable {K : PySem.W.Frag} {C : Addr} {args : List PV} {P : PV → Prop} {PR : PV → Ow → Prop} {PF : List PV → Prop} {o : Ow}
theorem cmul_l {i j : Int} (h : 0 ≤ i) (h' : i < 1000000007) : CMul i j := .inl ⟨by omega, by omega⟩
theorem mod_lo {i : Int} : 0 ≤ i % 1000000007 := Int.emod_nonneg _ (by decide)
theorem mod_hi {i : Int} : i % 1000000007 < 1000000007 := Int.emod_lt_of_pos _ (by decide)
theorem rd_law_draw (h : sp_law_draw K C o args PR) : ts_law_draw K C { nx := fun η' => ∃ o', η'[0]? = some (Sl.ow o') ∧ PR .non o', rt := fun x η' => ∃ o', η'[0]? = some (Sl.ow o') ∧ PR x o' } (startR 4 o args) := by
 obtain ⟨m, ⟨s, d, c, rfl, h1, h2, h3⟩, rfl, m1, m2, hp⟩ := h
 have e : startR 4 (.l [.int s, .int d, .int c]) [.int m] = [.ow (.l [.int s, .int d, .int c]), .va (.int m), .no, .no] := rfl
 simp only [ts_law_draw, e, tLcP, tForP, iStrP, iListP, iTupP, iRng1P, iRng2P, iEnumP, wipeP, tAppP, tJoinP, tSeqP, tRetP, tRetNP, tIfSP, tNextP, tNevP, tSetP, tSetFP, tDropP, tAsgP, gNameP, gNilP, gConsP, gTupP, tAndVP, tNotVP, tOrVP, tCBP, tConsP, tNilP, tVarP, tConP, tBlP, tOrP, tAndP, tNotP, tOpP, tChainP, tCallP, tCallFP, tTupP, tLstP, tLstFP, tValP, tIfP, tNegP, tSliceP, tNoPartP, tPartP, tSeqFP, tYesP, frz, List.getElem?_cons_zero, List.getElem?_cons_succ, List.set_cons_zero, List.set_cons_succ, List.append_nil, List.length_cons, List.length_nil, Nat.zero_add]
 refine q_ixO rfl rfl (q_add (q_setO rfl rfl (q_ixO rfl rfl (q_mod (by decide) (q_add (q_mul (cmul_l h1 h2) ?_))))))
 refine q_ixO rfl rfl (q_mul (.inl ⟨by decide, by decide⟩) (q_add (q_add (q_mod (by decide) (q_setO rfl rfl ?_)))))
 refine q_ixO rfl rfl (q_gt (q_ite (fun hd => ?_) fun hd => ?_))
 ·refine q_ixO rfl rfl (q_divmodW (cdivW m1 m2) ⟨rfl, q_setO rfl rfl ⟨rfl, _, rfl, ?_⟩⟩)
  exact hp _ _ ⟨_, _, _, rfl, mod_lo, mod_hi, Int.ediv_nonneg h3 (by omega)⟩ (Int.emod_nonneg _ (by omega)) (Int.emod_lt_of_pos _ m1)
 ·refine q_ixO rfl rfl ?_
  refine q_div ⟨by decide, by decide⟩ ?_
  refine q_mod m1 ⟨_, rfl, ?_⟩
  exact hp _ _ ⟨_, _, _, rfl, mod_lo, mod_hi, h3⟩ (Int.emod_nonneg _ (by omega)) (Int.emod_lt_of_pos _ m1)
theorem rd_law_pool (h : sp_law_pool K C args PF) : ts_law_pool K C (startP 2 args) (fun xs _ => PF xs) := by
 obtain ⟨c, rfl, hp⟩ := h
 have e : startP 2 [.int c] = [.va (.int c), .no] := rfl
 simp only [ts_law_pool, e, tLcP, tForP, iStrP, iListP, iTupP, iRng1P, iRng2P, iEnumP, wipeP, tAppP, tJoinP, tSeqP, tRetP, tRetNP, tIfSP, tNextP, tNevP, tSetP, tSetFP, tDropP, tAsgP, gNameP, gNilP, gConsP, gTupP, tAndVP, tNotVP, tOrVP, tCBP, tConsP, tNilP, tVarP, tConP, tBlP, tOrP, tAndP, tNotP, tOpP, tChainP, tCallP, tCallFP, tTupP, tLstP, tLstFP, tValP, tIfP, tNegP, tSliceP, tNoPartP, tPartP, tSeqFP, tYesP, frz, List.getElem?_cons_zero, List.getElem?_cons_succ, List.set_cons_zero, List.set_cons_succ, List.append_nil, List.length_cons, List.length_nil, Nat.zero_add]
 have hz : 10 ≤ sizeLine := by decide
 have key : ∀ d : Int, 0 ≤ d → PF [.int (c % 1000000007), .int d, .int 0] := fun d hd => hp _ _ mod_lo mod_hi hd
 refine q_lt (q_ite (fun hc => ?_) fun hc => ?_)
 ·refine q_it ?_
  refine q_abs ?_
  refine q_mod (by decide) ?_
  exact ⟨by omega, key _ (by split <;> omega)⟩
 ·refine q_pow ⟨by decide, by decide, by decide⟩ ?_
  refine q_ge (q_ite (fun hd => ?_) fun hd => ?_)
  ·refine q_abs ?_
   refine q_mod (by decide) ?_
   exact ⟨by omega, key _ (by split <;> omega)⟩
  ·refine q_mod (by decide) ?_
   exact ⟨by omega, key 0 (by decide)⟩
theorem atI_in {α : Type} {xs : List α} {k : Int} (h0 : 0 ≤ k) (h1 : k < xs.length) : ∃ v, atI xs k = some v ∧ xs[k.toNat]? = some v := by
 have h : k.toNat < xs.length := by omega
 refine ⟨xs[k.toNat], ?_, by simp [h]⟩
 have := atI_nat (xs := xs) (j := k.toNat) (v := xs[k.toNat]) (by simp [h])
 rwa [Int.toNat_of_nonneg h0] at this
theorem rd_law_cell (h : sp_law_cell K C args P) : ts_law_cell K C { nx := fun _ => P .non, rt := fun x _ => P x } (startP 4 args) := by
 obtain ⟨ns, k, rfl, hk, hk', hp⟩ := h
 have e : startP 4 [.scr ns, .int k] = [.va (.scr ns), .va (.int k), .no, .no] := rfl
 simp only [ts_law_cell, e, tLcP, tForP, iStrP, iListP, iTupP, iRng1P, iRng2P, iEnumP, wipeP, tAppP, tJoinP, tSeqP, tRetP, tRetNP, tIfSP, tNextP, tNevP, tSetP, tSetFP, tDropP, tAsgP, gNameP, gNilP, gConsP, gTupP, tAndVP, tNotVP, tOrVP, tCBP, tConsP, tNilP, tVarP, tConP, tBlP, tOrP, tAndP, tNotP, tOpP, tChainP, tCallP, tCallFP, tTupP, tLstP, tLstFP, tValP, tIfP, tNegP, tSliceP, tNoPartP, tPartP, tSeqFP, tYesP, frz, List.getElem?_cons_zero, List.getElem?_cons_succ, List.set_cons_zero, List.set_cons_succ, List.append_nil, List.length_cons, List.length_nil, Nat.zero_add]
 refine q_lenC (q_lt (q_ite (fun h1 => ?_) fun h1 => ?_))
 ·obtain ⟨v, hv, _⟩ := atI_in (xs := ns) hk h1
  exact q_ixC hv (hp v)
 ·refine q_mul (.inr ⟨by omega, by omega⟩) ?_
  refine q_mul (.inr ⟨by omega, by omega⟩) ?_
  refine q_add ?_
  refine q_add ?_
  refine q_mul (.inl ⟨by decide, by decide⟩) ?_
  refine q_mod (by decide) ?_
  refine ⟨fun i η => ∃ (c : Int) (t : Sl), η = [.va (.scr ns), .va (.int k), .va (.int c), t] ∧ 0 ≤ c ∧ c < 1000000007, ⟨_, _, rfl, mod_lo, mod_hi⟩, ?_, ?_⟩
  ·rintro i x η hi ⟨c, t, rfl, c1, c2⟩
   rw [List.getElem?_map] at hi
   cases q : (cutP ns none (some 3))[i]? with
   | none => rw [q] at hi; cases hi
   | some z =>
    rw [q] at hi; cases hi
    refine q_mul (cmul_l c1 c2) ?_
    refine q_add ?_
    refine q_mod (by decide) ?_
    exact ⟨_, _, rfl, mod_lo, mod_hi⟩
  ·rintro η ⟨c, t, rfl, _, _⟩
   exact hp c
theorem rd_valid_beginning (h : sp_valid_beginning K C args P) : ts_valid_beginning K C { nx := fun _ => P .non, rt := fun x _ => P x } (startP 4 args) := by
 obtain ⟨rs, rfl, hv, hp⟩ := h
 have e : startP 4 [rowsP rs] = [.va (rowsP rs), .no, .no, .no] := rfl
 simp only [ts_valid_beginning, e, rowsP, tLcP, tForP, iStrP, iListP, iTupP, iRng1P, iRng2P, iEnumP, wipeP, tAppP, tJoinP, tSeqP, tRetP, tRetNP, tIfSP, tNextP, tNevP, tSetP, tSetFP, tDropP, tAsgP, gNameP, gNilP, gConsP, gTupP, tAndVP, tNotVP, tOrVP, tCBP, tConsP, tNilP, tVarP, tConP, tBlP, tOrP, tAndP, tNotP, tOpP, tChainP, tCallP, tCallFP, tTupP, tLstP, tLstFP, tValP, tIfP, tNegP, tSliceP, tNoPartP, tPartP, tSeqFP, tYesP, frz, List.getElem?_cons_zero, List.getElem?_cons_succ, List.set_cons_zero, List.set_cons_succ, List.append_nil, List.length_cons, List.length_nil, Nat.zero_add]
 refine ⟨fun i η => ∃ b s t, η = [.va (.tup (rs.map rowP)), .va (.str b), s, t] ∧ ∀ r, rs[i]? = some r → b.cps.toList < r.1.cps.toList, ⟨_, _, _, rfl, fun r hr => ?_⟩, ?_, ?_⟩
 ·have := (hv.each r (List.mem_of_getElem? hr)).1
  have h1 : 1 ≤ r.1.length := by
   have : (decide (1 ≤ r.1.length) && _) = true := this
   exact of_decide_eq_true (Bool.and_eq_true_iff.mp this).1
  cases q : r.1.cps.toList with
  | nil =>
   have : r.1.length = 0 := by simpa [Str.length] using q
   omega
  | cons c cs => exact List.nil_lt_cons _ _
 ·rintro i x η hi ⟨b, s, t, rfl, hb⟩
  obtain ⟨y, hy, rfl⟩ := enumP_get hi
  rw [List.getElem?_map] at hy
  cases q : rs[i]? with
  | none => rw [q] at hy; cases hy
  | some r =>
   rw [q] at hy; cases hy
   have hil : i < rs.length := (List.getElem?_eq_some_iff.mp q).1
   have hlen := hv.len
   obtain ⟨e1, e2, e3⟩ := hv.each r (List.mem_of_getElem? q)
   have hbr := hb r q
   have h8 : r.1.length ≤ 8 := by
    have : (_ && (decide (r.1.length ≤ 8) && _)) = true := e1
    exact of_decide_eq_true (Bool.and_eq_true_iff.mp (Bool.and_eq_true_iff.mp this).2).1
   have hz : 10 ≤ sizeLine := by decide
   refine ⟨rfl, rfl, ?_⟩
   refine q_eq ?_
   refine q_ite (fun z => by omega) fun _ => ⟨r, rfl, by omega, ?_⟩
   rw [e1, decide_eq_true e2, decide_eq_true e3]
   refine q_iteF ?_
   refine q_ixT (x := .str r.1) rfl ?_
   refine q_leS ?_
   rw [decide_eq_true hbr]
   refine q_iteF ?_
   refine q_ixT (x := .str r.1) rfl ?_
   refine ⟨r.1, _, _, rfl, fun r' hr' => ?_⟩
   have hi' : i + 1 < rs.length := (List.getElem?_eq_some_iff.mp hr').1
   have := List.pairwise_iff_getElem.mp hv.asc i (i + 1) hil hi' (Nat.lt_succ_self i)
   rw [List.getElem?_eq_getElem hil] at q
   rw [List.getElem?_eq_getElem hi'] at hr'
   cases q; cases hr'
   exact this
 ·rintro η ⟨b, s, t, rfl, _⟩
  exact q_lenT (by rw [List.length_map]; exact hp)
def menu1 : List Str := [("book" : Str), ("cancel" : Str), ("exchange" : Str), ("shift" : Str), ("seats" : Str), ("undo" : Str), ("show" : Str), ("line" : Str), ("count" : Str), ("number" : Str), ("load" : Str), ("trip" : Str)]
def menu2 : List Str := [("none" : Str), ("cut" : Str), ("overfull" : Str), ("a" : Str), ("b" : Str), ("x" : Str), ("plan" : Str), ("route" : Str), ("fixed" : Str), ("full" : Str), ("goal" : Str), ("name" : Str)]
def menuL : List Str := menu1 ++ menu2
theorem at_map {α : Type} {f : α → PV} {xs : List α} {j : Int} (d : α) (h0 : 0 ≤ j) (h1 : j < xs.length) : atI (xs.map f) j = some (f (xs.getD j.toNat d)) := by
 have h : j.toNat < xs.length := by omega
 have e : (xs.map f)[j.toNat]? = some (f (xs.getD j.toNat d)) := by
  rw [List.getElem?_map, List.getElem?_eq_getElem h, List.getD_eq_getElem?_getD, List.getElem?_eq_getElem h]; rfl
 have := atI_nat e
 rwa [Int.toNat_of_nonneg h0] at this
def W0 (b n : Nat) : List Str := (List.range n).map fun k => menuL.getD ((b + 5 * k) % 24) Str.empty
theorem Nms.take {ws : List Str} (n : Nat) (h : Nms ws) : Nms (ws.take n) := ⟨fun w hw => h.1 w (List.mem_of_mem_take hw), h.2.sublist (List.take_sublist n ws)⟩
theorem map_take {α : Type} {f : Nat → α} {n m : Nat} (h : n ≤ m) : (List.range n).map f = ((List.range m).map f).take n := by
 rw [← List.map_take, List.take_range, Nat.min_eq_left h]
theorem w_par {is : List Nat} {tr : TArp} {D : EndsP} {η : EP'} (h : tr η fun ars η1 => ars.length = is.length ∧ okIx η1.length is ars ∧ D.nx (storesP is ars η1)) : tParP is tr D η := h
theorem w_arV {te : TEp} {tr : TArp} {η : EP'} {Q : List Ar → EP' → Prop} (h : te η fun x η1 => tr η1 fun ars η2 => Q (.v x :: ars) η2) : tConsV te tr η Q := h
theorem w_arN {η : EP'} {Q : List Ar → EP' → Prop} (h : Q [] η) : tNilAr η Q := h
def appM (s : Nat) (x : PV) (η : EP') (R : EP' → Prop) : Prop := match η[s]? with
 | some (.ow (.l xs)) => xs.length < sizeLine ∧ R (η.set s (.ow (.l (xs ++ [x]))))
 | _ => False
theorem w_app {s : Nat} {te : TEp} {D : EndsP} {η : EP'} {xs : List PV} (e : η[s]? = some (.ow (.l xs))) (h : te η fun x η1 => appM s x η1 D.nx) : tAppP s te D η := ⟨⟨xs, e⟩, h⟩
theorem q_appM {s : Nat} {x : PV} {η : EP'} {R : EP' → Prop} {xs : List PV} (e : η[s]? = some (.ow (.l xs))) (l : xs.length < sizeLine) (h : R (η.set s (.ow (.l (xs ++ [x]))))) : appM s x η R := by unfold appM; rw [e]; exact ⟨l, h⟩
theorem w_drop {te : TEp} {D : EndsP} {η : EP'} (h : te η fun _ η1 => D.nx η1) : tDropP te D η := h
theorem w_fldS {s : Nat} {f : Str} {te : TEp} {D : EndsP} {η : EP'} (h : te η fun x η1 => match η1[s]? with
 | some (.ow (.o C' fs)) => C' = C ∧ fs.length < 1000 ∧ D.nx (η1.set s (.ow (.o C (putFP f x fs))))
 | _ => False) : tFldSP C s f te D η := h
theorem w_sortL {i j : Int} {te : TEp} {η : EP'} {Q : PV → EP' → Prop} (h : te η fun x η1 => match x with
 | .tup xs => (∀ y ∈ xs, ∃ ys a b, y = .tup ys ∧ atI ys i = some a ∧ atI ys j = some b ∧ flatD a = true ∧ flatD b = true) ∧ PySem.W.AllAlike (xs.map (keyP i j)) ∧ xs.length ≤ sizeLine ∧ Q (.lst (xs.mergeSort (PySem.W.dataLe false (keyP i j)))) η1
 | _ => False) : tSortLP i j te η Q := h
theorem pf1 {n : Int} : putFP ("seat_count" : Str) (.int n) [] = [(("seat_count" : Str), .int n)] := rfl
theorem pf2 {n : Int} {x : PV} : putFP ("rows" : Str) x [(("seat_count" : Str), .int n)] = [(("seat_count" : Str), .int n), (("rows" : Str), x)] := by
 unfold putFP
 rw [if_neg (by decide)]
 rfl
theorem pf3 {n : Int} {x y : PV} : putFP ("queue" : Str) y [(("seat_count" : Str), .int n), (("rows" : Str), x)] = [(("seat_count" : Str), .int n), (("rows" : Str), x), (("queue" : Str), y)] := by
 unfold putFP
 rw [if_neg (by decide)]
 unfold putFP
 rw [if_neg (by decide)]
 rfl
theorem rd_Line_init (h : sp_Line_init K C o args PR) : ts_Line_init K C { nx := fun η' => ∃ o', η'[0]? = some (Sl.ow o') ∧ PR .non o', rt := fun x η' => ∃ o', η'[0]? = some (Sl.ow o') ∧ PR x o' } (startR 4 o args) := by
 obtain ⟨n, rs, rfl, rfl, n1, n2, hv, hp⟩ := h
 have e : startR 4 (.o C []) [.int n, rowsP rs] = [.ow (.o C []), .va (.int n), .va (rowsP rs), .no] := rfl
 rw [e]
 have sz : 100 < sizeLine := by decide
 have hl := hv.len
 refine w_seq (w_drop (w_call (w_cons (w_var rfl (w_nil ⟨n, rfl, n1, n2, ?_⟩)))))
 dsimp only
 refine w_seq (w_if (w_not (w_bl (w_cb (w_cons (w_var (x := .tup (rs.map rowP)) rfl (w_cons (w_con (w_nil (isi_tuple .t ?_))))))))))
 refine q_iteF ?_
 refine w_next ?_
 dsimp only
 refine w_seq (w_set (w_call (w_cons (w_var rfl (w_nil ⟨rs, rfl, hv, ?_⟩)))))
 simp only [List.set_cons_zero, List.set_cons_succ]
 refine w_seq (w_if (w_bl (w_op (w_var rfl (w_cb (w_cons (w_var (x := .tup (rs.map rowP)) rfl (w_nil (q_lenT (q_lt ?_))))))))))
 refine q_ite (fun z => ?_) fun _ => ?_
 ·rw [List.length_map] at z; omega
 refine w_next ?_
 dsimp only
 refine w_seq (w_fldS (w_var rfl ⟨rfl, by decide, ?_⟩))
 simp only [List.set_cons_zero, List.set_cons_succ, pf1]
 refine w_seq (w_fldS (w_var rfl ⟨rfl, by show 1 < 1000; decide, ?_⟩))
 simp only [List.set_cons_zero, List.set_cons_succ, pf2]
 refine w_fldS (w_cb (w_cons (w_sortL (w_var (x := .tup (rs.map rowP)) rfl ⟨?_, ?_, by rw [List.length_map]; omega, ?_⟩))))
 ·intro y hy
  obtain ⟨r, _, rfl⟩ := List.mem_map.mp hy
  exact ⟨_, .int r.2.1, .str r.1, rfl, rfl, rfl, rfl, rfl⟩
 ·intro d hd d' hd'
  rw [List.map_map] at hd hd'
  obtain ⟨a, _, rfl⟩ := List.mem_map.mp hd
  obtain ⟨b, _, rfl⟩ := List.mem_map.mp hd'
  show PySem.W.alike (.tuple [.int a.2.1, .str a.1]) (.tuple [.int b.2.1, .str b.1]) = true
  simp [PySem.W.alike, PySem.W.alikeAll]
 ·refine w_nil ⟨rfl, by show 2 < 1000; decide, ?_⟩
  simp only [List.set_cons_zero, List.set_cons_succ, pf3]
  exact ⟨_, rfl, hp⟩
end
def Near (rs : List Trip) : Prop := ∀ r ∈ rs, r.2.2 < 10 ^ 60
section
variable {K : PySem.W.Frag} {C : Addr} {args : List PV} {P : PV → Prop} {PR : PV → Ow → Prop} {o : Ow}
theorem rw_good {rs : List Trip} (h : Rw rs) : ∀ r ∈ rs, GoodR r := fun r hr => by
 obtain ⟨h1, h2, h3⟩ := h.each r hr
 refine ⟨fun c hc => ?_, h2, by omega⟩
 have e : (decide (1 ≤ r.1.length) && (decide (r.1.length ≤ 8) && r.1.cps.toList.all fun c => decide (c ∈ abc.cps.toList))) = true := h1
 have m := List.all_eq_true.mp (Bool.and_eq_true_iff.mp (Bool.and_eq_true_iff.mp e).2).2 c hc
 have m2 : c ∈ abc.cps.toList := of_decide_eq_true m
 have all : ∀ d ∈ abc.cps.toList, 97 ≤ d ∧ d ≤ 122 := by decide +kernel
 exact all c m2
theorem log_of {i : Int} (h0 : 0 ≤ i) (h : i < 10 ^ 70) : i.natAbs.log2 < 1920 := by
 obtain ⟨n, rfl⟩ := Int.eq_ofNat_of_zero_le h0
 have h2 : n < 10 ^ 70 := by omega
 show n.log2 < 1920
 by_cases hn : n = 0
 ·subst hn; decide
 ·exact (Nat.log2_lt hn).mpr (Nat.lt_of_lt_of_le h2 (by decide +kernel))
structure ShowR (r : Trip) : Prop where
 g : GoodR r
 l : r.1.length ≤ 8
 s : r.2.1 < 10 ^ 70
 e : r.2.2 < 10 ^ 70
theorem rw_show {rs : List Trip} (h : Rw rs) (hn : Near rs) : ∀ r ∈ rs, ShowR r := fun r hr => by
 obtain ⟨h1, h2, h3⟩ := h.each r hr
 have h4 := hn r hr
 have e : (decide (1 ≤ r.1.length) && (decide (r.1.length ≤ 8) && r.1.cps.toList.all fun c => decide (c ∈ abc.cps.toList))) = true := h1
 exact ⟨rw_good h r hr, of_decide_eq_true (Bool.and_eq_true_iff.mp (Bool.and_eq_true_iff.mp e).2).1, by omega, by omega⟩
theorem w_fld {f : Str} {te : TEp} {η : EP'} {Q : PV → EP' → Prop} (h : te η fun x η1 => match x with
 | .ins C' fs => C' = C ∧ ∃ y, fs.lookup f = some y ∧ Q y η1
 | _ => False) : tFldP C f te η Q := h
theorem w_andV {ta tb : TEp} {η : EP'} {Q : PV → EP' → Prop} (h : ta η fun x η1 => match x with | .bl true => tb η1 Q | .bl false => Q (.bl false) η1 | _ => False) : tAndVP ta tb η Q := h
theorem w_itup {te : TEp} {η : EP'} {Q : List PV → EP' → Prop} (h : te η fun x η1 => match x with
 | .tup xs => Q xs η1
 | _ => False) : iTupP te η Q := h
theorem w_star {te : TEp} {t : TAp} {η : EP'} {Q : List PV → EP' → Prop} (h : te η fun x η1 => match x with
 | .lst xs => t η1 fun ys η2 => Q (xs ++ ys) η2
 | .tup xs => t η1 fun ys η2 => Q (xs ++ ys) η2
 | _ => False) : tStarP te t η Q := h
theorem w_fmt {te : TEp} {η : EP'} {Q : PV → EP' → Prop} (h : te η fun x η1 => match x with
 | .str y => y.length ≤ sizeLine ∧ Q (.str y) η1
 | .int i => i.natAbs.log2 < 1920 ∧ Q (.str (toString i)) η1
 | _ => False) : tFmtP te η Q := h
theorem w_js {ts : List TEp} {η : EP'} {Q : PV → EP' → Prop} (h : tJsP ts Str.empty η fun out η' => Q (.str out) η') : tJoinedP ts η Q := h
theorem w_js0 {acc : Str} {η : EP'} {Q : Str → EP' → Prop} (h : Q acc η) : tJsP [] acc η Q := h
theorem w_js1 {t : TEp} {ts : List TEp} {acc : Str} {η : EP'} {Q : Str → EP' → Prop} (h : t η fun x η1 => ∃ y : Str, x = .str y ∧ (acc ++ y).length ≤ sizeLine ∧ tJsP ts (acc ++ y) η1 Q) : tJsP (t :: ts) acc η Q := h
theorem w_strO {sp : SpP} {t : TAp} {η : EP'} {Q : PV → EP' → Prop} (h : t η fun xs η1 => ∃ fs, xs = [.ins C fs] ∧ sp [.ins C fs] fun z => (∃ y, z = .str y) ∧ Q z η1) : tStrOP C sp t η Q := h
theorem w_prop' {sp : SpP} {ta : TEp} {η : EP'} {Q : PV → EP' → Prop} (h : ta η fun x η1 => (∃ fs, x = .ins C fs) ∧ sp [x] fun z => Q z η1) : tPropP C sp ta η Q := h
theorem w_sliceA {te : TEp} {tl th : TOp} {η : EP'} {Q : PV → EP' → Prop} (h : te η fun x η1 => tl η1 fun l η2 => th η2 fun u η3 => rSlA x l u fun z => Q z η3) : tSliceAP te tl th η Q := h
theorem q_neI {a b : Str} (h : P (.bl (!decide (a = b)))) : rEqI true (.str a) (.str b) P := h
theorem q_eqI {a b : Str} (h : P (.bl (decide (a = b)))) : rEqI false (.str a) (.str b) P := h
theorem len_app (a b : Str) : (a ++ b).length = a.length + b.length := Str.length_append a b
theorem strsOf_mapS : ∀ ys : List Str, strsOf (ys.map .str) = some ys
 | [] => rfl
 | y :: ys => by rw [List.map_cons, strsOf, strsOf_mapS ys]; rfl
theorem sum_le : ∀ {ys : List Str}, (∀ y ∈ ys, y.length ≤ 4000) → (ys.map (·.length)).sum ≤ 4000 * ys.length
 | [], _ => by simp
 | y :: ys, h => by
  have := h y List.mem_cons_self
  have := sum_le (ys := ys) fun z hz => h z (List.mem_cons_of_mem _ hz)
  rw [List.map_cons, List.sum_cons, List.length_cons]
  omega
theorem w_g3 {a b c : PV} {i j k : Nat} {η : EP'} {R : EP' → Prop} (h : R (((η.set i (.va a)).set j (.va b)).set k (.va c))) : gConsP (gNameP i) (gConsP (gNameP j) (gConsP (gNameP k) (gNilP))) [a, b, c] η R := ⟨rfl, h⟩
theorem q_addLL {xs ys : List PV} {Q : PV → Prop} (l : xs.length + ys.length ≤ sizeLine) (h : Q (.lst (xs ++ ys))) : rAdd (.lst xs) (.lst ys) Q := ⟨l, h⟩
theorem w_setF {i : Nat} {tf : TFp} {D : EndsP} {η : EP'} (h0 : (0 : Nat) ≠ i) (h : tf η fun xs η1 => i < η1.length ∧ D.nx (η1.set i (.ow (.l xs)))) : tSetFP i tf D η := ⟨h0, h⟩
end
def rowS (r : Trip) : Str := Str.empty ++ r.1 ++ ((":" : String) : Str) ++ ((toString r.2.1 : String) : Str) ++ (("-" : String) : Str) ++ ((toString r.2.2 : String) : Str)
def textS (n : Int) (rs : List Trip) : Str := Txt.join ((" " : String) : Str) (((toString n : String) : Str) :: rs.map rowS)
def reprS (n : Int) (rs : List Trip) : Str := Str.empty ++ (("Line('" : String) : Str) ++ textS n rs ++ (("')" : String) : Str)
theorem int_short {i : Int} (h0 : 0 ≤ i) (h : i < 10 ^ 60) : ((toString i : String) : Str).length ≤ 61 := by
 have e := int_text_length_le10 (a := i) (k := 60) (by decide) (by
  obtain ⟨n, rfl⟩ := Int.eq_ofNat_of_zero_le h0
  have : n < 10 ^ 60 := by omega
  exact this)
 rw [PySem.ofString_length]
 exact e
structure Short (r : Trip) : Prop where
 g : GoodR r
 l : r.1.length ≤ 8
 s : r.2.1 < 10 ^ 60
 e : r.2.2 < 10 ^ 60
theorem rw_short {rs : List Trip} (h : Rw rs) (hn : Near rs) : ∀ r ∈ rs, Short r := fun r hr => by
 obtain ⟨g, l, _, _⟩ := rw_show h hn r hr
 obtain ⟨h1, h2, h3⟩ := h.each r hr
 have h4 := hn r hr
 exact ⟨g, l, by omega, h4⟩
theorem rowS_len {r : Trip} (h : Short r) : (rowS r).length ≤ 132 := by
 have b1 := int_short h.g.s0 h.s
 have b2 := int_short h.g.e0 h.e
 have l := h.l
 have c1 : ((":" : String) : Str).length = 1 := rfl
 have c2 : (("-" : String) : Str).length = 1 := rfl
 have c0 : (Str.empty).length = 0 := rfl
 unfold rowS
 rw [len_app, len_app, len_app, len_app, len_app]
 omega
theorem joined_len {m k : Nat} {sep : Str} (hs : sep.length = k) : ∀ {l : List Str}, (∀ x ∈ l, x.length ≤ m) → (Str.join sep l).length ≤ (m + k) * l.length
 | [], _ => by show 0 ≤ _; omega
 | [x], h => by
  have := h x List.mem_cons_self
  show x.length ≤ (m + k) * 1
  omega
 | x :: y :: r, h => by
  have h1 := h x List.mem_cons_self
  have h2 := joined_len hs (l := y :: r) fun a ha => h a (List.mem_cons_of_mem _ ha)
  show (x ++ sep ++ Str.join sep (y :: r)).length ≤ _
  rw [len_app, len_app, List.length_cons, Nat.mul_add]
  omega
theorem textS_len {n : Int} {rs : List Trip} (h0 : 0 ≤ n) (h1 : n ≤ 20) (h : ∀ r ∈ rs, Short r) (hl : rs.length ≤ 24) : (textS n rs).length ≤ 3325 := by
 have h20 : (20 : Int) < 10 ^ 60 := by decide
 have b0 := int_short (i := n) h0 (by omega)
 have hs : ((" " : String) : Str).length = 1 := rfl
 have e : textS n rs = Str.join ((" " : String) : Str) (((toString n : String) : Str) :: rs.map rowS) := by
  unfold textS
  show Builtin.Str.glued _ _ = _
  rw [StrLaws.glued_eq_join]
 rw [e]
 have := joined_len (m := 132) hs (l := ((toString n : String) : Str) :: rs.map rowS) fun x hx => by
  rcases List.mem_cons.mp hx with rfl | hx
  ·omega
  ·obtain ⟨r, hr, rfl⟩ := List.mem_map.mp hx
   exact rowS_len (h r hr)
 rw [List.length_cons, List.length_map] at this
 omega
theorem log_of60 {i : Int} (h0 : 0 ≤ i) (h : i < 10 ^ 60) : i.natAbs.log2 < 1920 := by
 have h2 : (10 : Int) ^ 60 ≤ 10 ^ 70 := by decide
 exact log_of h0 (by omega)
def sp_Line_capacity : PrP := fun K C args P => ∃ n rs, args = [lineP C n rs] ∧ P (.int n)
def sp_Line_str : PrP := fun K C args P => ∃ n rs, args = [lineP C n rs] ∧ 1 ≤ n ∧ n ≤ 20 ∧ Rw rs ∧ Near rs ∧ P (.str (textS n rs))
def sp_Line_repr : PrP := fun K C args P => ∃ n rs, args = [lineP C n rs] ∧ 1 ≤ n ∧ n ≤ 20 ∧ Rw rs ∧ Near rs ∧ P (.str (reprS n rs))
def namedP (rs : List Trip) : PV → PV
 | .str w => match rs.find? (fun r => decide (r.1 = w)) with
  | some r => rowP r
  | none => .non
 | _ => .non
def sp_trip_named : PrP := fun K C args P => ∃ rs x, args = [rowsP rs, x] ∧ Kn K x ∧ P (namedP rs x)
def ts_Line_capacity (K : PySem.W.Frag) (CLine : Addr) : TSp := tRetP (tFldP CLine ("seat_count" : Str) (tVarP 0))
def ts_Line_str (K : PySem.W.Frag) (CLine : Addr) : TSp := tSeqP (tSetP 1 (tValP (tLcP (iTupP (tFldP CLine ("rows" : Str) (tVarP 0))) (gTupP 3 (gConsP (gNameP 2) (gConsP (gNameP 3) (gConsP (gNameP 4) (gNilP))))) (tYesP) (tJoinedP [tFmtP (tVarP 2), tConP (.str (":" : Str)), tFmtP (tVarP 3), tConP (.str ("-" : Str)), tFmtP (tVarP 4)]) [2, 3, 4]))) (tRetP (tJoinP (tConP (.str (" " : Str))) (tLstP (tConsP (tCBP rStr (tConsP (tFldP CLine ("seat_count" : Str) (tVarP 0)) (tNilP))) (tStarP (tVarP 1) (tNilP))))))
def ts_Line_repr (K : PySem.W.Frag) (CLine : Addr) : TSp := tRetP (tJoinedP [tConP (.str ("Line('" : Str)), tFmtP (tStrOP CLine (sp_Line_str K CLine) (tConsP (tVarP 0) (tNilP))), tConP (.str ("')" : Str))])
def ts_trip_named (K : PySem.W.Frag) (CLine : Addr) : TSp := tSeqP (tIfSP (tNotP (tBlP (tCBP (rIsI K) (tConsP (tVarP 1) (tConsP (tConP (.raw (.ty "str"))) (tNilP)))))) (tRetP (tConP .non)) (tNextP)) (tSeqP (tForP (iTupP (tVarP 0)) (gNameP 2) (tIfSP (tBlP (tOpP (rEqI false) (tOpP rIxP (tVarP 2) (tConP (.int 0))) (tVarP 1))) (tRetP (tVarP 2)) (tNextP))) (tRetP (tConP .non)))
section
variable {K : PySem.W.Frag} {C : Addr} {args : List PV} {P : PV → Prop} {PR : PV → Ow → Prop} {o : Ow}
theorem len_Line_capacity (h : sp_Line_capacity K C args P) : args.length = 1 := by
 obtain ⟨_, _, rfl, _⟩ := h; rfl
theorem len_Line_str (h : sp_Line_str K C args P) : args.length = 1 := by
 obtain ⟨_, _, rfl, _⟩ := h; rfl
theorem len_Line_repr (h : sp_Line_repr K C args P) : args.length = 1 := by
 obtain ⟨_, _, rfl, _⟩ := h; rfl
theorem len_trip_named (h : sp_trip_named K C args P) : args.length = 2 := by
 obtain ⟨_, _, rfl, _⟩ := h; rfl
theorem w_chain {r r' : R2p} {ta tb tc : TEp} {η : EP'} {Q : PV → EP' → Prop} (h : ta η fun x η1 => tb η1 fun y η2 => r x y fun z => ∃ k, z = .bl k ∧ if k = true then tc η2 fun w η3 => r' y w fun z' => Q z' η3 else Q (.bl false) η2) : tChainP r r' ta tb tc η Q := h
theorem take_map {α β : Type} {l : List α} {f : α → β} {i : Nat} {a : α} (h : l[i]? = some a) : (l.take (i + 1)).map f = (l.take i).map f ++ [f a] := by
 rw [List.take_succ, h, List.map_append]
 rfl
theorem take_filter {α : Type} {l : List α} {p : α → Bool} {i : Nat} {a : α} (h : l[i]? = some a) : (l.take (i + 1)).filter p = (l.take i).filter p ++ [a].filter p := by
 rw [List.take_succ, h, List.filter_append]
 rfl
theorem take_filterT {α : Type} {l : List α} {p : α → Bool} {i : Nat} {a : α} (h : l[i]? = some a) (hp : p a = true) : (l.take (i + 1)).filter p = (l.take i).filter p ++ [a] := by
 rw [take_filter h, List.filter_cons_of_pos hp]
 rfl
theorem take_filterF {α : Type} {l : List α} {p : α → Bool} {i : Nat} {a : α} (h : l[i]? = some a) (hp : p a = false) : (l.take (i + 1)).filter p = (l.take i).filter p := by
 rw [take_filter h, List.filter_cons_of_neg (by rw [hp]; decide)]
 exact List.append_nil _
theorem filt_len {α : Type} {l : List α} {p : α → Bool} {i : Nat} (h : l.length ≤ 24) : ((l.take i).filter p).length < sizeLine := by
 have h1 := List.length_filter_le p (l.take i)
 rw [List.length_take] at h1
 have : 1000 < sizeLine := by decide
 omega
theorem rd_Line_capacity (h : sp_Line_capacity K C args P) : ts_Line_capacity K C { nx := fun _ => P .non, rt := fun x _ => P x } (startP 1 args) := by
 obtain ⟨n, rs, rfl, hp⟩ := h
 exact ⟨rfl, _, rfl, hp⟩
theorem rd_Line_str (h : sp_Line_str K C args P) : ts_Line_str K C { nx := fun _ => P .non, rt := fun x _ => P x } (startP 5 args) := by
 obtain ⟨n, rs, rfl, h1, h2, hw, hn, hp⟩ := h
 have e : startP 5 [lineP C n rs] = [.va (lineP C n rs), .no, .no, .no, .no] := rfl
 rw [e]
 have hs := rw_short hw hn
 have hl := hw.len
 have sz : 16777216 ≤ sizeLine := by decide
 refine w_seq (w_set (w_val (w_lc (w_itup (w_fld (w_var rfl ⟨rfl, _, rfl, ?_⟩))))))
 refine ⟨fun i acc η => acc = ((rs.take i).map rowS).map .str ∧ η = [.va (lineP C n rs), .no, .no, .no, .no], ⟨rfl, rfl⟩, ?_, ?_⟩
 ·rintro i x acc η hi ⟨rfl, rfl⟩
  rw [List.getElem?_map] at hi
  obtain ⟨r, hr, rfl⟩ := Option.map_eq_some_iff.mp hi
  have hsr := hs r (List.mem_of_getElem? hr)
  have b1 := int_short hsr.g.s0 hsr.s
  have b2 := int_short hsr.g.e0 hsr.e
  have l := hsr.l
  have c1 : ((":" : String) : Str).length = 1 := rfl
  have c2 : (("-" : String) : Str).length = 1 := rfl
  have c0 : (Str.empty).length = 0 := rfl
  refine ⟨rfl, w_g3 (w_yes (q_iteT ?_))⟩
  refine w_js (w_js1 (w_fmt (w_var (x := .str r.1) rfl ⟨by omega, _, rfl, by rw [len_app]; omega, ?_⟩)))
  refine w_js1 (w_con ⟨_, rfl, by rw [len_app, len_app]; omega, ?_⟩)
  refine w_js1 (w_fmt (w_var (x := .int r.2.1) rfl ⟨log_of60 hsr.g.s0 hsr.s, _, rfl, by rw [len_app, len_app, len_app]; omega, ?_⟩))
  refine w_js1 (w_con ⟨_, rfl, by rw [len_app, len_app, len_app, len_app]; omega, ?_⟩)
  refine w_js1 (w_fmt (w_var (x := .int r.2.2) rfl ⟨log_of60 hsr.g.e0 hsr.e, _, rfl, by rw [len_app, len_app, len_app, len_app, len_app]; omega, ?_⟩))
  refine w_js0 ⟨by rw [List.length_map, List.length_map, List.length_take]; omega, ?_, rfl⟩
  rw [take_map hr, List.map_append]
  rfl
 ·rintro acc η ⟨rfl, rfl⟩
  rw [List.length_map, List.take_length]
  simp only [List.set_cons_zero, List.set_cons_succ]
  have h20 : (20 : Int) < 10 ^ 60 := by decide
  have b0 := int_short (i := n) (by omega) (by omega)
  refine w_ret (w_join (w_con ⟨⟨_, rfl⟩, ?_⟩))
  refine w_lst (w_cons (w_cb (w_cons (w_fld (w_var rfl ⟨rfl, _, rfl, w_nil ⟨log_of60 (by omega) (by omega), ?_⟩⟩)))))
  refine w_star (w_var rfl (w_nil ⟨by rw [List.length_cons, List.length_append, List.length_map, List.length_map, List.length_nil]; omega, ?_⟩))
  refine ⟨((toString n : String) : Str) :: rs.map rowS, ?_, ?_, hp⟩
  ·rw [List.append_nil, strsOf, strsOf_mapS]; rfl
  ·have hsum := sum_le (ys := rs.map rowS) fun y hy => by
    obtain ⟨r, hr, rfl⟩ := List.mem_map.mp hy
    have := rowS_len (hs r hr)
    omega
   rw [List.length_map] at hsum
   rw [List.map_cons, List.sum_cons, List.length_cons, List.length_map, show ((" " : String) : Str).length = 1 from rfl]
   omega
theorem rd_Line_repr (h : sp_Line_repr K C args P) : ts_Line_repr K C { nx := fun _ => P .non, rt := fun x _ => P x } (startP 1 args) := by
 obtain ⟨n, rs, rfl, h1, h2, hw, hn, hp⟩ := h
 have e : startP 1 [lineP C n rs] = [.va (lineP C n rs)] := rfl
 rw [e]
 have hs := rw_short hw hn
 have tl := textS_len (n := n) (by omega) h2 hs hw.len
 have sz : 16777216 ≤ sizeLine := by decide
 have c1 : (("Line('" : String) : Str).length = 6 := rfl
 have c2 : (("')" : String) : Str).length = 2 := rfl
 have c0 : (Str.empty).length = 0 := rfl
 refine w_ret (w_js (w_js1 (w_con ⟨_, rfl, by rw [len_app]; omega, ?_⟩)))
 refine w_js1 (w_fmt (w_strO (w_cons (w_var rfl (w_nil ⟨_, rfl, n, rs, rfl, h1, h2, hw, hn, ⟨_, rfl⟩, ?_⟩)))))
 refine ⟨by omega, _, rfl, by rw [len_app, len_app]; omega, ?_⟩
 refine w_js1 (w_con ⟨_, rfl, by rw [len_app, len_app, len_app]; omega, ?_⟩)
 exact w_js0 hp
theorem rd_trip_named (h : sp_trip_named K C args P) : ts_trip_named K C { nx := fun _ => P .non, rt := fun x _ => P x } (startP 3 args) := by
 obtain ⟨rs, x, rfl, kn, hp⟩ := h
 have e : startP 3 [rowsP rs, x] = [.va (rowsP rs), .va x, .no] := rfl
 rw [e]
 refine w_seq (w_if (w_not (w_bl (w_cb (w_cons (w_var (x := x) rfl (w_cons (w_con (w_nil (isi_str kn ?_))))))))))
 cases x with
 | str w =>
  refine q_iteF (w_next ?_)
  dsimp only
  refine w_seq (w_for (w_itup (w_var (x := rowsP rs) rfl ⟨fun i η => (∀ r ∈ rs.take i, r.1 ≠ w) ∧ ∃ s, η = [.va (rowsP rs), .va (.str w), s], ⟨fun _ z => (by cases z), _, rfl⟩, ?_, ?_⟩)))
  ·rintro i x η hi ⟨hn, s, rfl⟩
   rw [List.getElem?_map] at hi
   obtain ⟨r, hr, rfl⟩ := Option.map_eq_some_iff.mp hi
   refine w_gname ?_
   simp only [List.set_cons_zero, List.set_cons_succ]
   refine w_if (w_bl (w_op (w_op (w_var (x := rowP r) rfl (w_con (q_ixT rfl (w_var (x := .str w) rfl (q_eqI ?_))))))))
   refine q_ite (fun e1 => w_ret (w_var (x := rowP r) rfl ?_)) fun ne => w_next ⟨fun q hq => ?_, _, rfl⟩
   ·have f : rs.find? (fun r => decide (r.1 = w)) = some r := by
     obtain ⟨hil, er⟩ := List.getElem?_eq_some_iff.mp hr
     have sp : rs = rs.take i ++ r :: rs.drop (i + 1) := by rw [← er, List.getElem_cons_drop, List.take_append_drop]
     rw [sp, List.find?_append, List.find?_eq_none.mpr (fun q hq => by simpa using hn q hq)]
     simp [e1]
    unfold namedP at hp
    simp only [f] at hp
    exact hp
   ·rw [List.take_succ, hr] at hq
    rcases List.mem_append.mp hq with z | z
    ·exact hn q z
    ·have z2 : q = r := by simpa using z
     rw [z2]
     exact ne
  ·rintro η ⟨hn, s, rfl⟩
   rw [List.length_map, List.take_length] at hn
   have f : rs.find? (fun r => decide (r.1 = w)) = none := List.find?_eq_none.mpr fun q hq => by simpa using hn q hq
   unfold namedP at hp
   simp only [f] at hp
   dsimp only
   exact w_ret (w_con hp)
 | _ =>
  refine q_iteT ?_
  refine w_ret ?_
  exact w_con hp
theorem q_eqN {a b : Int} (h : P (.bl (decide (a = b)))) : rEqI false (.int a) (.int b) P := h
end
def meetB (a b : Trip) : Bool := decide (a.2.1 < b.2.2) && decide (b.2.1 < a.2.2)
def sp_meet : PrP := fun K C args P => ∃ a b, args = [rowP a, rowP b] ∧ P (.bl (meetB a b))
def ts_meet (K : PySem.W.Frag) (CLine : Addr) : TSp := tRetP (tAndVP (tOpP rLt (tOpP rIxP (tVarP 0) (tConP (.int 1))) (tOpP rIxP (tVarP 1) (tConP (.int 2)))) (tOpP rLt (tOpP rIxP (tVarP 1) (tConP (.int 1))) (tOpP rIxP (tVarP 0) (tConP (.int 2)))))
section
variable {K : PySem.W.Frag} {C : Addr} {args : List PV} {P : PV → Prop} {PR : PV → Ow → Prop} {o : Ow}
theorem len_meet (h : sp_meet K C args P) : args.length = 2 := by
 obtain ⟨_, _, rfl, _⟩ := h; rfl
theorem w_lstP {te : TEp} {η : EP'} {Q : List PV → EP' → Prop} (h : te η fun x η1 => match x with | .lst xs => Q xs η1 | .scr ns => Q (ns.map .int) η1 | _ => False) : iListP te η Q := h
theorem rd_meet (h : sp_meet K C args P) : ts_meet K C { nx := fun _ => P .non, rt := fun x _ => P x } (startP 2 args) := by
 obtain ⟨a, b, rfl, hp⟩ := h
 have e : startP 2 [rowP a, rowP b] = [.va (rowP a), .va (rowP b)] := rfl
 rw [e]
 refine w_ret (w_andV (w_op (w_op (w_var (x := rowP a) rfl (w_con (q_ixT (x := .int a.2.1) rfl (w_op (w_var (x := rowP b) rfl (w_con (q_ixT (x := .int b.2.2) rfl (q_lt ?_)))))))))))
 unfold meetB at hp
 by_cases c1 : a.2.1 < b.2.2
 ·rw [decide_eq_true c1] at hp ⊢
  refine w_op (w_op (w_var (x := rowP b) rfl (w_con (q_ixT (x := .int b.2.1) rfl (w_op (w_var (x := rowP a) rfl (w_con (q_ixT (x := .int a.2.2) rfl (q_lt ?_)))))))))
  rw [Bool.true_and] at hp
  exact hp
 ·rw [decide_eq_false c1] at hp ⊢
  exact hp
end
end Z
namespace Z
open PySem PySem.Spec L2 GenW
open PyProof.Rows hiding St
section
variable {X : Cx} {T : List (Addr × Str)} {e o c : Expr} {es : List Expr} {st : Stmt} {body rest : List Stmt} {te ta : TEp} {t : TAp} {tt : TTp} {ts tb : TSp} {pos p p' pos' : Pos} {k : Nat} {f : Addr} {fd : FuncData} {ps : List Str} {x nm : Str} {i : Nat}
structure GEndsP where
 nx : List PV → EP' → Prop
abbrev TGSp := GEndsP → List PV → EP' → Prop
theorem GS.weak {t t' : TGn} (h : GS X st t) (w : ∀ D ys σ H, t' D ys σ H → t D ys σ H) : GS X st t' := ⟨fun A S ip R n ys s₀ c fs K J gd lv s σ H D g hn kk hI ht => h.run A S ip R n ys s₀ c fs K J gd lv s σ H D g hn kk hI (w _ _ _ _ ht)⟩
theorem GSs.weak {t t' : TGn} (h : GSs X body t) (w : ∀ D ys σ H, t' D ys σ H → t D ys σ H) : GSs X body t' := ⟨fun A S ip R n ys s₀ c fs K J gd lv s σ H D g hn kk hI ht => h.run A S ip R n ys s₀ c fs K J gd lv s σ H D g hn kk hI (w _ _ _ _ ht)⟩
end
end Z
namespace Z
open PySem PySem.Spec L2
open PyProof.Rows hiding St
theorem Room.u1 {k : Nat} {A : Around} (h : Room k A) : A.units + 1 < cLine := by have := h.units; omega
def valP : List (Key × PV) → Key → Option PV
 | [], _ => none
 | p :: r, k => if p.1 = k then some p.2 else valP r k
def putP (kvs : List (Key × PV)) (k : Key) (x : PV) : List (Key × PV) :=
 if (kvs.any fun kv => decide (kv.1 = k)) = true then kvs.map (fun kv => if kv.1 = k then (kv.1, x) else kv) else kvs ++ [(k, x)]
section
variable {K : PySem.W.Frag} {O O' : Addr → Prop} {H H' : Hp}
theorem RepD.inv {n : Key} {x : PV} {xs : List (Key × PV)} {vs : List (Key × V)} (h : RepD K O H ((n, x) :: xs) vs) : ∃ v us, vs = (n, v) :: us ∧ Rep K O H x v ∧ RepD K O H xs us := by unfold RepD at h; exact h
theorem RepD.inv0 {vs : List (Key × V)} (h : RepD K O H [] vs) : vs = [] := by unfold RepD at h; exact h
theorem RepD.cons {n : Key} {x : PV} {v : V} {xs : List (Key × PV)} {vs : List (Key × V)} (h : Rep K O H x v) (t : RepD K O H xs vs) : RepD K O H ((n, x) :: xs) ((n, v) :: vs) := by unfold RepD; exact ⟨v, vs, rfl, h, t⟩
theorem RepD.app : ∀ {xs ys : List (Key × PV)} {vs us : List (Key × V)}, RepD K O H xs vs → RepD K O H ys us → RepD K O H (xs ++ ys) (vs ++ us)
 | [], _, _, _, h, t => by rw [h.inv0]; exact t
 | (n, x) :: xs, _, _, _, h, t => by
  obtain ⟨v, us, rfl, r, q⟩ := h.inv
  exact .cons r (q.app t)
theorem RepD.val : ∀ {xs : List (Key × PV)} {vs : List (Key × V)} (k : Key), RepD K O H xs vs → (∀ x, valP xs k = some x → ∃ v, valV vs k = some v ∧ Rep K O H x v) ∧ (valP xs k = none → valV vs k = none)
 | [], _, k, h => by
  rw [h.inv0]
  exact ⟨fun x e => (nomatch e), fun _ => rfl⟩
 | (n, x) :: xs, _, k, h => by
  obtain ⟨v, us, rfl, r, t⟩ := h.inv
  obtain ⟨h1, h2⟩ := t.val k
  by_cases e : n = k
  ·refine ⟨fun y q => ?_, fun q => ?_⟩
   ·unfold valP at q; rw [if_pos e] at q; cases q
    exact ⟨v, valV_pos (p := (n, v)) e, r⟩
   ·unfold valP at q; rw [if_pos e] at q; cases q
  ·rw [valV_neg (p := (n, v)) e]
   unfold valP; rw [if_neg e]
   exact ⟨h1, h2⟩
theorem RepD.any : ∀ {xs : List (Key × PV)} {vs : List (Key × V)} (k : Key), RepD K O H xs vs → (vs.any fun kv => decide (kv.1 = k)) = (xs.any fun kv => decide (kv.1 = k))
 | [], _, k, h => by rw [h.inv0]; rfl
 | (n, x) :: xs, _, k, h => by
  obtain ⟨v, us, rfl, r, t⟩ := h.inv
  rw [List.any_cons, List.any_cons, t.any k]
theorem RepD.repl : ∀ {xs : List (Key × PV)} {vs : List (Key × V)} (k : Key) {y : PV} {u : V}, RepD K O H xs vs → Rep K O H y u → RepD K O H (xs.map fun kv => if kv.1 = k then (kv.1, y) else kv) (vs.map fun kv => if kv.1 = k then (kv.1, u) else kv)
 | [], _, k, _, _, h, _ => by rw [h.inv0]; exact .nil
 | (n, x) :: xs, _, k, _, _, h, ry => by
  obtain ⟨v, us, rfl, r, t⟩ := h.inv
  rw [List.map_cons, List.map_cons]
  by_cases e : n = k
  ·rw [if_pos e, if_pos e]; exact .cons ry (t.repl k ry)
  ·rw [if_neg e, if_neg e]; exact .cons r (t.repl k ry)
theorem RepD.put {xs : List (Key × PV)} {vs : List (Key × V)} (k : Key) {y : PV} {u : V} (h : RepD K O H xs vs) (ry : Rep K O H y u) : RepD K O H (putP xs k y) (putK vs k u) := by
 unfold putP putK
 rw [h.any k]
 split
 ·exact h.repl k ry
 ·exact h.app (.cons ry .nil)
theorem Rep.dic_ {kvs : List (Key × PV)} {v : V} (h : Rep K O H (.dic kvs) v) : ∃ a ws, v = .ref a ∧ ¬ O a ∧ H a = some (.dK ws) ∧ RepD K O H kvs ws := by unfold Rep at h; exact h
end
abbrev TFDp := EP' → (List (Key × PV) → EP' → Prop) → Prop
section
variable {X : Cx} {T : List (Addr × Str)} {e o a b : Expr} {es : List Expr} {te ta tb ti : TEp} {t : TAp} {tr : TArp} {tf : TFDp} {pos : Pos} {i : Nat}
end
end Z
namespace Z
open PySem PySem.Spec L2
open PyProof.Rows hiding St
inductive Ab where
 | v (x : PV) | b (i : Nat)
abbrev TAbp := EP' → (List Ab → EP' → Prop) → Prop
mutual
def tpV : PV → Bool
 | .tup xs => tpVs xs
 | .pln xs => tpVs xs
 | .non => true
 | .bl _ => true
 | .int _ => true
 | .str _ => true
 | _ => false
def tpVs : List PV → Bool
 | [] => true
 | x :: xs => tpV x && tpVs xs
end
section
variable {K : PySem.W.Frag} {O O' : Addr → Prop} {H H' : Hp}
mutual
theorem tpV_back (hB : ∀ a, O' a → ¬ O a → ∀ vs, ¬ Rd H a (.tup vs)) : ∀ (x : PV) (v : V), tpV x = true → Rep K O H x v → Rep K O' H x v
 | .tup xs, v, e, h => by
  obtain ⟨a, vs, rfl, t, r⟩ := h.tup_
  unfold tpV at e
  unfold Rep
  refine ⟨a, vs, rfl, ?_, tpVs_back hB xs vs e r⟩
  rcases t with ⟨n, q⟩ | t
  ·exact .inl ⟨fun z => hB a z n vs q, q⟩
  ·exact .inr t
 | .pln xs, v, e, h => by
  unfold tpV at e
  unfold Rep at h ⊢
  obtain ⟨a, vs, o, rfl, n, q, d, r⟩ := h
  exact ⟨a, vs, o, rfl, fun z => hB a z n vs (.inr ⟨o, q⟩), q, d, tpVs_back hB xs vs e r⟩
 | .non, _, _, h => by unfold Rep at h ⊢; exact h
 | .bl _, _, _, h => by unfold Rep at h ⊢; exact h
 | .int _, _, _, h => by unfold Rep at h ⊢; exact h
 | .str _, _, _, h => by unfold Rep at h ⊢; exact h
 | .lst _, _, e, _ => by unfold tpV at e; cases e
 | .scr _, _, e, _ => by unfold tpV at e; cases e
 | .ins _ _, _, e, _ => by unfold tpV at e; cases e
 | .dic _, _, e, _ => by unfold tpV at e; cases e
 | .raw _, _, e, _ => by unfold tpV at e; cases e
theorem tpVs_back (hB : ∀ a, O' a → ¬ O a → ∀ vs, ¬ Rd H a (.tup vs)) : ∀ (xs : List PV) (vs : List V), tpVs xs = true → Reps K O H xs vs → Reps K O' H xs vs
 | [], _, _, h => by rw [h.inv0]; exact .nil
 | x :: xs, _, e, h => by
  obtain ⟨v, us, rfl, r, t⟩ := h.inv
  unfold tpVs at e
  rw [Bool.and_eq_true] at e
  exact .cons (tpV_back hB x v e.1 r) (tpVs_back hB xs us e.2 t)
end
end
end Z
namespace Z
open PySem PySem.Spec L2
open PyProof.Rows hiding St
abbrev Seat := Trip × Int
def seatP (x : Seat) : PV := .tup [rowP x.1, .int x.2]
def takenL (r : Trip) (sd : List Seat) : List Int := (sd.filter fun x => meetB r x.1).map fun x => x.2
def upto (n : Int) : List Int := (List.range n.toNat).map fun (i : Nat) => 1 + (i : Int)
def leftL (n : Int) (r : Trip) (sd : List Seat) : List Int := (upto n).filter fun s => !decide (s ∈ takenL r sd)
def KnP (K : PySem.W.Frag) (x : PV) : Prop := Kn K x ∧ ∀ a b, x = .tup [a, b] → Kn K a ∧ Kn K b
def isPairB : PV → Bool
 | .tup xs => decide ((xs.length : Int) = 2)
 | _ => false
def isSeatB (n : Int) : PV → Bool
 | .int s => decide (1 ≤ s) && decide (s ≤ n)
 | _ => false
def hasName (rs : List Trip) : PV → Bool
 | .str w => (rs.find? fun r => decide (r.1 = w)).isSome
 | _ => false
def pairOkB (n : Int) (rs : List Trip) : PV → Bool
 | .tup [a, b] => hasName rs a && isSeatB n b
 | _ => false
def seatV (n : Int) (r : Trip) (sd : List Seat) : PV → Option Int
 | .tup [.str w, .int s] => if w = r.1 ∧ s ∈ leftL n r sd then some s else none
 | _ => none
def validGo (n : Int) : List Trip → List PV → List Seat → Nat
 | r :: q, x :: xs, sd => match seatV n r sd x with
  | some s => validGo n q xs (sd ++ [(r, s)])
  | none => sd.length
 | _, _, sd => sd.length
abbrev PrF := PySem.W.Frag → Addr → SpF
def sp_is_pair : PrP := fun K C args P => ∃ x, args = [x] ∧ Kn K x ∧ P (.bl (isPairB x))
def sp_is_seat : PrP := fun K C args P => ∃ x n, args = [x, .int n] ∧ Kn K x ∧ P (.bl (isSeatB n x))
def sp_names_trip_and_seat : PrP := fun K C args P => ∃ n rs x, args = [lineP C n rs, x] ∧ KnP K x ∧ P (.bl (pairOkB n rs x))
def sp_seats_left : PrF := fun K C args P => ∃ n r sd, args = [.int n, rowP r, .lst (sd.map seatP)] ∧ 0 ≤ n ∧ n ≤ 20 ∧ sd.length ≤ 24 ∧ P ((leftL n r sd).map .int)
def sp_valid_pairs : PrP := fun K C args P => ∃ n rs xs, args = [lineP C n rs, .tup xs] ∧ 1 ≤ n ∧ n ≤ 20 ∧ Rw rs ∧ (∀ x ∈ xs, KnP K x) ∧ P (.int (validGo n rs xs []))
def ts_is_pair (K : PySem.W.Frag) (CLine : Addr) : TSp := tRetP (tAndVP (tCBP (rIsI K) (tConsP (tVarP 0) (tConsP (tConP (.raw (.ty "tuple"))) (tNilP)))) (tOpP (rEqI false) (tCBP rLen (tConsP (tVarP 0) (tNilP))) (tConP (.int 2))))
def ts_is_seat (K : PySem.W.Frag) (CLine : Addr) : TSp := tRetP (tAndVP (tCallP (sp_is_integer K CLine) [] (tConsP (tVarP 0) (tNilP))) (tChainP rLe rLe (tConP (.int 1)) (tVarP 0) (tVarP 1)))
def ts_names_trip_and_seat (K : PySem.W.Frag) (CLine : Addr) : TSp := tSeqP (tIfSP (tNotP (tBlP (tCallP (sp_is_pair K CLine) [] (tConsP (tVarP 1) (tNilP))))) (tRetP (tConP (.bl false))) (tNextP)) (tSeqP (tAsgP (tVarP 1) (gTupP 2 (gConsP (gNameP 2) (gConsP (gNameP 3) (gNilP))))) (tRetP (tAndVP (tOpP (rIsN true) (tCallP (sp_trip_named K CLine) [] (tConsP (tPropP CLine (sp_Line_trips K CLine) (tVarP 0)) (tConsP (tVarP 2) (tNilP)))) (tConP .non)) (tCallP (sp_is_seat K CLine) [] (tConsP (tVarP 3) (tConsP (tPropP CLine (sp_Line_capacity K CLine) (tVarP 0)) (tNilP)))))))
def ts_seats_left (K : PySem.W.Frag) (CLine : Addr) : TFp := tSeqFP (tSetP 3 (tValP (tLcP (iListP (tVarP 2)) (gTupP 2 (gConsP (gNameP 4) (gConsP (gNameP 5) (gNilP)))) (tBlP (tCallP (sp_meet K CLine) [] (tConsP (tVarP 1) (tConsP (tVarP 4) (tNilP))))) (tVarP 5) [4, 5]))) (tLcP (iRng2P (tConP (.int 1)) (tOpP rAdd (tVarP 0) (tConP (.int 1)))) (gNameP 5) (tBlP (tOpP (rInL true) (tVarP 5) (tVarP 3))) (tVarP 5) [5])
def ts_valid_pairs (K : PySem.W.Frag) (CLine : Addr) : TSp := tSeqP (tSetFP 2 (tLstFP (tNilP))) (tSeqP (tForP (iZipP (tConsP (tPropP CLine (sp_Line_trips K CLine) (tVarP 0)) (tConsP (tVarP 1) (tNilP)))) (gTupP 2 (gConsP (gNameP 3) (gConsP (gNameP 4) (gNilP)))) (tSeqP (tIfSP (tOrP (tNotP (tBlP (tCallP (sp_names_trip_and_seat K CLine) [] (tConsP (tVarP 0) (tConsP (tVarP 4) (tNilP)))))) (tBlP (tOpP (rEqI true) (tOpP rIxP (tVarP 4) (tConP (.int 0))) (tOpP rIxP (tVarP 3) (tConP (.int 0)))))) (tRetP (tCBP rLen (tConsP (tVarP 2) (tNilP)))) (tNextP)) (tSeqP (tIfSP (tBlP (tOpP (rInL true) (tOpP rIxP (tVarP 4) (tConP (.int 1))) (tValP (tCallFOP (sp_seats_left K CLine) (tConsP (tPropP CLine (sp_Line_capacity K CLine) (tVarP 0)) (tConsP (tVarP 3) (tNilP))) 2)))) (tRetP (tCBP rLen (tConsP (tVarP 2) (tNilP)))) (tNextP)) (tAppP 2 (tTupP (tConsP (tVarP 3) (tConsP (tOpP rIxP (tVarP 4) (tConP (.int 1))) (tNilP)))))))) (tRetP (tCBP rLen (tConsP (tVarP 2) (tNilP)))))
section
variable {K : PySem.W.Frag} {C : Addr} {args : List PV} {P : PV → Prop} {PR : PV → Ow → Prop} {PF : List PV → Prop} {o : Ow}
theorem len_is_pair (h : sp_is_pair K C args P) : args.length = 1 := by
 obtain ⟨_, rfl, _⟩ := h; rfl
theorem len_is_seat (h : sp_is_seat K C args P) : args.length = 2 := by
 obtain ⟨_, _, rfl, _⟩ := h; rfl
theorem len_names_trip_and_seat (h : sp_names_trip_and_seat K C args P) : args.length = 2 := by
 obtain ⟨_, _, _, rfl, _⟩ := h; rfl
theorem len_seats_left (h : sp_seats_left K C args PF) : args.length = 3 := by
 obtain ⟨_, _, _, rfl, _⟩ := h; rfl
theorem len_valid_pairs (h : sp_valid_pairs K C args P) : args.length = 2 := by
 obtain ⟨_, _, _, rfl, _⟩ := h; rfl
end
theorem flVs_ints : ∀ ns : List Int, flVs (ns.map .int) = some (ns.map V.int)
 | [] => rfl
 | w :: ws => by rw [List.map_cons, flVs, flVs_ints ws]; rfl
theorem inV_ints (x : Int) : ∀ ns : List Int, inV (.int x) (ns.map V.int) = decide (x ∈ ns)
 | [] => rfl
 | w :: ws => by
  have e : inV (.int x) ((w :: ws).map V.int) = (decide (x = w) || inV (.int x) (ws.map V.int)) := by
   show (List.any _ _) = _
   rw [List.map_cons, List.any_cons]
   congr 1
   by_cases h : x = w
   ·subst h; simp [eqV]
   ·have h' : w ≠ x := fun z => h z.symm
    simp [eqV, h, h']
  rw [e, inV_ints x ws]
  by_cases h : x = w <;> simp [h]
theorem q_notInI {x : Int} {ws : List Int} {Q : PV → Prop} (h : Q (.bl (!decide (x ∈ ws)))) : rInL true (.int x) (.lst (ws.map .int)) Q := ⟨_, _, _, rfl, rfl, flVs_ints ws, by rw [if_pos rfl, inV_ints]; exact h⟩
theorem upto_mem {n s : Int} : s ∈ upto n ↔ 1 ≤ s ∧ s ≤ n := by
 unfold upto
 rw [List.mem_map]
 constructor
 ·rintro ⟨i, hi, rfl⟩
  have := List.mem_range.mp hi
  omega
 ·rintro ⟨h1, h2⟩
  exact ⟨(s - 1).toNat, List.mem_range.mpr (by omega), by omega⟩
theorem left_mem {n s : Int} {r : Trip} {sd : List Seat} : s ∈ leftL n r sd ↔ (1 ≤ s ∧ s ≤ n) ∧ s ∉ takenL r sd := by
 unfold leftL
 rw [List.mem_filter, upto_mem]
 simp
section
variable {K : PySem.W.Frag} {C : Addr} {args : List PV} {P : PV → Prop} {PR : PV → Ow → Prop} {PF : List PV → Prop} {o : Ow}
theorem w_seqF {t : TSp} {u : TFp} {η : EP'} {Q : List PV → EP' → Prop} (h : t { nx := fun η' => u η' Q, rt := fun _ _ => False } η) : tSeqFP t u η Q := h
theorem w_lstS {te : TEp} {η : EP'} {Q : List PV → EP' → Prop} (h : te η fun x η1 => match x with | .lst xs => Q xs η1 | .scr ns => Q (ns.map .int) η1 | _ => False) : iListP te η Q := h
theorem w_gpS {a b : PV} {i j : Nat} {η : EP'} {R : EP' → Prop} (h : R ((η.set i (.va a)).set j (.va b))) : gTupP 2 (gConsP (gNameP i) (gConsP (gNameP j) (gNilP))) (.tup [a, b]) η R := ⟨rfl, rfl, h⟩
theorem w_rngS {te tb : TEp} {η : EP'} {Q : List PV → EP' → Prop} (h : te η fun x η1 => tb η1 fun y η2 => match x, y with
 | .int i, .int j => -(2 ^ 62) ≤ i ∧ i < 2 ^ 62 ∧ -(2 ^ 62) ≤ j ∧ j < 2 ^ 62 ∧ Q (rangeP i (j - i).toNat) η2
 | _, _ => False) : iRng2P te tb η Q := h
theorem w_zipT {t : TAp} {η : EP'} {Q : List PV → EP' → Prop} (h : t η fun zs η1 => match zs with
 | [.tup xs, .tup ys] => Q (zipP xs ys) η1
 | [.lst xs, .lst ys] => Q (zipP xs ys) η1
 | _ => False) : iZipP t η Q := h
theorem w_callFO {sp : SpF} {t : TAp} {i : Nat} {η : EP'} {Q : List PV → EP' → Prop} (h : t η fun args η1 => match η1[i]? with
 | some (.ow (.l xs)) => sp (args ++ [.lst xs]) fun ys => (∀ y ∈ ys, (flV y).isSome = true) ∧ Q ys η1
 | _ => False) : tCallFOP sp t i η Q := h
theorem flat_ints (ns : List Int) : ∀ y ∈ ns.map PV.int, (flV y).isSome = true := fun y hy => by
 obtain ⟨_, _, rfl⟩ := List.mem_map.mp hy
 rfl
theorem rd_is_pair (h : sp_is_pair K C args P) : ts_is_pair K C { nx := fun _ => P .non, rt := fun x _ => P x } (startP 1 args) := by
 obtain ⟨x, rfl, hk, hp⟩ := h
 have e : startP 1 [x] = [.va x] := rfl
 rw [e]
 refine w_ret (w_andV (w_cb (w_cons (w_var (x := x) rfl (w_cons (w_con (w_nil (isi_tuple hk ?_))))))))
 cases x with
 | tup xs => exact w_op (w_cb (w_cons (w_var (x := .tup xs) rfl (w_nil (q_lenT (w_con (q_eqN hp)))))))
 | _ => exact hp
theorem rd_is_seat (h : sp_is_seat K C args P) : ts_is_seat K C { nx := fun _ => P .non, rt := fun x _ => P x } (startP 2 args) := by
 obtain ⟨x, n, rfl, hk, hp⟩ := h
 have e : startP 2 [x, .int n] = [.va x, .va (.int n)] := rfl
 rw [e]
 refine w_ret (w_andV (w_call (w_cons (w_var (x := x) rfl (w_nil ⟨x, rfl, hk, ?_⟩)))))
 cases x with
 | int s =>
  refine w_chain (w_con (w_var (x := .int s) rfl (q_le ⟨_, rfl, ?_⟩)))
  replace hp : P (.bl (decide (1 ≤ s) && decide (s ≤ n))) := hp
  by_cases c : 1 ≤ s
  ·rw [decide_eq_true c] at hp ⊢
   rw [Bool.true_and] at hp
   exact q_iteT (w_var (x := .int n) rfl (q_le hp))
  ·rw [decide_eq_false c] at hp ⊢
   exact q_iteF hp
 | _ => exact hp
theorem named_has (rs : List Trip) {x : PV} (h : Kn K x) : isNon (namedP rs x) = some (!hasName rs x) := by
 cases x with
 | str w =>
  unfold namedP hasName
  dsimp only
  cases rs.find? fun r => decide (r.1 = w) <;> rfl
 | _ => rfl
theorem rd_names_trip_and_seat (h : sp_names_trip_and_seat K C args P) : ts_names_trip_and_seat K C { nx := fun _ => P .non, rt := fun x _ => P x } (startP 4 args) := by
 obtain ⟨n, rs, x, rfl, ⟨hk, hkp⟩, hp⟩ := h
 have e : startP 4 [lineP C n rs, x] = [.va (lineP C n rs), .va x, .no, .no] := rfl
 rw [e]
 refine w_seq (w_if (w_not (w_bl (w_call (w_cons (w_var (x := x) rfl (w_nil ⟨x, rfl, hk, ?_⟩)))))))
 cases hb : isPairB x with
 | false =>
  refine q_iteT (w_ret (w_con ?_))
  have : pairOkB n rs x = false := by
   unfold pairOkB
   split
   ·exact absurd hb (by simp [isPairB])
   ·rfl
  rw [this] at hp
  exact hp
 | true =>
  refine q_iteF (w_next ?_)
  obtain ⟨a, b, rfl⟩ : ∃ a b, x = .tup [a, b] := by
   cases x with
   | tup xs =>
    have hl : (xs.length : Int) = 2 := of_decide_eq_true hb
    match xs, hl with
    | [a, b], _ => exact ⟨a, b, rfl⟩
    | [], hl => simp at hl
    | [_], hl => simp at hl
    | _ :: _ :: _ :: _, hl => simp at hl; omega
   | _ => cases hb
  obtain ⟨ka, kb⟩ := hkp a b rfl
  dsimp only
  refine w_seq (w_asg (w_var (x := .tup [a, b]) rfl (w_gpS ?_)))
  simp only [List.set_cons_zero, List.set_cons_succ]
  refine w_ret (w_andV (w_op (w_call (w_cons (w_prop' (w_var (x := lineP C n rs) rfl ⟨⟨_, rfl⟩, n, rs, rfl, w_cons (w_var (x := a) rfl (w_nil ⟨rs, a, rfl, ka, w_con ⟨_, named_has rs ka, ?_⟩⟩))⟩))))))
  have hp' : P (.bl (hasName rs a && isSeatB n b)) := hp
  cases hn : hasName rs a with
  | false => rw [hn] at hp'; exact hp'
  | true =>
   rw [hn] at hp'
   exact w_call (w_cons (w_var (x := b) rfl (w_cons (w_prop' (w_var (x := lineP C n rs) rfl ⟨⟨_, rfl⟩, n, rs, rfl, w_nil ⟨b, n, rfl, kb, hp'⟩⟩)))))
theorem rd_seats_left (h : sp_seats_left K C args PF) : ts_seats_left K C (startP 6 args) (fun xs _ => PF xs) := by
 obtain ⟨n, r, sd, rfl, n0, n20, hl, hp⟩ := h
 have e : startP 6 [.int n, rowP r, .lst (sd.map seatP)] = [.va (.int n), .va (rowP r), .va (.lst (sd.map seatP)), .no, .no, .no] := rfl
 rw [e]
 have sz : 1000 < sizeLine := by decide
 refine w_seqF (w_set (w_val (w_lc (w_lstS (w_var (x := .lst (sd.map seatP)) rfl ?_)))))
 show ∃ Inv : Nat → List PV → EP' → Prop, _
 refine ⟨fun i acc η => acc = ((sd.take i).filter fun x => meetB r x.1).map (fun x => PV.int x.2) ∧ η = [.va (.int n), .va (rowP r), .va (.lst (sd.map seatP)), .no, .no, .no], ⟨rfl, rfl⟩, ?_, ?_⟩
 ·rintro i x acc η hi ⟨rfl, rfl⟩
  rw [List.getElem?_map] at hi
  obtain ⟨u, hu, rfl⟩ := Option.map_eq_some_iff.mp hi
  refine w_gpS (w_bl (w_call (w_cons (w_var (x := rowP r) rfl (w_cons (w_var (x := rowP u.1) rfl (w_nil ⟨r, u.1, rfl, ?_⟩)))))))
  cases hm : meetB r u.1 with
  | true =>
   refine q_iteT (w_var (x := .int u.2) rfl ⟨by rw [List.length_map]; exact filt_len hl, ?_, rfl⟩)
   rw [take_filterT hu hm, List.map_append]
   rfl
  | false => exact q_iteF ⟨by rw [take_filterF hu hm], rfl⟩
 ·rintro acc η ⟨rfl, rfl⟩
  rw [List.length_map, List.take_length]
  have et : ((sd.filter fun x => meetB r x.1).map (fun x => PV.int x.2)) = (takenL r sd).map .int := by unfold takenL; rw [List.map_map]; rfl
  rw [et]
  simp only [List.set_cons_zero, List.set_cons_succ]
  refine w_lc (w_rngS (w_con (w_op (w_var (x := .int n) rfl (w_con (q_add ?_))))))
  refine ⟨by decide, by decide, by omega, by omega, ?_⟩
  rw [show (n + 1 - 1).toNat = n.toNat by omega]
  refine ⟨fun i acc η => acc = (((upto n).take i).filter fun s => !decide (s ∈ takenL r sd)).map PV.int ∧ η = [.va (.int n), .va (rowP r), .va (.lst (sd.map seatP)), .va (.lst ((takenL r sd).map .int)), .no, .no], ⟨rfl, rfl⟩, ?_, ?_⟩
  ·rintro i x acc η hi ⟨rfl, rfl⟩
   obtain ⟨hin, rfl⟩ := rangeP_get hi
   have hu : (upto n)[i]? = some (1 + (i : Int)) := by
    unfold upto
    rw [List.getElem?_map, List.getElem?_range hin]; rfl
   refine w_gname (w_bl (w_op (w_var (x := .int (1 + (i : Int))) rfl (w_var (x := .lst ((takenL r sd).map .int)) rfl (q_notInI ?_)))))
   cases hb : (!decide ((1 + (i : Int)) ∈ takenL r sd)) with
   | true =>
    refine q_iteT (w_var (x := .int (1 + (i : Int))) rfl ⟨?_, ?_, rfl⟩)
    ·rw [List.length_map]
     have := List.length_filter_le (fun s => !decide (s ∈ takenL r sd)) ((upto n).take i)
     rw [List.length_take] at this
     omega
    ·rw [take_filterT hu hb, List.map_append]
     rfl
   | false => exact q_iteF ⟨by rw [take_filterF hu hb], rfl⟩
  ·rintro acc η ⟨rfl, rfl⟩
   rw [rangeP_len]
   have : (upto n).length = n.toNat := by unfold upto; rw [List.length_map, List.length_range]
   rw [← this, List.take_length]
   exact hp
theorem find_name {rs : List Trip} {r : Trip} (h : r ∈ rs) : hasName rs (.str r.1) = true := by
 unfold hasName
 rw [List.find?_isSome]
 exact ⟨r, h, decide_eq_true rfl⟩
theorem rd_valid_pairs (h : sp_valid_pairs K C args P) : ts_valid_pairs K C { nx := fun _ => P .non, rt := fun x _ => P x } (startP 5 args) := by
 obtain ⟨n, rs, xs, rfl, n1, n2, hw, hk, hp⟩ := h
 have e : startP 5 [lineP C n rs, .tup xs] = [.va (lineP C n rs), .va (.tup xs), .no, .no, .no] := rfl
 rw [e]
 have sz : 1000 < sizeLine := by decide
 have hl := hw.len
 refine w_seq (w_setF (by decide) (w_lstF (w_nil ⟨by show 0 ≤ sizeLine; omega, by show 2 < 5; decide, ?_⟩)))
 simp only [List.set_cons_zero, List.set_cons_succ]
 refine w_seq (w_for (w_zipT (w_cons (w_prop' (w_var (x := lineP C n rs) rfl ⟨⟨_, rfl⟩, n, rs, rfl, w_cons (w_var (x := .tup xs) rfl (w_nil ?_))⟩)))))
 show ∃ Inv : Nat → EP' → Prop, _
 refine ⟨fun i η => ∃ (sd : List Seat) (s3 s4 : Sl), sd.length = i ∧ validGo n rs xs [] = validGo n (rs.drop i) (xs.drop i) sd ∧ η = [.va (lineP C n rs), .va (.tup xs), .ow (.l (sd.map seatP)), s3, s4], ⟨[], _, _, rfl, rfl, rfl⟩, ?_, ?_⟩
 ·rintro i x η hi ⟨sd, s3, s4, sl, hv, rfl⟩
  obtain ⟨y, z, hy, hz, rfl⟩ := zipP_get hi
  rw [List.getElem?_map] at hy
  obtain ⟨r, hr, rfl⟩ := Option.map_eq_some_iff.mp hy
  have hil : i < rs.length := (List.getElem?_eq_some_iff.mp hr).1
  have hrm := List.mem_of_getElem? hr
  have hkz := hk z (List.mem_of_getElem? hz)
  have ed : rs.drop i = r :: rs.drop (i + 1) := by obtain ⟨h1, h2⟩ := List.getElem?_eq_some_iff.mp hr; rw [← h2, List.getElem_cons_drop]
  have ex : xs.drop i = z :: xs.drop (i + 1) := by obtain ⟨h1, h2⟩ := List.getElem?_eq_some_iff.mp hz; rw [← h2, List.getElem_cons_drop]
  have hv2 : validGo n rs xs [] = match seatV n r sd z with
   | some s => validGo n (rs.drop (i + 1)) (xs.drop (i + 1)) (sd ++ [(r, s)])
   | none => sd.length := by rw [hv, ed, ex]; rfl
  have out : seatV n r sd z = none → P (.int ((sd.map seatP).length : Int)) := fun h => by
   rw [h] at hv2
   rw [hv2] at hp
   rw [List.length_map]
   exact hp
  refine w_gpS ?_
  simp only [List.set_cons_zero, List.set_cons_succ]
  refine w_seq (w_if (w_or (w_not (w_bl (w_call (w_cons (w_var (x := lineP C n rs) rfl (w_cons (w_var (x := z) rfl (w_nil ⟨n, rs, z, rfl, hkz, ?_⟩))))))))))
  cases hpo : pairOkB n rs z with
  | false =>
   refine q_iteT (q_iteT (w_ret (w_cb (w_cons (w_varO (o := .l (sd.map seatP)) rfl (w_nil (q_len (out ?_))))))))
   unfold seatV
   split
   ·rename_i w s
    split
    ·rename_i hc
     obtain ⟨rfl, hs⟩ := hc
     obtain ⟨⟨s1, s2⟩, _⟩ := left_mem.mp hs
     have : pairOkB n rs (.tup [.str r.1, .int s]) = true := by
      show (hasName rs (.str r.1) && (decide (1 ≤ s) && decide (s ≤ n))) = true
      rw [find_name hrm, decide_eq_true s1, decide_eq_true s2]; rfl
     rw [this] at hpo; cases hpo
    ·rfl
   ·rfl
  | true =>
   obtain ⟨w, s, rfl⟩ : ∃ w s, z = .tup [.str w, .int s] := by
    unfold pairOkB at hpo
    split at hpo
    ·rename_i a b
     obtain ⟨h1, h2⟩ := Bool.and_eq_true_iff.mp hpo
     cases a <;> (try cases h1)
     cases b <;> (try cases h2)
     exact ⟨_, _, rfl⟩
    ·cases hpo
   refine q_iteF (w_bl (w_op (w_op (w_var (x := .tup [.str w, .int s]) rfl (w_con (q_ixT (x := .str w) rfl (w_op (w_var (x := rowP r) rfl (w_con (q_ixT (x := .str r.1) rfl (q_neI ?_)))))))))))
   refine q_cmp (fun ew => w_next ?_) fun ew => w_ret (w_cb (w_cons (w_varO (o := .l (sd.map seatP)) rfl (w_nil (q_len (out ?_))))))
   ·subst ew
    dsimp only
    refine w_seq (w_if (w_bl (w_op (w_op (w_var (x := .tup [.str r.1, .int s]) rfl (w_con (q_ixT (x := .int s) rfl (w_val (w_callFO (w_cons (w_prop' (w_var (x := lineP C n rs) rfl ⟨⟨_, rfl⟩, n, rs, rfl, w_cons (w_var (x := rowP r) rfl (w_nil ?_))⟩))))))))))))
    refine ⟨n, r, sd, rfl, by omega, n2, by omega, flat_ints _, q_notInI ?_⟩
    refine q_cmp (fun hs => w_next ?_) fun hs => w_ret (w_cb (w_cons (w_varO (o := .l (sd.map seatP)) rfl (w_nil (q_len (out ?_))))))
    ·dsimp only
     refine w_app (xs := sd.map seatP) rfl (w_tup (w_cons (w_var (x := rowP r) rfl (w_cons (w_op (w_var (x := .tup [.str r.1, .int s]) rfl (w_con (q_ixT (x := .int s) rfl ?_))))))))
     refine w_nil ⟨sz2, q_appM rfl (by rw [List.length_map]; omega) ?_⟩
     simp only [List.set_cons_zero, List.set_cons_succ]
     have hsv : seatV n r sd (.tup [.str r.1, .int s]) = some s := by
      show (if r.1 = r.1 ∧ s ∈ leftL n r sd then some s else none) = some s
      rw [if_pos ⟨rfl, hs⟩]
     rw [hsv] at hv2
     exact ⟨sd ++ [(r, s)], _, _, by rw [List.length_append, sl]; rfl, hv2, by rw [List.map_append]; rfl⟩
    ·show (if r.1 = r.1 ∧ s ∈ leftL n r sd then some s else none) = none
     rw [if_neg fun z => hs z.2]
   ·show (if w = r.1 ∧ s ∈ leftL n r sd then some s else none) = none
    rw [if_neg fun z => ew z.1]
 ·rintro η ⟨sd, s3, s4, sl, hv, rfl⟩
  have hend : validGo n (rs.drop (zipP (rs.map rowP) xs).length) (xs.drop (zipP (rs.map rowP) xs).length) sd = sd.length := by
   unfold zipP
   rw [List.length_zipWith, List.length_map]
   by_cases c : rs.length ≤ xs.length
   ·rw [Nat.min_eq_left c, List.drop_length]
    unfold validGo; rfl
   ·rw [Nat.min_eq_right (by omega), List.drop_length]
    cases rs.drop xs.length <;> (unfold validGo; rfl)
  rw [hv, hend] at hp
  dsimp only
  refine w_ret (w_cb (w_cons (w_varO (o := .l (sd.map seatP)) rfl (w_nil (q_len ?_)))))
  rw [List.length_map]
  exact hp
end
end Z
set_option maxHeartbeats 2000000
namespace ZX
open PySem PySem.W PySem.Calls PyProof.Rows
section
variable {prog : Program} {w : World} {A : Around} {E : Value → Shared → Prop} {s : Shared} {h₀ : Heap} {L : Addr} {m mg mb : Str → Option Value} {news : List (Addr × Obj)} {K : Frag} {x C D f f2 cc cda so : Addr} {ox : Obj} {odx : Option Obj}
theorem super_node {body : List Stmt} {q : Str} {scope : Scope} {p0 p1 : Pos} {attr : Str} {whole : Sem Value} {fd : FuncData} {ar : Arg} {vs : Array Value} {file : Str} {tf : Tok} {oc ccl cl : Value} {od cdd cld : Option Addr} {osl ccs csl : Array (Option Value)} {cdD : ClassData} {Q : Value → Shared → Prop}
  (F : Fr h₀ L s.heap m) (X₀ : K.In h₀) (N : News h₀ L s.heap news) (Tg : s.heap.Ns mainGlobals mg) (Tb : s.heap.Ns builtinsNs mb) (Tv : mb "super" = some (.type "super"))
  (hf : K.lookup f = some ⟨oc, od, .func fd, osl⟩) (hp : (fd.params.posonlyargs ++ fd.params.args).head? = some ar) (hv : m ar.arg = some (.ref x)) (I : InstAt s.heap x ox C odx)
  (hcode : K.lookup cda = some ⟨ccl, cdd, .fields vs, ccs⟩) (hvs : vs[2]? = some (.str file tf)) (hfile : ((prog.main.file : Str) == file) = true)
  (hcell : K.lookup cc = some ⟨cl, cld, .cell (some (.ref D)), csl⟩) (hD : clsIn K D = some cdD) (hsub : mroIn K C (.ref D) = some true) (hsuper : mg "super" = none)
  (hat : (attr == ("__class__" : Str)) = false) (hks : scope.names.lookup ("super" : Str) = some .globalImplicit) (hkc : scope.names.lookup ("__class__" : Str) = some .free) (hka : scope.names.lookup ar.arg = some .local) (hk : scope.kind = .function)
  (htop : (prog.main.scope.names.lookup ("super" : Str)).isSome = false)
  (h : ∀ so h', Fr h₀ L h' m → News h₀ L h' ((so, ks_superObj D x C) :: news) → (∀ p ∈ news, p.1 < so) → Q (.ref so) { s with heap := h' }) :
  _root_.PySem.wpAt (model prog w) A (.func body (ksEnv q scope L f (.ref cda) cc)) (attributeBase (.Call (.Name "super" p0) [] [] p1) attr (ksEnv q scope L f (.ref cda) cc) whole) Q E s := by
 have X : K.In s.heap := X₀.keeps F.keep
 obtain ⟨hh, g, d, t, os⟩ := s
 obtain ⟨oD, hD1, hD2⟩ : ∃ oD, hh.get? D = some oD ∧ oD.data = .cls cdD := by
  unfold clsIn at hD
  split at hD
  ·rename_i c d cd' sl ho
   cases hD
   exact ⟨_, X _ _ ho, rfl⟩
  ·cases hD
 refine ks_wpAt_super_base (env := ksEnv q scope L f (.ref cda) cc) hks hkc hat rfl (X _ _ hf) rfl hp rfl (X _ _ hcode) rfl hvs hfile htop ?_
 refine ks_loadName_global hk hks (loadGlobal_builtin (env := ksEnv q scope L f (.ref cda) cc) Tg hsuper Tb Tv ⟨rfl, ?_⟩)
 refine wpAny_loadName_free hk hkc rfl ⟨_, X _ _ hcell, rfl⟩ ?_
 refine wpAny_loadName_local hk hka F.ns hv ?_
 refine ks_wpAny_isType_cls hD1 hD2 ⟨rfl, ?_⟩
 refine ks_wpAny_call_super hD1 hD2 I.at_ I.cls (fun c e => ?_) (looks_mroIn X hsub) (fun h' e k => ?_)
 ·have := I.no
  unfold notCls at this
  rw [e] at this
  exact Bool.noConfusion this
 ·obtain ⟨F', N', l'⟩ := ks_newsPush (s := ⟨hh, g, d, t, os⟩) F N rfl e k
  exact h _ _ F' N' l'
end
structure BaseX (B i newId : String) (bmB : List Value) : Prop where
 FB : ExcBaseFacts B newId i bmB
 KF : KxsFacts B i
 SF : StoreFacts B bmB "object.__setattr__" "object"
section
variable {prog : Program} {w : World} {A : Around} {E : Value → Shared → Prop} {K : Frag} {C fI cc cda : Addr} {mg mb : Str → Option Value} {R : Result → Shared → Prop} {B i newId : String} {bmB : List Value}
structure XInit (prog : Program) (K : Frag) (C fI cc cda : Addr) (fld : Str) (B i newId : String) (bmB : List Value) (fd : FuncData) : Prop where
 lk : ∃ (oc : Value) (od : Option Addr) (osl : Array (Option Value)) (qual : Str) (params : Arguments) (m : Str) (j : Nat) (p0 p1 p2 p3 p4 p5 p6 p7 p8 p9 : Pos) (scope : Scope) (dV kV doc pm ct : Value) (an : Option Addr) (ar : Arg),
  fd = ksFn "__init__" qual params [.Expr (.Call (.Attribute (.Call (.Name "super" p0) [] [] p1) "__init__" p2) [.Constant (.str m) j p3] [] p4) p5, .Assign [.Attribute (.Name "self" p6) fld p7] (.Name fld p8) p9] scope dV kV doc pm an (.ref cda) ct cc ∧
  K.lookup fI = some ⟨oc, od, .func fd, osl⟩ ∧ codeIn K (.ref cda) qual = true ∧ (params.posonlyargs ++ params.args).head? = some ar ∧ ar.arg = "self" ∧
  scope.names.lookup ("super" : Str) = some .globalImplicit ∧ scope.names.lookup ("__class__" : Str) = some .free ∧ scope.names.lookup ("self" : Str) = some .local ∧ scope.names.lookup fld = some .local ∧ scope.kind = .function ∧ scope.isCoroutine = false ∧ scope.isGenerator = false ∧
  (∀ x ∈ scope.names, x.2 ≠ .cell) ∧ (∀ L : Addr, interactive (ksEnv qual scope L fI (.ref cda) cc) = false) ∧
  (∀ L : Addr, ∃ pl : Sem Bool, eval (.Call (.Attribute (.Call (.Name "super" p0) [] [] p1) "__init__" p2) [.Constant (.str m) j p3] [] p4) (ksEnv qual scope L fI (.ref cda) cc) = (do
   let ov ← attributeBase (.Call (.Name "super" p0) [] [] p1) "__init__" (ksEnv qual scope L fI (.ref cda) cc) (eval (.Call (.Name "super" p0) [] [] p1) (ksEnv qual scope L fI (.ref cda) cc))
   standAt p2.atName
   let (f, first) ← holding [ov] (getMethod ov "__init__" pl)
   callWith p4 f first (backTo p4 (starEach [.Constant (.str m) j p3] (ksEnv qual scope L fI (.ref cda) cc))) [])) ∧
  (∀ L : Addr, swapsWith (.Call (.Attribute (.Call (.Name "super" p0) [] [] p1) "__init__" p2) [.Constant (.str m) j p3] [] p4) none p5.line (ksEnv qual scope L fI (.ref cda) cc) = pure false) ∧
  (∀ L : Addr, swapsWith (.Name fld p8) (some (.Attribute (.Name "self" p6) fld p7)) p9.line (ksEnv qual scope L fI (.ref cda) cc) = pure false)
 bind : ∀ (s : Shared) (e u : Value), BindsTo s fd ⟨[e, u], []⟩ [("self", e), (fld, u)]
 cell : ∃ (cl : Value) (cld : Option Addr) (csl : Array (Option Value)), K.lookup cc = some ⟨cl, cld, .cell (some (.ref C)), csl⟩
 code : ∃ (ccl : Value) (cdd : Option Addr) (vs : Array Value) (ccs : Array (Option Value)) (file : Str) (tf : Tok), K.lookup cda = some ⟨ccl, cdd, .fields vs, ccs⟩ ∧ vs[2]? = some (.str file tf) ∧ ((prog.main.file : Str) == file) = true
 top : (prog.main.scope.names.lookup ("super" : Str)).isSome = false
 cls : ∃ cd, clsIn K C = some cd
 sub : mroIn K C (.ref C) = some true
 subB : subIn K (.ref C) (.type B) = some true
 opq : nsIn K cStatics "thirdparty.any" = some none
 sup : ks_superIn K C C "__init__" = some (some (.builtin i))
 ini : excInitIn K C bmB newId = true
 sa : findIn K (.ref C) "__setattr__" = some (some (.builtin "object.__setattr__"))
 ov : excOver K C bmB = true
 tk : takerIn K C fld = some none
 hd : hasDictIn K C = true
 nf : (fld == ("__debug__" : Str)) = false
 ns : fld ≠ "self"
theorem updF4 {d : Addr} {o : Obj} {p1 p2 p3 : Addr × Obj} (h1 : p1.1 ≠ d) (h2 : p2.1 ≠ d) (h3 : p3.1 ≠ d) : UpdF d o (p1 :: p2 :: p3 :: [(d, o)]) (fun o' => p1 :: p2 :: p3 :: [(d, o')]) :=
 .tail h1 (.tail h2 (.tail h3 (.head fun p hp => absurd hp (by simp))))
theorem ldK {A : Around} {h₀ : Heap} {L f : Addr} {m : Str → Option Value} {q : Str} {scope : Scope} {cd : Value} {s : Shared} {x : Str} {pos : Pos} {v : Value} {Q : Value → Shared → Prop} {M : Model} (F : Fr h₀ L s.heap m) (hv : m x = some v) (h : Q v s)
  (hk : scope.kind = .function) (hl : scope.names.lookup x = some .local) (hd : (x == ("__debug__" : Str)) = false) :
  wpAny M A (eval (.Name x pos) (ksEnv q scope L f cd cc)) Q E s := wpAny_Name (wpAny_loadName_local hk hl F.ns hv h) hd
theorem init_run {h : Heap} {g : Array GenState} {d : Drawn} {t : Nat} {os : OsState} {fd : FuncData} {fld : Str} {e t0 : Addr} {u : Value} (BX : BaseX B i newId bmB) (Y : XInit prog K C fI cc cda fld B i newId bmB fd) (X : K.In h) (Tg : h.Ns mainGlobals mg) (Tb : h.Ns builtinsNs mb) (Tv : mb "super" = some (.type "super"))
  (hsuper : mg "super" = none) (lim : h.NoLimit) (hroom : A.depth < recursionLimit) (he : h.get? e = some (excObj C t0 none .none)) (hKe : K.lookup e = none)
  (hq : ∀ (h' : Heap) (t' dx : Addr) (es : List DictEntry) (n tk : Nat), (∀ b o, b ≠ e → h.get? b = some o → h'.get? b = some o) → h'.get? e = some (excObj C t' (some dx) .none) → h'.get? dx = some (dictOf es n) → (h.get? dx = none ∧ e < dx) →
   (∃ tk1, (putL fld (PyData.keyHash w.params fld) (.str fld tk1) u [], putN fld [] 0) = (es, n)) → R (.ok (.ret .none)) ⟨h', g, d, tk, os⟩) :
  codeAny (model prog w) A (.call (.ref fI) ⟨[.ref e, u], []⟩) R ⟨h, g, d, t, os⟩ := by
 obtain ⟨oc, od, osl, qual, params, m, j, p0, p1, p2, p3, p4, p5, p6, p7, p8, p9, scope, dV, kV, doc, pm, ct, an, ar, rfl, lk, hcd, hp, har, k1, k2, k3, k4, k5, k6, k7, k8, k9, k10, k11, k12⟩ := Y.lk
 obtain ⟨cl, cld, csl, hcell⟩ := Y.cell
 obtain ⟨ccl, cdd, vs, ccs, file, tf, hcode, hvs, hfile⟩ := Y.code
 obtain ⟨cd, hcls⟩ := Y.cls
 refine ks_codeAny_call_defAt (fd := ksFn "__init__" qual params _ scope dV kV doc pm an (.ref cda) ct cc) (binds := [("self", .ref e), (fld, u)]) hroom (X _ _ lk) rfl lim (codeRec_of X hcd) rfl (Y.bind _ _ _) k8 (fun y hy => ?_) (fun h₁ hns hk₁ => ?_) k6 k7 k5
 ·rcases List.mem_cons.mp hy with rfl | hy
  ·exact k3
  rcases List.mem_cons.mp hy with rfl | hy
  ·exact k4
  ·cases hy
 -- the ground: all but the exception's object
 have Xh : K.In (hideAll h [e]) := fun b o q => hideAll_get _ (X _ _ q) (fun z => by
  have z : b = e := by simpa using z
  rw [z, hKe] at q
  cases q)
 have F : Fr (hideAll h [e]) h.objs.size h₁ (fun x => [(("self" : Str), Value.ref e), (fld, u)].reverse.lookup x) := ⟨hns, fun b o q => hk₁ b o (of_hideAll _ q), Nat.le_of_eq (hideAll_size _ _)⟩
 have N : News (hideAll h [e]) h.objs.size h₁ [(e, excObj C t0 none .none)] := fun p hp => by
  have e2 : p = (e, excObj C t0 none .none) := by simpa using hp
  subst e2
  exact ⟨hk₁ _ _ he, Nat.ne_of_lt (Heap.lt_size he), hideAll_none _ (by simp)⟩
 have Tg' : h₁.Ns mainGlobals mg := Tg.at fun o q => hk₁ _ o q
 have Tb' : h₁.Ns builtinsNs mb := Tb.at fun o q => hk₁ _ o q
 have mS : (fun x => [(("self" : Str), Value.ref e), (fld, u)].reverse.lookup x) "self" = some (.ref e) := by
  show List.lookup ("self" : Str) [(fld, u), (("self" : Str), Value.ref e)] = _
  have n : (("self" : Str) == fld) = false := by simpa using Ne.symm Y.ns
  simp [List.lookup, n]
 have mF : (fun x => [(("self" : Str), Value.ref e), (fld, u)].reverse.lookup x) fld = some u := by
  show List.lookup fld [(fld, u), (("self" : Str), Value.ref e)] = _
  simp [List.lookup]
 have I0 : InstAt h₁ e (excObj C t0 none .none) C none := ⟨(N (e, excObj C t0 none .none) (by simp)).1, rfl, rfl, trivial⟩
 have h3 : scope.names.lookup ar.arg = some .local := by rw [har]; exact k3
 have mS' : (fun x => [(("self" : Str), Value.ref e), (fld, u)].reverse.lookup x) ar.arg = some (.ref e) := by rw [har]; exact mS
 obtain ⟨pl, hev⟩ := k10 h.objs.size
 refine ks_wpAt_execs_cons (ks_wpAt_Expr_any (ks_wpAt_MethodCall ?_ hev) (k9 _) (k11 _))
 refine super_node (news := [(e, excObj C t0 none .none)]) F Xh N Tg' Tb' Tv lk hp mS' I0 hcode hvs hfile hcell hcls Y.sub hsuper (by decide) k1 k2 h3 k5 Y.top (fun so h2 F2 N2 l2 => ?_)
 have I2 : InstAt h2 e (excObj C t0 none .none) C none := ⟨(N2 (e, excObj C t0 none .none) (by simp)).1, rfl, rfl, trivial⟩
 refine kxs_method BX.KF F2 Xh N2 List.mem_cons_self I2 Y.opq Y.sup Y.subB (by decide) (fun q h3' F3 N3 l3 => ?_)
 refine kxs_callWith1 (i := i) (x := e) (u := q) N3 List.mem_cons_self ?_
 refine spliced_more (Calls.Constant_str ?_)
 refine spliced_none ?_
 refine ⟨kxs_at N3 List.mem_cons_self, ?_⟩
 have e1 : so ≠ e := Nat.ne_of_gt (l2 (e, excObj C t0 none .none) (by simp))
 have e2 : q ≠ e := Nat.ne_of_gt (l3 (e, excObj C t0 none .none) (by simp))
 have U : UpdF e (excObj C t0 none .none) ((q, kxs_mw i e) :: (so, ks_superObj C e C) :: [(e, excObj C t0 none .none)]) (fun o => (q, kxs_mw i e) :: (so, ks_superObj C e C) :: [(e, o)]) :=
  .tail e2 (.tail e1 (.head fun p hp => by cases hp))
 refine kxs_call F3 Xh N3 BX.FB Y.ini List.mem_cons_self U (by rw [sizeLine_eq]; simp) (fun t' h4 F4 N4 l4 => ?_)
 -- the second row
 obtain ⟨oT, N5'⟩ : ∃ oT, News (hideAll h [e]) h.objs.size h4 ((t', oT) :: (q, kxs_mw i e) :: (so, ks_superObj C e C) :: [(e, excObj C t' none .none)]) := ⟨_, N4⟩
 refine wpAt_of_wpAny ?_
 show wpAny _ _ (execs [.Assign [.Attribute (.Name "self" p6) fld p7] (.Name fld p8) p9] _) _ _ _
 refine wpAny_execs_cons (plainObj_wpAny_Assign_Attribute ?_ (k12 _))
 refine ldK F4 mF ?_ k5 k4 Y.nf
 refine ldK F4 mS ?_ k5 k3 (by decide)
 have e3 : t' ≠ e := Nat.ne_of_gt (l4 (e, excObj C t0 none .none) (by simp))
 refine set_exc0 (t := t') (c2 := .none) (es' := (putL fld (PyData.keyHash w.params fld) (.str fld _) u [])) (n' := putN fld [] 0) (nw := fun o => (t', oT) :: (q, kxs_mw i e) :: (so, ks_superObj C e C) :: [(e, o)]) BX.SF F4 Xh N5' ?_ Y.sa Y.ov Y.tk Y.hd rfl ?_ ?_ ?_
 ·simp
 ·exact updF4 (p1 := (t', oT)) (p2 := (q, _)) (p3 := (so, _)) e3 e2 e1
 ·simp [putL]
 ·intro dx h5 F5 N5 l5
  refine wpAny_execs_nil ?_
  refine hq h5 t' dx _ _ _ (fun b o hb hbo => F5.keep b o (hideAll_get _ hbo (fun z => hb (by simpa using z)))) (N5 (e, _) (by simp)).1 (N5 (dx, _) List.mem_cons_self).1 ?_ ⟨_, rfl⟩
  have n1 : dx ≠ e := Nat.ne_of_gt (l5 (e, excObj C t' none .none) (by simp))
  refine ⟨?_, l5 (e, excObj C t' none .none) (by simp)⟩
  have n2 := (N5 (dx, _) List.mem_cons_self).2.2
  cases z : h.get? dx with
  | none => rfl
  | some o =>
   rw [hideAll_get _ z (fun y => n1 (by simpa using y))] at n2
   cases n2
end
end ZX
namespace ZX
open PySem PySem.Spec PyProof.Rows L2
theorem ns1_one {h : Heap} {dx : Addr} {f : Str} {hs : Int} {tk : Tok} {u : Value} {n : Nat} (e : h.get? dx = some (PySem.W.dictOf [⟨hs, .str f tk, u⟩] n)) : h.Ns1 dx (fun y => if y = f then some u else none) := by
 refine ⟨_, _, _, e, rfl, ?_, ?_, ?_⟩
 ·intro x hx
  have : x = ⟨hs, .str f tk, u⟩ := by simpa using hx
  subst this
  exact ⟨_, _, rfl⟩
 ·unfold UniqKeys
  simp
 ·intro name
  unfold nsFind findBy
  by_cases q : name = f
  ·subst q
   simp [Value.isStr]
  ·have q' : (f == name) = false := by simpa using Ne.symm q
   simp [Value.isStr, q, q']
section
variable {X : Cx} {C fI cc cda : Addr} {B i newId : String} {bmB : List Value} {fld : Str} {fd : FuncData}
theorem roomH_make {k : Nat} {A : Around} (r : L2H.RoomH (k + 1) A) (C : Addr) (us : List Value) : L2H.RoomH k (A.under (.builtin "type.__call__" ⟨.ref C :: us, []⟩)) :=
 ⟨by have := r.dp; rw [make_depth]; omega, by have := r.un; rw [make_units]; omega⟩
def tMkX (C : Addr) (fld : Str) (ta : TA) : L2.St → Hp → XK → Prop := fun σ H Q => ta σ H fun vs H1 => ∃ v, vs = [v] ∧ ∀ d, H1 d = none → Q (.ref C) (some d) (upd H1 d (.xd [(fld, v)]))
structure XCl (K : PySem.W.Frag) (C fI : Addr) : Prop where
 iC : PySem.W.findIn K (.ref C) "__init__" = some (some (.ref fI))
 tI : PySem.W.typeIn K (.ref fI) = some (.type "function")
 exC : PySem.W.subIn K (.ref C) (.type "BaseException") = some true
 tyC : PySem.W.typeIn K (.ref C) = some (.type "type")
 kC : PySem.W.keepIn K (.ref C) = true
theorem pmk_X {x : Str} {p pos : Pos} {e : Expr} {es : List Expr} {ta : TA} (BX : BaseX B i newId bmB) (Y : XInit X.prog X.K C fI cc cda fld B i newId bmB fd) (T : XCl X.K C fI) (hsup : X.mg "super" = none) (hr : L2H.RoomH 1 X.A) (hg : Gl X x) (hm : X.mg x = some (.ref C)) (ha : PA X (e :: es) ta)
  (hdb : (x == ("__debug__" : Str)) = false := by decide) (he : starEach (e :: es) X.env = (false, eval e X.env) :: starEach es X.env := by rfl) (hpl : (backTo pos (starEach es X.env)).any (·.1) = false := by rfl) :
  L2N.PMk X (.Call (.Name x p) (e :: es) [] pos) (tMkX C fld ta) := by
 intro pins s σ H Q I h
 refine wpAny_Call_Name_kw (ld_glob I hg hm ?_ hdb)
 refine PySem.W.callWith_K (h₀ := X.base) I.ok.mod.kin T.kC (thn (ha.run pos pins s σ H _ I h) fun us s1 ⟨vs, H1, I1, r1, v, ev, q1⟩ => ⟨I1.kIn, ?_⟩) he hpl
 show wpAny _ _ (call (.ref C) us) _ _ _
 subst ev
 cases r1 with
 | @cons _ u _ ur ra rr =>
 cases rr
 obtain ⟨hp, g, dr, tk, os⟩ := s1
 obtain ⟨nm, N', qn, bs, bm, hdct, sn, sub, ab, col, dd, k0, k1, k2, k3, k5, hC, hT⟩ := PySem.W.excInit_of I1.kIn Y.ini
 have kk : ∀ b o, hp.get? b = some o → ((hp.push (PySem.W.kdv_tup [u])).push (PySem.HandSPX.excO C hp.objs.size)).get? b = some o := fun b o e => Heap.get?_push_of_some _ (Heap.get?_push_of_some _ e)
 have hget : ((hp.push (PySem.W.kdv_tup [u])).push (PySem.HandSPX.excO C hp.objs.size)).get? (hp.objs.size + 1) = some (PySem.HandSPX.excO C hp.objs.size) := by heap_get
 obtain ⟨mb, hb1, hb2⟩ := I1.ok.mod.blt
 have nK : X.K.lookup (hp.objs.size + 1) = none := by
  cases z : X.K.lookup (hp.objs.size + 1) with
  | none => rfl
  | some o => exact absurd (Heap.lt_size (I1.kIn _ _ z)) (by show ¬ (hp.objs.size + 1 < hp.objs.size); omega)
 refine wpAny_call (PySem.HandSPX.call_own BX.FB hT hC (PySem.W.looks_findIn I1.kIn T.iC) (fun self => PySem.W.bind_fn I1.kIn self T.tI) (by rw [sizeLine_eq]; simp) ?_)
 have bk : ∀ b o, X.base.get? b = some o → hp.get? b = some o := I1.bk
 refine init_run (mg := X.mg) (mb := mb) BX Y (fun b o e => kk b o (I1.kIn b o e)) (I1.ok.mod.glob.keeps fun b o e => kk b o (bk b o e)) (hb1.keeps fun b o e => kk b o (bk b o e)) ((hb2 _ (by decide)).trans (by decide +kernel)) hsup (I1.ok.mod.nolimit.keeps fun b o e => kk b o (bk b o e)) ?_ hget nK ?_
 ·exact (roomH_make hr C [u]).depth
 ·intro h' t' dx es0 n0 tk0 k1 e1 e2 e3 e4
  obtain ⟨nd, ld0⟩ := e3
  have ld : hp.objs.size + 1 < dx := ld0
  obtain ⟨tk1, e4⟩ := e4
  obtain ⟨e5, e6⟩ := Prod.mk.inj e4
  refine ⟨rfl, ?_⟩
  have hsz : hp.objs.size ≤ dx := by omega
  have hn : H1 dx = none := I1.hok.fresh hsz
  have na : H1 (hp.objs.size + 1) = none := I1.hok.fresh (by show hp.objs.size ≤ hp.objs.size + 1; omega)
  obtain ⟨G, g1, g2⟩ := restrict h' fun b => decide (b ≠ hp.objs.size + 1)
  have gk : ∀ b, b ≠ hp.objs.size + 1 → G.get? b = h'.get? b := fun b hb => g1 b (decide_eq_true hb)
  have ge : G.get? (hp.objs.size + 1) = none := g2 _ (by simp)
  have kG : ∀ b o, hp.get? b = some o → G.get? b = some o := fun b o e => by
   have nb : b ≠ hp.objs.size + 1 := Nat.ne_of_lt (Nat.lt_succ_of_lt (Heap.lt_size e))
   rw [gk b nb]
   exact k1 b o nb (kk b o e)
  have hdx : G.get? dx = some (PySem.W.dictOf es0 n0) := (gk dx (by omega)).trans e2
  have hns : G.Ns1 dx (fun y => if y = fld then some u else none) := by
   have z : es0 = [⟨PyData.keyHash X.w.params fld, .str fld tk1, u⟩] := by rw [← e5]; rfl
   rw [z] at hdx
   exact ns1_one hdx
  have J : Inv X pins σ (upd H1 dx (.xd [(fld, v)])) ⟨G, g, dr, tk0, os⟩ := I1.laid (t' := tk0) (a := dx) (o := .xd [(fld, v)]) (h' := G) kG hsz ⟨_, hns, fun f => by
   by_cases q : f = fld
   ·subst q
    simp [List.lookup]
    exact ra
   ·have q' : (f == fld) = false := by simpa using q
    simp [List.lookup, q, q']
    exact True.intro⟩
  refine ⟨hp.objs.size + 1, _, _, ⟨G, g, dr, tk0, os⟩, _, .ref C, some dx, rfl, J, fun b o z => ?_, ge, e1, ⟨rfl, rfl, fun vs q => by cases q; rfl⟩, rfl, rfl, ?_, rfl, J.bare, raises_own T.exC T.tyC, q1 dx hn⟩
  ·by_cases hb : b = hp.objs.size + 1
   ·rw [hb, ge] at z
    cases z
   ·exact (gk b hb).symm.trans z
  ·rw [upd_ne (by show hp.objs.size + 1 ≠ dx; omega)]
   exact na
end
end ZX
namespace Z
open PySem PySem.Spec L2
open PyProof.Rows hiding St
structure ZSt (z TI TO i1 i2 l1 l2 S : Addr) (xs ys : Array Value) (i : Nat) (h : Heap) : Prop where
 ti : IsPair h TI (.ref i1) (.ref i2)
 h1 : h.IsListIter i1 l1 i
 h2 : h.IsListIter i2 l2 i
 l1 : h.IsList l1 xs
 l2 : h.IsList l2 ys
 to : ∃ o, h.get? TO = some o
 z : (IsZip h z TI TO .none ∧ ∃ a b, IsPair h TO a b) ∨ ∃ T f oT, IsZipHeld h z TI TO T f ∧ h.get? T = some oT ∧ T ≠ z ∧ T ≠ i1 ∧ T ≠ i2 ∧ T ≠ S
section
variable {prog : Program} {w : World} {A : Around} {E : Value → Shared → Prop} {s : Shared} {z TI TO i1 i2 l1 l2 S : Addr} {xs ys : Array Value} {i : Nat}
theorem ZSt.type (st : ZSt z TI TO i1 i2 l1 l2 S xs ys i s.heap) : s.TypeIs (.ref z) "zip" := by
 rcases st.z with ⟨hz, _⟩ | ⟨T, f, oT, hz, _⟩
 ·exact ⟨_, hz, rfl⟩
 ·exact ⟨_, hz, rfl⟩
theorem ZSt.frame {h h' : Heap} (st : ZSt z TI TO i1 i2 l1 l2 S xs ys i h) (dS : S ≠ z ∧ S ≠ TI ∧ S ≠ TO ∧ S ≠ i1 ∧ S ≠ i2 ∧ S ≠ l1 ∧ S ≠ l2) (hk : ∀ b o, b ≠ S → h.get? b = some o → h'.get? b = some o) : ZSt z TI TO i1 i2 l1 l2 S xs ys i h' := by
 obtain ⟨hTI, h1, h2, hl1, hl2, ⟨oTO, hto⟩, hz⟩ := st
 obtain ⟨dz, dTI, dTO, di1, di2, dl1, dl2⟩ := dS
 refine ⟨hk _ _ (Ne.symm dTI) hTI, h1.at fun o e => hk _ o (Ne.symm di1) e, h2.at fun o e => hk _ o (Ne.symm di2) e, hl1.at fun o e => hk _ o (Ne.symm dl1) e, hl2.at fun o e => hk _ o (Ne.symm dl2) e, ⟨oTO, hk _ _ (Ne.symm dTO) hto⟩, ?_⟩
 rcases hz with ⟨hz, a, b, hTO⟩ | ⟨T, f, oT, hz, hT, r1, r2, r3, r4⟩
 ·exact .inl ⟨hk _ _ (Ne.symm dz) hz, a, b, hk _ _ (Ne.symm dTO) hTO⟩
 ·exact .inr ⟨T, f, oT, hk _ _ (Ne.symm dz) hz, hk _ _ r4 hT, r1, r2, r3, r4⟩
theorem ZSt.item {x y : Value} {Q : Option Value → Shared → Prop} (st : ZSt z TI TO i1 i2 l1 l2 S xs ys i s.heap) (D : ZipApart z TI TO i1 i2 l1 l2) (hS : S < s.heap.objs.size) (ex : xs[i]? = some x) (ey : ys[i]? = some y)
  (hQ : ∀ h', IsPair h' s.heap.objs.size x y → ZSt z TI TO i1 i2 l1 l2 S xs ys (i + 1) h' → (∀ b o, b ∉ [z, TI, TO, i1, i2] → s.heap.get? b = some o → h'.get? b = some o) → Q (some (.ref s.heap.objs.size)) { s with heap := h' }) :
  wpAny (model prog w) A (pyNext (.ref z)) Q E s := by
 obtain ⟨hTI, h1, h2, hl1, hl2, ⟨oTO, hto⟩, hz⟩ := st
 have lt : ∀ {c o}, s.heap.get? c = some o → s.heap.objs.size ≠ c := fun e => Nat.ne_of_gt (Heap.lt_size e)
 have n1 : s.heap.objs.size ≠ i1 := let ⟨_, e, _⟩ := h1; lt e
 have n2 : s.heap.objs.size ≠ i2 := let ⟨_, e, _⟩ := h2; lt e
 rcases hz with ⟨hz, a, b, hTO⟩ | ⟨T, f, oT, hz, hT, r1, r2, r3, r4⟩
 ·refine wpAny_pyNext_zip_item D hz hTI hTO h1 h2 hl1 hl2 ex ey fun h' a1 a2 a3 a4 a5 a6 hk => ?_
  exact hQ h' a5 ⟨hk _ _ D.TIz D.TITO D.TIi1 D.TIi2 hTI, a3, a4, hl1.at fun o e => hk _ o D.l1z D.l1TO D.l1i1 D.l1i2 e, hl2.at fun o e => hk _ o D.l2z D.l2TO D.l2i1 D.l2i2 e, ⟨_, a2⟩,
    .inr ⟨s.heap.objs.size, false, _, a1, a5, lt hz, n1, n2, Nat.ne_of_gt hS⟩⟩
   fun c o hc e => hk c o (fun x => hc (by simp [x])) (fun x => hc (by simp [x])) (fun x => hc (by simp [x])) (fun x => hc (by simp [x])) e
 ·refine wpAny_pyNext_zip_item_held D hz hT hTI h1 h2 hl1 hl2 ex ey fun h' a1 a3 a4 a5 a6 hk => ?_
  exact hQ h' a5 ⟨hk _ _ D.TIz D.TIi1 D.TIi2 hTI, a3, a4, hl1.at fun o e => hk _ o D.l1z D.l1i1 D.l1i2 e, hl2.at fun o e => hk _ o D.l2z D.l2i1 D.l2i2 e, ⟨oTO, hk _ _ D.TOz D.TOi1 D.TOi2 hto⟩,
    .inr ⟨T, true, oT, a1, hk _ _ r1 r2 r3 hT, r1, r2, r3, r4⟩⟩
   fun c o hc e => hk c o (fun x => hc (by simp [x])) (fun x => hc (by simp [x])) (fun x => hc (by simp [x])) e
theorem ZSt.done {Q : Option Value → Shared → Prop} (st : ZSt z TI TO i1 i2 l1 l2 S xs ys i s.heap) (D : ZipApart z TI TO i1 i2 l1 l2) (hh : A.handled = none) (hend : xs[i]? = none ∨ ys[i]? = none)
  (hQ : ∀ h', (∀ b o, b ∉ [z, TI, TO, i1, i2] → s.heap.get? b = some o → h'.get? b = some o) → Q none { s with heap := h' }) :
  wpAny (model prog w) A (pyNext (.ref z)) Q E s := by
 obtain ⟨hTI, h1, h2, hl1, hl2, ⟨oTO, hto⟩, hz⟩ := st
 rcases hz with ⟨hz, a, b, hTO⟩ | ⟨T, f, oT, hz, hT, r1, r2, r3, r4⟩
 ·exact wpAny_pyNext_zip_end hh D hz hTI hTO h1 h2 hl1 hl2 hend fun h' hk => hQ h' fun c o hc e => hk c o (fun x => hc (by simp [x])) (fun x => hc (by simp [x])) (fun x => hc (by simp [x])) (fun x => hc (by simp [x])) e
 ·exact wpAny_pyNext_zip_end_held hh D hz hT hTI h1 h2 hl1 hl2 hend fun h' hk => hQ h' fun c o hc e => hk c o (fun x => hc (by simp [x])) (fun x => hc (by simp [x])) (fun x => hc (by simp [x])) e
end
end Z
namespace Z
open PySem PySem.Spec L2
open PyProof.Rows hiding St
section
variable {prog : Program} {w : World} {A : Around} {E : Value → Shared → Prop} {s : Shared}
theorem adjust_back (n : Nat) : Builtin.Slice.sliceAdjust none none (-1) (n : Int) = ((n : Int) - 1, -1) := by
 unfold Builtin.Slice.sliceAdjust
 simp
theorem places_back (n : Nat) : Builtin.Slice.slicePlaces ((n : Int) - 1) (-1) (-1) = n := by
 unfold Builtin.Slice.slicePlaces
 rw [if_neg (by decide)]
 have e1 : - (-1 : Int) = 1 := by decide
 rw [e1, Int.ediv_one]
 split <;> omega
theorem sliceApplied_back {sl : Addr} {vs : Value} {n : Nat} {Q : Int × Int × Nat → Shared → Prop} (hs : s.heap.IsSliceOf sl .none .none vs) (ps : IsPart vs (some (-1)))
  (h : Q ((n : Int) - 1, -1, n) s) : wpAny (model prog w) A (Builtin.Slice.sliceApplied (.ref sl) (pure (n : Int))) Q E s := by
 obtain ⟨os, hos, hcs, hds⟩ := id hs
 unfold Builtin.Slice.sliceApplied Builtin.Slice.sliceFields
 refine wpAny_bind (wpAny_bind (wpAny_field hos hds (x := .none) rfl (wpAny_bind (wpAny_field hos hds (x := .none) rfl (wpAny_bind (wpAny_field hos hds (x := vs) rfl (wpAny_pure ?_)))))))
 refine wpAny_bind (HT.slicePart_ ps ?_)
 show wpAny _ _ (if ((-1 : Int) == 0) = true then _ else _) _ _ s
 rw [if_neg (by decide)]
 refine wpAny_bind (slicePart_none (wpAny_bind (slicePart_none (wpAny_bind (wpAny_pure ?_)))))
 show wpAny _ _ (match Builtin.Slice.sliceAdjust none none (-1) (n : Int) with | (lo, hi) => pure (lo, (-1 : Int), Builtin.Slice.slicePlaces lo hi (-1))) _ _ s
 rw [adjust_back n]
 show wpAny _ _ (pure ((n : Int) - 1, (-1 : Int), Builtin.Slice.slicePlaces ((n : Int) - 1) (-1) (-1))) _ _ s
 rw [places_back]
 exact wpAny_pure h
theorem fm_some {α β : Type} (f : α → Option β) (g : α → β) : ∀ l : List α, (∀ m, m ∈ l → f m = some (g m)) → l.filterMap f = l.map g
 | [], _ => rfl
 | a :: l, h => by
  rw [List.filterMap_cons_some (h a List.mem_cons_self), fm_some f g l fun m hm => h m (List.mem_cons_of_mem _ hm), List.map_cons]
theorem pick_back (xs : Array Value) : ((List.range xs.size).filterMap fun (m : Nat) => xs[(((xs.size : Nat) : Int) - 1 + (m : Int) * (-1)).toNat]?).toArray = xs.toList.reverse.toArray := by
 congr 1
 rw [fm_some _ (fun m => xs.toList.reverse.getD m .none) _ fun m hm => ?_]
 ·refine List.ext_getElem? fun i => ?_
  by_cases hi : i < xs.size
  ·rw [List.getElem?_map, List.getElem?_range hi]
   have hl : i < xs.toList.reverse.length := by rw [List.length_reverse, Array.length_toList]; exact hi
   rw [List.getElem?_eq_getElem hl]
   show some (xs.toList.reverse.getD i .none) = _
   rw [List.getD_eq_getElem?_getD, List.getElem?_eq_getElem hl]
   rfl
  ·rw [List.getElem?_eq_none (by rw [List.length_map, List.length_range]; omega), List.getElem?_eq_none (by rw [List.length_reverse, Array.length_toList]; omega)]
 ·have hm := List.mem_range.mp hm
  have e1 : (((xs.size : Nat) : Int) - 1 + (m : Int) * (-1)).toNat = xs.size - 1 - m := by omega
  have hl : m < xs.toList.length := by rw [Array.length_toList]; exact hm
  have hj : xs.size - 1 - m < xs.size := by omega
  rw [e1, List.getD_eq_getElem?_getD, List.getElem?_reverse hl, Array.length_toList, Array.getElem?_toList, Array.getElem?_eq_getElem hj]
  rfl
theorem getItem_tuple_back {t sl : Addr} {items : Array Value} {vs : Value} {Q : Value → Shared → Prop} (ht : IsTup s.heap t items) (hs : s.heap.IsSliceOf sl .none .none vs) (ps : IsPart vs (some (-1)))
  (h : Q (.ref s.heap.objs.size) { s with heap := s.heap.push { cls := .type "tuple", data := .seq items.toList.reverse.toArray } })
  (hsz : items.size ≤ sizeLine) : wpAny (model prog w) A (getItem (.ref t) (.ref sl)) Q E s := by
 have htake : sizeOk (.seq items.toList.reverse.toArray) := by
  show items.toList.reverse.toArray.size ≤ sizeLine
  rw [List.size_toArray, List.length_reverse]
  exact hsz
 obtain ⟨os, hos, hcs, hds⟩ := id hs
 have hTs : s.TypeIs (.ref sl) "slice" := ⟨os, hos, hcs⟩
 unfold getItem
 try with_reducible refine wpAny_holding ?_
 first | refine wpAny_bind (wpAny_pure ?_) | skip
 refine wpAny_bind (wpAny_sequenceKey ht.typeIs (by decide) ?_)
 refine wpAny_bind (wpAny_callSpecial?_slot (name := Str.ofString "__getitem__") ht.typeIs PyProof.Rows.slot_tuple_getitem
  (wpAny_call_entry PyProof.Rows.slot_tuple_getitem ht.typeIs entry_tuple_getitem ?_ (args_tuple_getitem _ _)))
 show wpAny _ _ (Builtin.Tuple.tupleItemsOf (.ref t) >>= _) _ _ s
 refine wpAny_bind (tupleItemsOf_ ht ?_)
 refine wpAny_bind (wpAny_typeOf hTs ?_)
 rw [if_pos (by decide)]
 refine wpAny_bind (sliceApplied_back hs ps ?_)
 have hno : ¬ ((((items.size : Nat) : Int) - 1 == 0 && (-1 : Int) == 1 && items.size == items.size) = true) := by
  intro q
  rw [Bool.and_eq_true, Bool.and_eq_true] at q
  exact absurd q.1.2 (by decide)
 show wpAny _ _ (if (((items.size : Nat) : Int) - 1 == 0 && (-1 : Int) == 1 && items.size == items.size) = true then _ else _) _ _ s
 rw [if_neg hno, pick_back]
 first
  | exact wpAny_bind (m := Builtin.Tuple.tupleExact _) (wpAny_newObj_type (wpAny_pure ⟨_, rfl, wpAny_pure h⟩) htake)
  | exact wpAny_bind (m := Builtin.Tuple.tupleExact _) (wpAny_newObj_type (wpAny_bind (wpAny_pure (wpAny_pure ⟨_, rfl, wpAny_pure h⟩))) htake)
  | exact wpAny_bind (wpAny_bind (m := Builtin.Tuple.tupleExact _) (wpAny_newObj_type (wpAny_pure (wpAny_pure ⟨_, rfl, wpAny_pure h⟩)) htake))
  | exact wpAny_bind (wpAny_bind (m := Builtin.Tuple.tupleExact _) (wpAny_newObj_type (wpAny_pure ⟨_, rfl, wpAny_pure h⟩) htake))
end
section
variable {X : Cx} {T : List (Addr × Str)} {e : Expr} {te : TEp} {pos : Pos}
def tRevT (K : PySem.W.Frag) (te : TE) : TE := fun σ H Q => te σ H fun x H1 => ∃ a xs, x = .ref a ∧ SqT K H1 a xs ∧ ∀ p, H1 p = none → Q (.ref p) (upd H1 p (.tup xs.reverse))
theorem pe_revT {e : Expr} {te : TE} {k : Nat} {p1 p2 p3 pos : Pos} (he : PE X e te) : PE X (.Subscript e (.Slice none none (some (.UnaryOp .USub (.Constant (.int 1) k p1) p2)) p3) pos) (tRevT X.K te) := by
 refine ⟨fun pins s σ H Q I h => ?_⟩
 refine Subscript_ (thn (he.run pins s σ H _ I h) fun v s1 ⟨x, H1, I1, r1, q1⟩ => ?_)
 obtain ⟨a, xs, ex, hx, q⟩ := q1
 subst ex
 cases r1
 have hst : PO X (some (.UnaryOp .USub (.Constant (.int 1) k p1) p2)) (tPart (tUn (rU fun i => .int (-i)) (tC (.int 1)))) := po_some (pe_un un_neg pe_int)
 refine wpAny_Slice (thn (po_none.run pins s1 σ H1 (fun o H2 => o = none ∧ H2 = H1) I1 ⟨rfl, rfl⟩) fun vl s2 ⟨l, H2, I2, pl, el, e2⟩ => ?_)
 subst el e2
 refine thn (po_none.run pins s2 σ H2 (fun o H3 => o = none ∧ H3 = H2) I2 ⟨rfl, rfl⟩) fun vu s3 ⟨u, H3, I3, pu, eu, e3⟩ => ?_
 subst eu e3
 refine thn (hst.run pins s3 σ H3 (fun o H4 => o = some (-1) ∧ H4 = H3) I3 ⟨1, rfl, -1, rfl, rfl, rfl⟩) fun vs s4 ⟨o, H4, I4, ps, eo, e4⟩ => ?_
 subst eo e4
 cases pl
 cases pu
 have I5 : Inv X pins σ H4 { s4 with heap := s4.heap.push { cls := .type "slice", data := .fields #[.none, .none, vs] } } := I4.kept (t' := s4.toks) fun b ob q => Heap.get?_push_of_some _ q
 obtain ⟨its, r, ht, hz⟩ := I5.tuple hx
 show wpAny (model X.prog X.w) X.A (subscriptTail e (.Slice none none (some (.UnaryOp .USub (.Constant (.int 1) k p1) p2)) p3) (.ref a) (.ref s4.heap.objs.size)) (EP X pins σ Q) X.xe { s4 with heap := s4.heap.push { cls := .type "slice", data := .fields #[.none, .none, vs] } }
 refine tail_any (ops := [.ref a, .ref s4.heap.objs.size]) ht.typeIs (PyProof.Rows.slot_tuple_getitem.lookup) ?_ (by with_unfolding_all rfl)
 refine getItem_tuple_back ht (Heap.IsSliceOf.new _ .none .none vs) ps ?_ (by rw [List.size_toArray, ← r.length]; exact hz)
 refine ⟨.ref _, _, I5.laid (t' := s4.toks) (o := .tup xs.reverse) (fun b ob q => Heap.get?_push_of_some _ q) (Nat.le_refl _) ?_, rfl, q _ (I5.hok.fresh (Nat.le_refl _))⟩
 exact ⟨by rw [List.length_reverse]; exact hz, _, r.reverse, IsTup.new _ _⟩
def tRevTP (te : TEp) : TEp := fun η P => te η fun x η1 => match x with
 | .tup xs => P (.tup xs.reverse) η1
 | _ => False
theorem z_revT {k : Nat} {p1 p2 p3 pos : Pos} (he : PE X e (up X.K T te)) : PE X (.Subscript e (.Slice none none (some (.UnaryOp .USub (.Constant (.int 1) k p1) p2)) p3) pos) (up X.K T (tRevTP te)) := by
 refine PE.weak (pe_revT he) fun σ H Q q => ?_
 obtain ⟨F, η, P, R, h, k⟩ := q
 refine ⟨F, η, _, R, h, fun x η1 v H1 h1 e1 R1 r1 => ?_⟩
 split at h1
 ·obtain ⟨a, vs, rfl, q, rr⟩ := r1.tup_
  refine ⟨a, vs, rfl, q.sq, fun p hp => ?_⟩
  exact k _ η1 _ _ h1 (e1.trans (.same (Same.new hp))) (R1.same (Same.new hp)) (rep_newT R1.trO hp (reps_rev rr))
 ·cases h1
end
end Z
namespace Z
open PySem PySem.Spec L2
open PyProof.Rows hiding St
section
variable {X : Cx} {T : List (Addr × Str)} {a b : Expr} {ta tb : TEp} {pos : Pos}
def tAddFP (ta tb : TEp) : TFp := fun η P => ta η fun x η1 => tb η1 fun y η2 => match x, y with
 | .lst xs, .lst ys => xs.length + ys.length ≤ sizeLine ∧ P (xs ++ ys) η2
 | _, _ => False
theorem zf_add (ha : PE X a (up X.K T ta)) (hb : PE X b (up X.K T tb)) : PE X (.BinOp a .Add b pos) (upF X.K T (tAddFP ta tb)) := by
 refine PE.weak (pe_op op_cat ha hb) fun σ H Q q => ?_
 obtain ⟨F, η, P, R, h, k⟩ := q
 refine ⟨F, η, _, R, h, fun x η1 v H1 h1 e1 R1 r1 => ⟨F, η1, _, R1, h1, fun y η2 w H2 h2 e2 R2 r2 => ?_⟩⟩
 split at h2
 ·rename_i xs ys
  obtain ⟨b, vs, rfl, nb, q1, rr1⟩ := (r1.car e2.car).lst_
  obtain ⟨c, us, rfl, nc, q3, q4⟩ := r2.lst_
  refine ⟨b, c, vs, us, rfl, rfl, q1, q3, by rw [rr1.len, q4.len]; exact h2.1, fun p hp => ?_⟩
  have hn : Nw H p := (e1.trans e2).nw (Nw.of hp)
  exact k (xs ++ ys) η2 p (vs ++ us) _ h2.2 ((e1.trans e2).trans (.same (Same.new hp))) (R2.add hp nofun) hn (fun z => R.tr p z hn) upd_same ((rr1.app q4).car (car_add hp))
 ·cases h2
theorem w_addF {η : EP'} {QA : List PV → EP' → Prop} (h : ta η fun x η1 => tb η1 fun y η2 => match x, y with
 | .lst xs, .lst ys => xs.length + ys.length ≤ sizeLine ∧ QA (xs ++ ys) η2
 | _, _ => False) : tAddFP ta tb η QA := h
end
end Z
namespace Z
open PySem PySem.Spec L2
open PyProof.Rows hiding St
section
variable {X : Cx} {T : List (Addr × Str)} {e a b o : Expr} {es : List Expr} {te ta tb ti : TEp} {t : TAbp} {pos p : Pos} {i : Nat} {x : Str}
def tOpRP (r : R2p) (ti : TEp) (i : Nat) : TEp := fun η P => ti η fun x η1 => ∃ o, η1[i]? = some (Sl.ow o) ∧ r x (frz o) fun z => ∃ b, z = .bl b ∧ P (.bl b) η1
theorem opR_up {r : R2p} {K : PySem.W.Frag} {σ : St} {H : Hp} {Q : VK} (q : up K T (tOpRP r ti i) σ H Q) : tOp (r2 K r) (up K T ti) (tVar i) σ H Q := by
 obtain ⟨F, η, P, R, h, k⟩ := q
 refine ⟨F, η, _, R, h, fun x η1 v H1 h1 e1 R1 r1 => ?_⟩
 obtain ⟨o, eo, h1⟩ := h1
 obtain ⟨a, hs, w, nf⟩ := R1.ow i o eo
 refine ⟨.ref a, hs, fun c => Oof F σ η1 c ∧ c ≠ a, x, frz o, _, fun b z => R1.trO b z.1, r1.mono fun b z => z.1, (w.mono fun b z => z.1).frz fun z => z.2 rfl, h1, fun z u H3 pz s rz => ?_⟩
 obtain ⟨b, rfl, pz⟩ := pz
 exact k _ η1 _ _ pz (e1.trans (.same s)) (R1.same s) (by unfold Rep at rz ⊢; exact rz)
theorem zt_opR {op : CmpOp} {r : R2p} (ho : OpR X (compareOp op) (r2 X.K r)) (ha : PE X a (up X.K T ti)) (hb : PE X b (tVar i)) (hm : behindInMarks op b = false := by first | exact nomark _ | rfl) : PT X (.Compare a [op] [b] pos) (upB X.K T (tBlP (tOpRP r ti i))) := by
 refine PT.weak (pt_cmpR ho ha hb hm) fun σ H Q q => ?_
 obtain ⟨F, η, P, R, h, k⟩ := q
 refine opR_up (Q := fun x H' => ∃ k, x = .bl k ∧ Q k H') ⟨F, η, _, R, h, fun z η1 v H1 h1 e1 R1 rz => ?_⟩
 split at h1
 ·unfold Rep at rz
  exact ⟨_, rz, k _ η1 H1 h1 e1 R1⟩
 ·cases h1
end
abbrev TOp' := EP' → (Ow → EP' → Prop) → Prop
section
variable {X : Cx} {T : List (Addr × Str)} {e : Expr} {st : Stmt} {rest : List Stmt} {t1 : TSp} {tf : TOp'} {pos : Pos} {i : Nat}
end
end Z
namespace Z
open PySem PySem.Spec L2
open PyProof.Rows hiding St
section
variable {K : PySem.W.Frag} {O : Addr → Prop} {H : Hp}
theorem RepD.get : ∀ {xs : List (Key × PV)} {vs : List (Key × V)} {j : Nat} {p : Key × PV}, RepD K O H xs vs → xs[j]? = some p → ∃ v, vs[j]? = some (p.1, v)
 | [], _, j, p, h, e => by simp at e
 | (n, x) :: xs, _, 0, p, h, e => by
  obtain ⟨v, us, rfl, r, t⟩ := h.inv
  simp at e
  exact ⟨v, by rw [← e]; rfl⟩
 | (n, x) :: xs, _, j + 1, p, h, e => by
  obtain ⟨v, us, rfl, r, t⟩ := h.inv
  simpa using t.get (by simpa using e)
end
end Z
namespace Z
open PySem PySem.Spec L2
end Z
namespace Z
open PySem PySem.Spec L2
open PyProof.Rows hiding St
end Z
namespace Z
open PySem PySem.Spec L2
open PyProof.Rows hiding St
end Z
namespace Z
open PySem PySem.Spec L2
open PyProof.Rows hiding St
end Z
namespace Z
open PySem PySem.Spec L2
open PyProof.Rows hiding St
end Z
namespace Z
open PySem PySem.Spec L2
open PyProof.Rows hiding St
variable {X : Cx}
end Z
namespace Z
open PySem PySem.Spec L2
open PyProof.Rows hiding St
end Z
namespace Z
open PySem PySem.Spec L2
open PyProof.Rows hiding St
end Z
namespace Z
open PySem PySem.Spec L2 GenW
open PyProof.Rows hiding St
end Z
namespace Z
open PySem PySem.Spec L2 GenW
open PyProof.Rows hiding St
end Z
namespace Z
open PySem PySem.Spec L2
open PyProof.Rows hiding St
end Z
namespace Z
open PySem PySem.Spec L2
open PyProof.Rows hiding St
end Z
namespace Z
open PySem PySem.Spec L2
open PyProof.Rows hiding St
end Z
namespace Z
open PySem PySem.Spec L2
open PyProof.Rows hiding St
end Z
namespace Z
open PySem PySem.Spec L2
open PyProof.Rows hiding St
end Z
namespace Z
open PySem PySem.Spec L2
open PyProof.Rows hiding St
abbrev WZ := Addr → List (Str × PV) → EP' → Prop
abbrev WC := Addr → List (Str × PV) → Prop
def XAt (K : PySem.W.Frag) (O : Addr → Prop) (H : Hp) (d : Option Addr) (fs : List (Str × PV)) : Prop :=
 (fs = [] ∧ d = none) ∨ ∃ x ws, d = some x ∧ ¬ O x ∧ H x = some (.xd ws) ∧ RepF K O H fs ws
abbrev WXs := Value → Option Addr → St → Hp → Prop
def XCn (K : PySem.W.Frag) (T : List (Addr × Str)) (W : WXs) (F : Addr → Prop) (σ : St) (η : EP') (H : Hp) (Zw : WZ) : Prop :=
 ∀ C fs η' d σ' H', Zw C fs η' → Ext σ η σ' η' H H' → Rs K T F σ' η' H' → XAt K (Oof F σ' η') H' d fs → W (.ref C) d σ' H'
abbrev TXp := EP' → (PV → EP' → Prop) → WZ → Prop
abbrev TSX := EndsP → WZ → EP' → Prop
def upX (K : PySem.W.Frag) (T : List (Addr × Str)) (W : WXs) (tp : TXp) : TE := fun σ H Q => ∃ F η P Zw, Rs K T F σ η H ∧ tp η P Zw ∧
 (∀ x η' v H', P x η' → Ext σ η σ η' H H' → Rs K T F σ η' H' → Rep K (Oof F σ η') H' x v → Q v H') ∧ XCn K T W F σ η H Zw
def upSX (K : PySem.W.Frag) (T : List (Addr × Str)) (W : WXs) (ts : TSX) : TS := fun D σ H => ∃ F η D' Zw, Rs K T F σ η H ∧ ts D' Zw η ∧
 (∀ η' σ' H', D'.nx η' → Ext σ η σ' η' H H' → Rs K T F σ' η' H' → D.nx σ' H') ∧
 (∀ η' σ' H', D'.bk η' → Ext σ η σ' η' H H' → Rs K T F σ' η' H' → D.bk σ' H') ∧
 (∀ η' σ' H', D'.ct η' → Ext σ η σ' η' H H' → Rs K T F σ' η' H' → D.ct σ' H') ∧
 (∀ x η' σ' v H', D'.rt x η' → Ext σ η σ' η' H H' → Rs K T F σ' η' H' → Rep K (Oof F σ' η') H' x v → D.rt v H') ∧ XCn K T W F σ η H Zw
section
variable {X : Cx} {K : PySem.W.Frag} {T : List (Addr × Str)} {W : WXs} {F : Addr → Prop} {σ σ1 : St} {η η1 : EP'} {H H1 : Hp} {Zw : WZ} {e o : Expr} {es : List Expr} {te : TXp} {t : TAp} {pos : Pos} {st : Stmt} {rest : List Stmt} {t1 t2 : TSX} {u1 u2 : TSp}
theorem XCn.ext (c : XCn K T W F σ η H Zw) (e : Ext σ η σ1 η1 H H1) : XCn K T W F σ1 η1 H1 Zw := fun C fs η' d σ' H' z e2 R x => c C fs η' d σ' H' z (e.trans e2) R x
def tPlX (t : TSp) : TSX := fun D _ η => t D η
theorem zx_pl (h : PS X st (upS X.K T u1)) : PS X st (upSX X.K T W (tPlX u1)) := PS.weak h fun D σ H q => by
 obtain ⟨F, η, D', Zw, R, h, k1, k2, k3, k4, kx⟩ := q
 exact ⟨F, η, D', R, h, k1, k2, k3, k4⟩
theorem zxs_pl {sts : List Stmt} (h : PSs X sts (upS X.K T u1)) : PSs X sts (upSX X.K T W (tPlX u1)) := PSs.weak h fun D σ H q => by
 obtain ⟨F, η, D', Zw, R, h, k1, k2, k3, k4, kx⟩ := q
 exact ⟨F, η, D', R, h, k1, k2, k3, k4⟩
def tSeqX (t u : TSX) : TSX := fun D Zw η => t { D with nx := fun η' => u D Zw η' } Zw η
theorem zxs_cons (h1 : PS X st (upSX X.K T W t1)) (h2 : PSs X rest (upSX X.K T W t2)) : PSs X (st :: rest) (upSX X.K T W (tSeqX t1 t2)) := by
 refine PSs.weak (pss_cons h1 h2) fun D σ H q => ?_
 obtain ⟨F, η, D', Zw, R, h, k1, k2, k3, k4, kx⟩ := q
 refine ⟨F, η, _, Zw, R, h, fun η' σ' H' q e1 R1 => ?_, k2, k3, k4, kx⟩
 exact ⟨F, η', D', Zw, R1, q, fun η'' σ'' H'' q' e2 R2 => k1 _ _ _ q' (e1.trans e2) R2, fun η'' σ'' H'' q' e2 R2 => k2 _ _ _ q' (e1.trans e2) R2, fun η'' σ'' H'' q' e2 R2 => k3 _ _ _ q' (e1.trans e2) R2, fun x η'' σ'' v H'' q' e2 R2 r => k4 _ _ _ _ _ q' (e1.trans e2) R2 r, kx.ext e1⟩
theorem zxs_one (h1 : PS X st (upSX X.K T W t1)) : PSs X [st] (upSX X.K T W t1) := pss_one h1
def tIfX (c : TTp) (t u : TSX) : TSX := fun D Zw η => c η fun b η1 => if b = true then t D Zw η1 else u D Zw η1
theorem zx_if {c : Expr} {a b : List Stmt} {tc : TTp} (hc : PT X c (upB X.K T tc)) (ha : PSs X a (upSX X.K T W t1)) (hb : PSs X b (upSX X.K T W t2)) : PS X (.If c a b pos) (upSX X.K T W (tIfX tc t1 t2)) := by
 refine PS.weak (ps_if hc ha hb) fun D σ H q => ?_
 obtain ⟨F, η, D', Zw, R, h, k1, k2, k3, k4, kx⟩ := q
 refine ⟨F, η, _, R, h, fun x η1 H1 h1 e1 R1 => ?_⟩
 cases x with
 | true =>
  simp only [if_true] at h1 ⊢
  exact ⟨F, η1, D', Zw, R1, h1, fun η'' σ'' H'' q' e2 R2 => k1 _ _ _ q' (e1.trans e2) R2, fun η'' σ'' H'' q' e2 R2 => k2 _ _ _ q' (e1.trans e2) R2, fun η'' σ'' H'' q' e2 R2 => k3 _ _ _ q' (e1.trans e2) R2, fun x η'' σ'' v H'' q' e2 R2 r => k4 _ _ _ _ _ q' (e1.trans e2) R2 r, kx.ext e1⟩
 | false =>
  simp only [Bool.false_eq_true, if_false] at h1 ⊢
  exact ⟨F, η1, D', Zw, R1, h1, fun η'' σ'' H'' q' e2 R2 => k1 _ _ _ q' (e1.trans e2) R2, fun η'' σ'' H'' q' e2 R2 => k2 _ _ _ q' (e1.trans e2) R2, fun η'' σ'' H'' q' e2 R2 => k3 _ _ _ q' (e1.trans e2) R2, fun x η'' σ'' v H'' q' e2 R2 r => k4 _ _ _ _ _ q' (e1.trans e2) R2 r, kx.ext e1⟩
def tForX (ti : TIp) (g : TGp) (tb : TSX) : TSX := fun D Zw η => ti η fun xs η1 => ∃ Inv : Nat → EP' → Prop, Inv 0 η1 ∧
 (∀ i x η2, xs[i]? = some x → Inv i η2 → g x η2 fun η3 => tb { D with nx := Inv (i + 1), ct := Inv (i + 1), bk := D.nx } Zw η3) ∧ ∀ η2, Inv xs.length η2 → D.nx η2
theorem zx_for {tg : Expr} {iter : Expr} {body : List Stmt} {ti : TIp} {g : TGp} {tb : TSX} (hp : PassesOwn (model X.prog X.w) X.A X.env X.xe) (hc : X.calm = true) (hi : PI X tg iter (upI X.K T ti)) (hg : PG X tg (upG X.K T g)) (hb : PSs X body (upSX X.K T W tb))
  (hs : ∀ x, foldedSetIterable iter X.env x = pure x := by intro _; rfl) : PS X (.For tg iter body [] pos) (upSX X.K T W (tForX ti g tb)) := by
 refine PS.weak (ps_for hp hc hi hg hb hs) fun D σ H q => ?_
 obtain ⟨F, η, D', Zw, R, h, k1, k2, k3, k4, kx⟩ := q
 refine ⟨F, η, _, R, h, fun xs η1 J H1 h1 e1 R1 hJ => ?_⟩
 obtain ⟨Inv, i0, step, fin⟩ := h1
 refine ⟨fun i m σ2 H2 => m = xs.length - i ∧ i ≤ xs.length ∧ ∃ η2, Inv i η2 ∧ Rs X.K T F σ2 η2 H2 ∧ Ext σ η1 σ2 η2 H1 H2, ⟨_, rfl, Nat.zero_le _, η1, i0, R1, .refl⟩, ?_⟩
 rintro i m σ2 H2 ⟨rfl, hi, η2, p, R2, e2⟩
 have it := hJ (Oof F σ2 η2) H2 R2.trO e2.car e2.live i
 by_cases hlt : i < xs.length
 ·refine .inr ⟨(it.1 xs[i] (by simp [hlt])).1, fun σ3 H3 => ∃ η3, Inv (i + 1) η3 ∧ Rs X.K T F σ3 η3 H3 ∧ Ext σ η1 σ3 η3 H1 H3, fun σ' H' ⟨η3, p', R', e'⟩ => ⟨xs.length - (i + 1), by omega, rfl, hlt, η3, p', R', e'⟩, fun v H3 y => ?_⟩
  obtain ⟨s, rep⟩ := (it.1 xs[i] (by simp [hlt])).2 v H3 y
  refine ⟨F, η2, _, _, R2.same s, rep, step i _ η2 (by simp [hlt]) p, fun η4 σ4 H4 h4 e4 R4 => ?_⟩
  have E := (e2.trans (.same s)).trans e4
  exact ⟨F, η4, _, Zw, R4, h4, fun η5 σ5 H5 h5 e5 R5 => ⟨η5, h5, R5, E.trans e5⟩, fun η5 σ5 H5 h5 e5 R5 => k1 _ _ _ h5 ((e1.trans E).trans e5) R5, fun η5 σ5 H5 h5 e5 R5 => ⟨η5, h5, R5, E.trans e5⟩, fun x η5 σ5 v H5 h5 e5 R5 r5 => k4 _ _ _ _ _ h5 ((e1.trans E).trans e5) R5 r5, kx.ext (e1.trans E)⟩
 ·have e : i = xs.length := by omega
  subst e
  exact .inl ⟨it.2 rfl, k1 _ _ _ (fin η2 p) (e1.trans e2) R2⟩
def tExX (te : TXp) : TSX := fun D Zw η => te η (fun _ η1 => D.nx η1) Zw
theorem zx_expr (he : PE X e (upX X.K T W te)) (hs : swapsWith e none pos.line X.env = pure false := by rfl) : PS X (.Expr e pos) (upSX X.K T W (tExX te)) := by
 refine PS.weak (ps_expr he hs) fun D σ H q => ?_
 obtain ⟨F, η, D', Zw, R, h, k1, k2, k3, k4, kx⟩ := q
 exact ⟨F, η, _, Zw, R, h, fun x η1 v H1 h1 e1 R1 _ => k1 _ _ _ h1 e1 R1, kx⟩
def tSetX (i : Nat) (te : TXp) : TSX := fun D Zw η => te η (fun x η1 => D.nx (η1.set i (.va x))) Zw
theorem zx_set {i : Nat} {x : Str} {pos' : Pos} (hN : X.N.Nodup) (hi : X.N[i]? = some x) (hx : Loc X.env.scope x) (he : PE X e (upX X.K T W te)) (hs : swapsWith e (some (.Name x pos')) pos.line X.env = pure false := by rfl) (hf : X.fn x = true ∨ X.env.scope.names.lookup x = some .local := by first | exact .inl rfl | exact .inr rfl | assumption) :
  PS X (.Assign [.Name x pos'] e pos) (upSX X.K T W (tSetX i te)) := by
 refine PS.weak (ps_set hN hi hx he hs hf) fun D σ H q => ?_
 obtain ⟨F, η, D', Zw, R, h, k1, k2, k3, k4, kx⟩ := q
 exact ⟨F, η, _, Zw, R, h, fun x η1 v H1 h1 e1 R1 r => k1 _ _ _ h1 (e1.trans .setv) (R1.setv r), kx⟩
def tAsgX (te : TXp) (g : TGp) : TSX := fun D Zw η => te η (fun x η1 => g x η1 D.nx) Zw
theorem zx_asg {tg : Expr} {g : TGp} (he : PE X e (upX X.K T W te)) (hg : PG X tg (upG X.K T g)) (hs : swapsWithSole [tg] e pos.line X.env = pure false := by rfl) (hw : swappedStores [tg] e X.env = pure none := by rfl) (h1 : (assignEach [tg] X.env).map (·.2) = [assign tg X.env] := by rfl) : PS X (.Assign [tg] e pos) (upSX X.K T W (tAsgX te g)) := by
 refine PS.weak (ps_asg he hg hs hw h1) fun D σ H q => ?_
 obtain ⟨F, η, D', Zw, R, h, k1, k2, k3, k4, kx⟩ := q
 refine ⟨F, η, _, Zw, R, h, fun x η1 v H1 h1 e1 R1 r => ?_, kx⟩
 exact ⟨F, η1, x, _, R1, r, h1, fun η2 σ2 H2 h2 e2 R2 => k1 _ _ _ h2 (e1.trans e2) R2⟩
end
abbrev SpX := List PV → (PV → Prop) → WC → Prop
def upSpX (K : PySem.W.Frag) (T : List (Addr × Str)) (sp : SpX) : Sp := fun vs H Q E => ∃ F args P Zw, Trk F H ∧ LamX.Tabs T H ∧ Reps K F H args vs ∧ sp args P Zw ∧
 (∀ x v H', P x → Gr H H' → LamX.Tabs T H' → Rep K F H' x v → Q v H') ∧ (∀ C fs d H', Zw C fs → Gr H H' → LamX.Tabs T H' → XAt K F H' d fs → E (.ref C) d H')
abbrev SpRX := Ow → List PV → (PV → Ow → Prop) → WC → Prop
section
variable {K : PySem.W.Frag} {T : List (Addr × Str)} {F : Addr → Prop} {H H' : Hp}
theorem XAt.mono {O O' : Addr → Prop} {d : Option Addr} {fs : List (Str × PV)} (h : ∀ a, O' a → O a) (x : XAt K O H d fs) : XAt K O' H d fs := by
 rcases x with x | ⟨a, ws, e, n, q, r⟩
 ·exact .inl x
 ·exact .inr ⟨a, ws, e, fun z => n (h a z), q, r.mono h⟩
theorem body_spX {N : List Str} {sp : SpX} {ts : TSX} {vs : List V} {Q : VK} {E : XK} (h : upSpX K T sp vs H Q E) (hl : ∀ args P Zw, sp args P Zw → args.length ≤ N.length)
  (rd : ∀ args P Zw, sp args P Zw → ts { nx := fun _ => P .non, rt := fun x _ => P x } (fun C fs _ => Zw C fs) (startP N.length args)) :
  upSX K T (fun cls d _ H' => E cls d H') ts { nx := fun _ H' => Q .non H', rt := Q } (start N vs) H := by
 obtain ⟨F, args, P, Zw, tr, tb, r, hs, k, kx⟩ := h
 have R := rs_start (N := N) tr tb r (hl _ _ _ hs)
 have gr : ∀ {σ' η' H'}, Ext (start N vs) (startP N.length args) σ' η' H H' → Gr H H' := fun e => ⟨fun b o h t => e.keep b o h startP_noown t, e.live⟩
 refine ⟨F, _, _, _, R, rd args P Zw hs, fun η' σ' H' q e R' => ?_, fun _ _ _ q => q.elim, fun _ _ _ q => q.elim, fun x η' σ' v H' q e R' r' => ?_, fun C fs η' d σ' H' z e R' x => ?_⟩
 ·exact k _ _ _ q (gr e) R'.tb rep_non
 ·exact k _ _ _ q (gr e) R'.tb (r'.mono fun b z => .inl z)
 ·exact kx _ _ _ _ z (gr e) R'.tb (x.mono fun b z => .inl z)
theorem len_spX {ps : List Str} {sp : SpX} (hl : ∀ args P Zw, sp args P Zw → args.length = ps.length) : ∀ vs H Q E, upSpX K T sp vs H Q E → vs.length = ps.length := fun vs H Q E h => by
 obtain ⟨F, args, P, Zw, _, _, r, hs, _⟩ := h
 rw [r.len, hl _ _ _ hs]
end
end Z
namespace L2N
open PySem PySem.Spec PyProof.Rows L2
theorem takes0 {X : Cx} : L2N.Takes X (fun _ _ _ _ => False) := fun _ _ x => by
 obtain ⟨_, _, _, _, _, _, _, _, _, _, _, _, _, _, _, _, z⟩ := x
 exact z.elim
end L2N
namespace Z
open PySem PySem.Spec L2
open PyProof.Rows hiding St
section
variable {P : Program} {w : World} {K : PySem.W.Frag} {mg : Str → Option Value} {base : Heap} {T : List (Addr × Str)}
theorem okXP {x qual : Str} {st : Stmt} {f : Addr} {fd : FuncData} {N ps : List Str} {k : Nat} {sp : SpX} (Fn : Fun K x qual st f fd) (S : FnScope N ps (defScope st)) (hl : ∀ args P Zw, sp args P Zw → args.length = ps.length) (hn : ps.length ≤ N.length)
  (hbody : ∀ (cdv : Value) (A : Around) (outer : List Env) (s : Shared) (H : Hp) (E : XK), Room k (A.deeper (envOfC qual (defScope st) s.heap.objs.size f cdv)) → L2N.Takes (cxOf (L2N.CX P w) P w K mg base N qual (defScope st) f cdv A outer s H E) (fun cls d _ H' => E cls d H') →
   PassesOwn (model P w) (cxOf (L2N.CX P w) P w K mg base N qual (defScope st) f cdv A outer s H E).A (cxOf (L2N.CX P w) P w K mg base N qual (defScope st) f cdv A outer s H E).env (cxOf (L2N.CX P w) P w K mg base N qual (defScope st) f cdv A outer s H E).xe →
   ∃ ts, PSs (cxOf (L2N.CX P w) P w K mg base N qual (defScope st) f cdv A outer s H E) (defBody st) (upSX K T (fun cls d _ H' => E cls d H') ts) ∧
    ∀ args P Zw, sp args P Zw → ts { nx := fun _ => P .non, rt := fun x _ => P x } (fun C fs _ => Zw C fs) (startP N.length args)) :
  FnOk P w K mg base (L2N.CX P w) (k + 1) f fd ps (upSpX K T sp) := by
 obtain ⟨oc, od, kV, doc, pm, an, cdv, ct, osl, rfl, lk, hcd⟩ := Fn.ex
 refine fn_of lk hcd S (len_spX hl) fun A outer s H vs Q E hr h => ?_
 obtain ⟨ts, d, rd⟩ := hbody cdv A outer s H E hr (L2N.takes_of rfl rfl rfl rfl) PassesOwn.leaving
 exact ⟨_, d, body_spX h (fun args P Zw hs => by rw [hl _ _ _ hs]; exact hn) rd⟩
end
section
variable {X : Cx} {T : List (Addr × Str)} {W : WXs} {a b e o : Expr} {es : List Expr} {te ta tb : TEp} {t : TAp} {tf : TFp} {pos p apos : Pos} {k : Nat} {f C : Addr} {fd : FuncData} {ps : List Str} {sp : SpX} {sr : SpRX} {x m : Str}
def tCallX (sp : SpX) (dps : List PV) (t : TAp) : TXp := fun η P Zw => t η fun args η1 => sp (args ++ dps) (fun z => P z η1) fun C fs => Zw C fs η1
theorem call_upX {K : PySem.W.Frag} {σ : St} {H : Hp} {Q : VK} {dps : List PV} {dvs : List V} (hd : ∀ O H, Reps K O H dps dvs) (q : upX K T W (tCallX sp dps t) σ H Q) : tCallSD (upSpX K T sp) dvs (WE W) (upA K T t) σ H Q := by
 obtain ⟨F, η, P, Zw, R, h, k, kx⟩ := q
 refine ⟨F, η, _, R, h, fun args η1 vs H1 h1 e1 R1 r1 => ?_⟩
 exact ⟨Oof F σ η1, _, _, _, R1.trO, R1.tb, r1.app (hd _ _), h1, fun z v H2 pz g tb rz => k z η1 v H2 pz (e1.trans g.ext) (R1.gr g tb) rz, fun C fs d H2 z g tb x => kx C fs η1 d σ H2 z (e1.trans g.ext) (R1.gr g tb) x⟩
theorem zx_call (Fn : FnOk X.prog X.w X.K X.mg X.base (L2N.CX X.prog X.w) k f fd ps (upSpX X.K T sp)) (tk : L2N.Takes X W) (hr : Room k X.A) (hg : Gl X x) (hm : X.mg x = some (.ref f)) (hk : PySem.W.keepIn X.K (.ref f) = true) {dvs : List V} {ds : List Value} {dps : List PV} (hb : Binds X.K fd ps ds) (hd : Vals dvs ds) (hp : ∀ O H, Reps X.K O H dps dvs)
  (ha : PA X (e :: es) (upA X.K T t)) (hdb : (x == ("__debug__" : Str)) = false := by decide) (he : starEach (e :: es) X.env = (false, eval e X.env) :: starEach es X.env := by rfl) (hpl : (backTo pos (starEach es X.env)).any (·.1) = false := by rfl) :
  PE X (.Call (.Name x p) (e :: es) [] pos) (upX X.K T W (tCallX sp dps t)) :=
 PE.weak (pe_callSD Fn hr hg hm hk hb hd (L2N.passAt tk) ha hdb he hpl) fun σ H Q q => call_upX hp q
end
section
variable {X : Cx} {T : List (Addr × Str)} {W : WXs} {e : Expr} {te : TEp} {pos p pos' : Pos} {C fI cc cda : Addr} {B i newId : String} {bmB : List Value} {fld x : Str} {fd : FuncData}
def tRaiseX (C : Addr) (fld : Str) (te : TEp) : TSX := fun _ Zw η => te η fun y η1 => Zw C [(fld, y)] η1
structure XOk (P : Program) (K : PySem.W.Frag) (mg : Str → Option Value) (x : Str) (C : Addr) (fld : Str) : Prop where
 ex : ∃ (fI cc cda : Addr) (B i newId : String) (bmB : List Value) (fd : FuncData), ZX.BaseX B i newId bmB ∧ ZX.XInit P K C fI cc cda fld B i newId bmB fd ∧ ZX.XCl K C fI
 g : mg x = some (.ref C)
theorem zx_raise (Y : XOk X.prog X.K X.mg x C fld) (hsup : X.mg "super" = none) (tk : L2N.Takes X W) (hc : X.calm = true) (hr : L2H.RoomH 1 X.A) (hg : Gl X x) (ha : PE X e (up X.K T te))
  (hdb : (x == ("__debug__" : Str)) = false := by decide) (he : starEach [e] X.env = (false, eval e X.env) :: starEach [] X.env := by rfl) (hpl : (backTo pos' (starEach [] X.env)).any (·.1) = false := by rfl) :
  PS X (.Raise (some (.Call (.Name x p) [e] [] pos')) none pos) (upSX X.K T W (tRaiseX C fld te)) := by
 obtain ⟨fI, cc, cda, B, i, newId, bmB, fd, BX, YI, YC⟩ := Y.ex
 refine PS.weak (L2N.ps_raise hc tk (ZX.pmk_X BX YI YC hsup hr hg Y.g (za_cons ha za_nil he) hdb he hpl)) fun D σ H q => ?_
 obtain ⟨F, η, D', Zw, R, h, k1, k2, k3, k4, kx⟩ := q
 refine ⟨F, η, fun ys η1 => ∃ y, ys = [y] ∧ Zw C [(fld, y)] η1, R, ?_, fun ys η1 vs H1 h1 e1 R1 r1 => ?_⟩
 ·refine Eq.mp ?_ (show te η fun y η1 => Zw C [(fld, y)] η1 from h)
  unfold tConsP tNilP
  congr 1
  funext y η1
  simp
 ·obtain ⟨y, rfl, hz⟩ := h1
  obtain ⟨v, rfl, r⟩ := r1.one
  refine ⟨v, rfl, fun d nd => ?_⟩
  have sm : Same H1 (upd H1 d (.xd [(fld, v)])) := Same.new nd
  refine kx C [(fld, y)] η1 (some d) σ _ hz (e1.trans (.same sm)) (R1.same sm) (.inr ⟨d, _, rfl, R1.trO.fresh nd, upd_same, ?_⟩)
  unfold RepF
  exact ⟨v, [], rfl, r.car (Car.same sm), by unfold RepF; rfl⟩
end
end Z
namespace L2N
open PySem PySem.Spec PyProof.Rows L2
inductive NamesL (X : Cx) : List Expr → List Value → Prop
 | nil : NamesL X [] []
 | cons {x : Str} {p : Pos} {c : Value} {es : List Expr} {cs : List Value} : Names X x c → NamesL X es cs → NamesL X (.Name x p :: es) (c :: cs)
def TupM (P : Program) (w : World) (K : PySem.W.Frag) (cs : List Value) : Prop := ∀ {cls : Value} {tp e : Addr} {b : Bool} {h : Heap}, K.In h → PySem.W.Looks (model P w) h (typeOf (.ref e)) cls →
 h.get? tp = some { cls := .type "tuple", data := .seq cs.toArray } → PySem.W.exmAny K cls cs = some b → PySem.W.Looks (model P w) h (excMatches (.ref e) (.ref tp)) b
theorem tupM3 {P : Program} {w : World} {K : PySem.W.Frag} {c1 c2 c3 : Value} : TupM P w K [c1, c2, c3] := fun X LT hp hx => PySem.W.exm_tup3 X LT hp hx
theorem flying_keep {B h h' : Heap} {l : List Env} {a : Addr} {Z : Obj → Prop} (k : ∀ b o, h.get? b = some o → h'.get? b = some o) (x : HandSPX.FlyingZ B l a Z h) : HandSPX.FlyingZ B l a Z h' := by
 obtain ⟨x1, x2, x3, oe, vs, T, oT, ts, e1, e2, e3, e4, e5, e6, e7, e8⟩ := x
 exact ⟨fun b o e => k b o (x1 b o e), x2, x3.of_keeps fun b o e _ => ⟨o, k b o e, rfl⟩, oe, vs, T, oT, ts, k _ _ e1, e2, e3, e4, e5, e6, k _ _ e7, e8⟩
theorem evalNames {X : Cx} {a : Addr} {q : Addr × Obj} {pn pins : List (Addr × Obj)} {σ : St} {H : Hp} {s : Shared} {np : Pos} {E : Value → Shared → Prop} (I : Inv (X.suite a (q :: pn)) pins σ H s) : ∀ {es : List Expr} {cs : List Value}, NamesL X es cs → ∀ {Q : List Value → Shared → Prop}, Q cs s →
  wpAny (model X.prog X.w) (X.A.mark (some (.ref a))) (spliced (backTo np (starEach es X.env))) Q E s
 | _, _, .nil, Q, q => spliced_none q
 | _, _, .cons (x := x) (p := p) (c := c) hc r, Q, qq => by
  refine spliced_more ?_
  obtain ⟨hg, hdbg, hm | ⟨hm, hv, hnn⟩⟩ := hc
  ·exact ld_glob (X := X.suite a (q :: pn)) I hg hm (evalNames I r qq) hdbg
  ·exact ld_blt (X := X.suite a (q :: pn)) I hg hm hv (evalNames I r qq) hnn hdbg
def wTup (K : PySem.W.Frag) (cs : List Value) (i : Nat) (ts : Addr → Value → Option Addr → TS) (Wout : WX) (D : Ends) : WX := fun cls d σ H =>
 ∃ b, PySem.W.exmAny K cls cs = some b ∧ (b = true → ∀ a, H a = none → ts a cls d { nx := fun σ' H' => D.nx (σ'.set i none) H', rt := D.rt, bk := fun σ' H' => D.bk (σ'.set i none) H', ct := fun σ' H' => D.ct (σ'.set i none) H' } (σ.set i (some (.ref a))) H) ∧
  (b = false → Wout cls d σ H)
def wTupO (K : PySem.W.Frag) (cs : List Value) (ts : Addr → Value → Option Addr → TS) (Wout : WX) (D : Ends) : WX := fun cls d σ H =>
 ∃ b, PySem.W.exmAny K cls cs = some b ∧ (b = true → ∀ a, H a = none → ts a cls d D σ H) ∧ (b = false → Wout cls d σ H)
section
variable {X : Cx} {n : Str} {cs : List Value} {elts : List Expr} {ek : Nat} {i : Nat} {body suite : List Stmt} {b₀ : Stmt} {np pos pos' : Pos} {tb : WX → TS} {ts : Addr → Value → Option Addr → TS} {Wout : WX}
theorem ps_try_tup_as (hs : X.stack = X.env :: X.outer) (hf : X.env.frame = some X.env.locals) (hN : X.N.Nodup) (hi : X.N[i]? = some n) (hln : X.env.kindOf n = some .local) (hc : NamesL X elts cs) (hm : TupM X.prog X.w X.K cs) (hl : cs.length ≤ 1000) (tk : Takes X Wout)
  (hb : ∀ (W : WX) (pn : List (Addr × Obj)) (xe : Value → Shared → Prop), Takes (X.tr pn xe) W → PassesOwn (model X.prog X.w) X.A X.env xe → PSs (X.tr pn xe) body (tb W))
  (hsu : ∀ (a : Addr) (oe : Obj) (cls : Value) (d : Option Addr) (pn : List (Addr × Obj)), Zn cls d oe → (∃ vs, oe.data = .fields vs) → PSs (X.suite a ((a, oe) :: pn)) (b₀ :: suite) (ts a cls d)) :
  PS X (.Try body [.ExceptHandler (some (.Tuple elts ek np)) (some n) (b₀ :: suite) pos'] [] [] pos) (fun D σ H => tb (wTup X.K cs i ts Wout D) D σ H) := by
 refine ⟨fun pins s σ H D I h => ?_⟩
 have ok := I.ok
 have hfr : X.A.frames = some (X.env :: X.outer) := by rw [ok.frames, hs]
 have hloc : Loc X.env.scope n := .inl hln
 refine wpAny_Try_except ?_
 refine wpAny_mono ((hb (wTup X.K cs i ts Wout D) (X.pn ++ pins) (fun e s₁ => wpAny (model X.prog X.w) X.A (noteFrame e X.env) (fun _ s₂ => wpAny (model X.prog X.w) X.A (setFlight e none) (fun _ s₃ =>
  wpAny (model X.prog X.w) X.A (handleBy e X.env [.ExceptHandler (some (.Tuple elts ek np)) (some n) (b₀ :: suite) pos']) (SP X pins D) X.xe s₃) X.xe s₂) X.xe s₁) (fun u s' xx => ?_) PassesOwn.looking).run [] s σ H D (I.toTry _) h) (fun f s1 hsp => ?_) (fun e s1 he => he)
 ·-- the catch
  obtain ⟨a, B, sI, pins', σ', H', cls, d, rfl, J', nb, up, sky, na, os, ag, b, hb1, hyes, hno⟩ := xx
  have J : Inv X pins σ' H' sI := J'.ofTry ok
  have sky' : Sky B (X.env :: X.outer) a (Zn cls d) X.env.locals s'.heap := by rw [← hs]; exact sky
  show wpAny (model X.prog X.w) X.A (noteFrame (.ref a) X.env) _ _ _
  refine Sky.land Zn.steady hfr hf sky' fun h3' fl3' up3' => ?_
  have J3' : Inv X pins σ' H' { s' with heap := h3' } := J.landed nb fl3'.1 (up.trans up3') os ag
  obtain ⟨oe3, vs3, he3', hz3, hd3⟩ := fl3'.there
  have notFr : ∀ {h : Heap} {o : Obj} {vs : Array Value}, h.FunFrames B (X.env :: X.outer) → h.get? a = some o → o.data = .fields vs → a ∉ frs (X.env :: X.outer) := fun {h o vs} ff e dd hm => by
   obtain ⟨_, o', e', hnf⟩ := ff.mem hm
   rw [e] at e'; cases e'
   exact hnf _ dd
  have nfr := notFr fl3'.2.2.1 he3' hd3
  have nL : a ≠ X.env.locals := fun z => nfr (List.mem_filterMap.mpr ⟨X.env, List.mem_cons_self, by rw [hf, z]⟩)
  have nF : a ∉ X.fs := fun hm => by
   obtain ⟨e, he, q⟩ := List.mem_filterMap.mp hm
   exact nfr (List.mem_filterMap.mpr ⟨e, List.mem_cons_of_mem _ he, q⟩)
  have S3' := J3'.suite he3' hd3 na nL nF
  refine wpAny_handleBy_cons (codeAny_handlers_test ?_) (by intro q; cases q)
  refine Tuple_ (evalNames S3' hc ?_)
  refine wpAny_newObj_type ?_ (by show cs.toArray.size ≤ sizeLine; rw [List.size_toArray, sizeLine_eq]; omega)
  let h3 : Heap := h3'.push { cls := .type "tuple", dict := none, data := .seq cs.toArray }
  have kp : ∀ b o, h3'.get? b = some o → h3.get? b = some o := fun b o e => Heap.get?_push_of_some _ e
  have fl3 : HandSPX.FlyingZ B (X.env :: X.outer) a (Zn cls d) h3 := flying_keep kp fl3'
  have up3 : s'.heap.UpToSlots h3 := up3'.trans (Heap.UpToSlots.of_keeps kp)
  have J3 : Inv X pins σ' H' { s' with heap := h3 } := J.landed nb fl3.1 (up.trans up3) os ag
  have he3 := kp _ _ he3'
  have LT : PySem.W.Looks (model X.prog X.w) h3 (typeOf (.ref a)) cls := fun A Q E s k q => wpAny_typeOf_ref (k _ _ he3) (by rw [hz3.1]; exact q)
  have LM := hm J3.kIn LT (Heap.get?_push_size _ rfl) hb1
  show wpAny _ _ _ _ _ { s' with heap := h3 }
  refine LM.here ?_
  cases b with
  | true =>
   refine codeAny_handlers_suite_as ?_
   refine HandSPX.lands_againZ fl3 fun h4 fl4 up4 => ?_
   have J4 : Inv X pins σ' H' { s' with heap := h4 } := J.landed nb fl4.1 ((up.trans up3).trans up4) os ag
   obtain ⟨oe4, vs4, he4, hz4, hd4⟩ := fl4.there
   have S4 := J4.suite he4 hd4 na nL nF
   refine store_ok (X := X.suite a ((a, oe4) :: (X.pn ++ pins))) (v := .ref a) S4 hN hi hloc rfl (fun s5 S5 => ?_) (.inr hln)
   refine wpAny_mono ((hsu a oe4 cls d (X.pn ++ pins) hz4 ⟨_, hd4⟩).run [] s5 _ H' _ S5 (hyes rfl a na)) (fun f s6 hsp => ?_) (fun _ _ z => False.elim z)
   have end_ : ∀ {σ6 : St} {H6 : Hp} {Q : Shared → Prop}, Inv (X.suite a ((a, oe4) :: (X.pn ++ pins))) [] σ6 H6 s6 → (∀ s7, Inv X pins (σ6.set i none) H6 s7 → Q s7) →
     wpAny (model X.prog X.w) X.A (do bindName X.env n .none; unbindBehindTheSuite X.env n pos') (fun _ s7 => Q s7) X.xe s6 := fun {σ6 H6 Q} S6 hq => gone_ok (S6.unsuite ok) hN hi hln hq
   cases f with
   | next =>
    obtain ⟨σ6, H6, S6, q6⟩ := hsp
    exact end_ S6 fun s7 J7 => ⟨_, _, J7, q6⟩
   | brk =>
    obtain ⟨σ6, H6, S6, q6⟩ := hsp
    exact end_ S6 fun s7 J7 => ⟨_, _, J7, q6⟩
   | cont =>
    obtain ⟨σ6, H6, S6, q6⟩ := hsp
    exact end_ S6 fun s7 J7 => ⟨_, _, J7, q6⟩
   | ret u =>
    obtain ⟨v6, σ6, H6, S6, r6, q6⟩ := hsp
    exact end_ S6 fun s7 J7 => ⟨_, _, _, J7, r6, q6⟩
  | false =>
   show wpAny _ X.A (handleBy (.ref a) X.env []) _ _ _
   refine wpAny_handleBy_nil ?_
   obtain ⟨k1, k2, k3, oe, vs, T, oT, ts', he, hz, hd, h1, hr⟩ := id fl3
   unfold PySem.passOn
   refine wpAny_bind (wpAny_field he hd h1 ?_)
   rw [if_neg (show ¬ ((Value.ref T == Value.none) = true) from by simp)]
   have fin : wpAny (model X.prog X.w) X.A (setFlight (.ref a) X.env.frame) (fun _ s4 => wpAny (model X.prog X.w) X.A (throw (.ref a) : Sem Flow) (SP X pins D) X.xe s4) X.xe { s' with heap := h3 } := by
    rw [hf]
    refine HandSPX.setFlight_upZ fl3 fun h4 hh4 up4 => wpAny_throw (tk _ _ ?_)
    exact ⟨a, B, sI, pins, σ', H', cls, d, rfl, J, nb, (up.trans up3).trans up4, .inr (.inr (by rw [hs]; exact hh4)), na, os, ag, hno rfl⟩
   first
    | exact wpAny_bind (wpAny_pure (wpAny_bind fin))
    | exact wpAny_bind fin
 ·cases f with
  | next =>
   obtain ⟨σ', H', J', q⟩ := hsp
   exact wpAny_execs_nil ⟨σ', H', J'.ofTry ok, q⟩
  | brk =>
   obtain ⟨σ', H', J', q⟩ := hsp
   exact ⟨σ', H', J'.ofTry ok, q⟩
  | cont =>
   obtain ⟨σ', H', J', q⟩ := hsp
   exact ⟨σ', H', J'.ofTry ok, q⟩
  | ret u =>
   obtain ⟨v, σ', H', J', r, q⟩ := hsp
   exact ⟨v, σ', H', J'.ofTry ok, r, q⟩
end
end L2N
namespace Z
open PySem PySem.Spec L2
open PyProof.Rows hiding St
section
variable {X : Cx} {T : List (Addr × Str)} {W : WXs} {e : Expr} {te ta : TEp} {t : TAp} {pos pos' np : Pos} {b₀ : Stmt} {body suite : List Stmt} {tb : TSX} {i ek : Nat} {n : Str} {cs : List Value} {elts : List Expr}
theorem XAt.rep {K : PySem.W.Frag} {O : Addr → Prop} {H : Hp} {d : Option Addr} {fs : List (Str × PV)} (x : XAt K O H d fs) (a : Addr) : Rep K O H (.exn a d fs) (.ref a) := by
 unfold Rep
 rcases x with ⟨rfl, rfl⟩ | ⟨y, ws, rfl, n, q, r⟩
 ·exact ⟨rfl, [], (fun _ z => nomatch z), by unfold RepF; rfl⟩
 ·exact ⟨rfl, ws, (fun _ z => by cases z; exact ⟨n, q⟩), r⟩
theorem XAt.some {K : PySem.W.Frag} {O : Addr → Prop} {H : Hp} {d : Option Addr} {fs : List (Str × PV)} (x : XAt K O H d fs) : fs = [] ∨ d.isSome := by
 rcases x with ⟨rfl, rfl⟩ | ⟨y, ws, rfl, n, q, r⟩
 ·exact .inl rfl
 ·exact .inr rfl
end
def PinX (X : Cx) (a : Addr) (cls : Value) (d : Option Addr) : Prop := ∃ oe : Obj, (a, oe) ∈ X.pn ∧ L2.Zc cls d oe ∧ ∃ vs, oe.data = .fields vs
theorem pinX_suiteC {X : Cx} {a : Addr} {oe : Obj} {cls : Value} {d : Option Addr} {pn : List (Addr × Obj)} (hz : L2.Zc cls d oe) (hf : ∃ vs, oe.data = .fields vs) : PinX (X.suite a ((a, oe) :: pn)) a cls d := ⟨oe, List.mem_cons_self, hz, hf⟩
theorem PinX.inst {X : Cx} {a C : Addr} {d : Option Addr} {pins : List (Addr × Obj)} {σ : St} {H : Hp} {s : Shared} (p : PinX X a (.ref C) d) (I : Inv X pins σ H s) (hd : ∀ x, d = some x → ∃ ws, H x = some (.xd ws)) : ∃ oe od, PySem.W.InstAt s.heap a oe C od ∧
  ∀ x ws, d = some x → H x = some (.xd ws) → ∃ (o : Obj) (mA : Str → Option Value), od = some o ∧ (∀ f, PySem.W.lookIn f o = some (mA f)) ∧ ∀ f, RelO (ws.lookup f) (mA f) := by
 obtain ⟨oe, hm, hz, vs, hv⟩ := p
 obtain ⟨hget, _⟩ := I.pin (a, oe) (List.mem_append.mpr (.inl hm))
 have nc : PySem.W.notCls oe = true := by unfold PySem.W.notCls; rw [hv] <;> rfl
 cases d with
 | none =>
  exact ⟨oe, none, ⟨hget, hz.1, nc, by rw [hz.2]; trivial⟩, fun x ws e => by cases e⟩
 | some x =>
  obtain ⟨ws, hx⟩ := hd x rfl
  have ok : ObjOk X.prog X.w H s.heap x (.xd ws) := I.hok x _ hx
  obtain ⟨mA, hns, hr⟩ := ok
  obtain ⟨od, ho, hl⟩ := lookIn_ns hns
  refine ⟨oe, some od, ⟨hget, hz.1, nc, by rw [hz.2]; exact ho⟩, fun y ws' e hy => ?_⟩
  cases e
  rw [hx] at hy
  cases hy
  exact ⟨od, mA, rfl, hl, hr⟩
section
variable {X : Cx} {T : List (Addr × Str)} {e : Expr} {te ta : TEp} {pos : Pos} {a : Addr} {cls : Value} {d : Option Addr}
def clsVal : PV → Option Value
 | .raw (.ref c) => some (.ref c)
 | .raw (.ty n) => some (.type n)
 | _ => none
theorem clsVal_rep {K : PySem.W.Frag} {O : Addr → Prop} {H : Hp} {x : PV} {cv : Value} {v : V} {u : Value} (h : Rep K O H x v) (e : clsVal x = some cv) (r : RelV v u) : u = cv := by
 unfold clsVal at e
 split at e
 ·cases e
  unfold Rep at h
  subst h
  exact r
 ·cases e
  unfold Rep at h
  subst h
  exact r
 ·cases e
def rIsX (K : PySem.W.Frag) (a : Addr) (cls : Value) (d : Option Addr) : R1p := fun ps P => ∃ fs c C cv b, ps = [.exn a d fs, c] ∧ cls = .ref C ∧ L2.ExcC K C ∧ clsVal c = some cv ∧ PySem.W.kitOne K (.ref C) cv = some b ∧ P (.bl b)
theorem zc_isX (p : PinX X a cls d) : CallR X (.builtin "isinstance") (r1 X.K (rIsX X.K a cls d)) := by
 intro pins s σ H xs us Q I r h
 obtain ⟨O, ps, P, tr, hx, h, k⟩ := h
 obtain ⟨fs, c, C, cv, b, rfl, rfl, Y, hc, hk, hp⟩ := h
 obtain ⟨v, w, rfl, r1, r2⟩ := hx.two
 cases r with
 | @cons _ u1 _ us1 q1 qr =>
 cases qr with
 | @cons _ u2 _ us2 q2 qr =>
 cases qr
 obtain rfl := clsVal_rep r2 hc q2
 unfold Rep at r1
 obtain ⟨rfl, ws, hd, _⟩ := r1
 cases (show u1 = Value.ref a from q1)
 obtain ⟨oe, od, J, _⟩ := p.inst I fun x hx => ⟨ws, (hd x hx).2⟩
 obtain ⟨cdD, hcD, _⟩ := PySem.W.any_some Y.hd
 exact PySem.W.kia_one (PySem.W.kitx_exc (by rw [hcD]; rfl) Y.hg Y.hk Y.hs Y.ha Y.hn Y.ht Y.hm) I.kIn J hk (fun z => nomatch z) fun tk => ⟨.bl b, H, I.kept (t' := tk) fun _ _ z => z, rfl, k.bl hp⟩
def rIsXT (K : PySem.W.Frag) (a : Addr) (cls : Value) (d : Option Addr) : R1p := fun ps P => ∃ fs cs C cvs b, ps = [.exn a d fs, .tup cs] ∧ cls = .ref C ∧ L2.ExcC K C ∧ cs.map clsVal = cvs.map some ∧ PySem.W.kitAny K (.ref C) cvs = some b ∧ P (.bl b)
theorem clsVals_rep {K : PySem.W.Frag} {O : Addr → Prop} {H : Hp} : ∀ {xs : List PV} {cvs : List Value} {vs : List V} {us : List Value}, Reps K O H xs vs → xs.map clsVal = cvs.map some → Vals vs us → us = cvs
 | [], cvs, vs, us, h, e, r => by
  rw [h.inv0] at r
  cases r
  cases cvs with
  | nil => rfl
  | cons => cases e
 | x :: xs, cvs, vs, us, h, e, r => by
  obtain ⟨v, ws, rfl, h1, h2⟩ := h.inv
  cases cvs with
  | nil => cases e
  | cons cv cvs =>
   rw [List.map_cons, List.map_cons] at e
   obtain ⟨e1, e2⟩ := List.cons.inj e
   cases r with
   | cons q1 qr => rw [clsVal_rep h1 e1 q1, clsVals_rep h2 e2 qr]
theorem zc_isXT (p : PinX X a cls d) : CallR X (.builtin "isinstance") (r1 X.K (rIsXT X.K a cls d)) := by
 intro pins s σ H xs us Q I r h
 obtain ⟨O, ps, P, tr, hx, h, k⟩ := h
 obtain ⟨fs, cs, C, cvs, b, rfl, rfl, Y, hc, hk, hp⟩ := h
 obtain ⟨v, w, rfl, r1, r2⟩ := hx.two
 cases r with
 | @cons _ u1 _ us1 q1 qr =>
 cases qr with
 | @cons _ u2 _ us2 q2 qr =>
 cases qr
 obtain ⟨tp, vs, rfl, ht, rr⟩ := r2.tup_
 cases (show u2 = Value.ref tp from q2)
 unfold Rep at r1
 obtain ⟨rfl, ws, hd, _⟩ := r1
 cases (show u1 = Value.ref a from q1)
 obtain ⟨oe, od, J, _⟩ := p.inst I fun x hx => ⟨ws, (hd x hx).2⟩
 obtain ⟨cdD, hcD, _⟩ := PySem.W.any_some Y.hd
 have KK := PySem.W.kitx_exc (K := X.K) (x := a) (C := C) (od := od) (ox := oe) (by rw [hcD]; rfl) Y.hg Y.hk Y.hs Y.ha Y.hn Y.ht Y.hm
 obtain ⟨its, o, n, g1, g2, g3, g4⟩ : ∃ (its : Array Value) (o : Obj) (n : Nat), s.heap.get? tp = some o ∧ o.cls = .type "tuple" ∧ o.data = .seq its n ∧ Vals vs its.toList := by
  rcases ht.sq with h | ⟨o, its, n, e1, e2, e3, e4, e5⟩
  ·rcases h with h | ⟨of, h⟩
   ·obtain ⟨_, its, rv, o, h1, h2, n, h3⟩ := (show ObjOk X.prog X.w H s.heap tp (.tup vs) from I.hok tp _ h)
    exact ⟨its.toArray, o, n, h1, h2, h3, rv⟩
   ·obtain ⟨_, its, rv, o, h1, h2, n, h3⟩ := (show ObjOk X.prog X.w H s.heap tp (.frz of (.tup vs)) from I.hok tp _ h).2
    exact ⟨its.toArray, o, n, h1, h2, h3, rv⟩
  ·exact ⟨its, o, n, I.kIn _ _ e1, e2, e3, e5⟩
 have e3 := clsVals_rep rr hc g4
 subst e3
 obtain ⟨oc, od', dt, sl⟩ := o
 simp only at g2 g3
 subst g2 g3
 exact PySem.W.kia_tup KK I.kIn J g1 hk (fun z => nomatch z) fun tk => ⟨.bl b, H, I.kept (t' := tk) fun _ _ z => z, rfl, k.bl hp⟩
structure XfN (K : PySem.W.Frag) (C : Addr) (f : Str) : Prop where
 t : XfC K C
 n : PySem.W.findIn K (.ref C) f = some none
def tXfP (K : PySem.W.Frag) (a : Addr) (cls : Value) (d : Option Addr) (f : Str) (te : TEp) : TEp := fun η P => te η fun x η1 => ∃ fs C y, x = .exn a d fs ∧ cls = .ref C ∧ XfN K C f ∧ d.isSome ∧ fs.lookup f = some y ∧ P y η1
theorem z_xf {f : Str} (p : PinX X a cls d) (he : PE X e (up X.K T te)) (hb : attributeBase e f X.env (eval e X.env) = eval e X.env := by rfl) : PE X (.Attribute e f pos) (up X.K T (tXfP X.K a cls d f te)) := by
 refine ⟨fun pins s σ H Q I h => ?_⟩
 obtain ⟨F, η, P, R, h, k⟩ := h
 refine attr_of hb (thn (he.run pins s σ H (fun v H1 => ∃ η1 fs C y, Rs X.K T F σ η1 H1 ∧ Ext σ η σ η1 H H1 ∧ Rep X.K (Oof F σ η1) H1 (.exn a d fs) v ∧ cls = .ref C ∧ XfN X.K C f ∧ d.isSome ∧ fs.lookup f = some y ∧ P y η1) I
  ⟨F, η, _, R, h, fun x η1 v H1 h1 e1 R1 r1 => by
   obtain ⟨fs, C, y, rfl, h2, h3, h4, h5, h6⟩ := h1
   exact ⟨η1, fs, C, y, R1, e1, r1, h2, h3, h4, h5, h6⟩⟩) fun u s1 hh => ?_)
 obtain ⟨v, H1, I1, rv, η1, fs, C, y, R1, e1, r1, rfl, N, hd, hl, hp⟩ := hh
 have r1' := r1
 unfold Rep at r1'
 obtain ⟨rfl, ws, hw, rf⟩ := r1'
 obtain rfl : u = Value.ref a := rv
 obtain ⟨x, rfl⟩ := Option.isSome_iff_exists.mp hd
 obtain ⟨oe, od, J, look⟩ := p.inst I1 fun z hz => ⟨ws, (hw z hz).2⟩
 obtain ⟨o, mA, rfl, l1, l2⟩ := look x ws rfl (hw x rfl).2
 obtain ⟨vy, h1, h2⟩ := (rf.look f).1 y hl
 obtain ⟨uy, hu, ru⟩ := RelO.some_of (v := vy) (o := mA f) (by rw [← h1]; exact l2 f)
 exact HandSPX.exc_get I1.kIn J N.t.ga N.t.gg N.t.exC (PySem.W.findObj_own N.t.hdC N.n rfl (by rw [l1 f, hu])) (handed_of ru) ⟨vy, H1, I1.tok _, ru, k _ _ _ _ hp e1 R1 h2⟩
end
structure XTxt (st : Stmt) (qual fld : Str) : Prop where
 ex : ∃ (m : Str) (j : Nat) (p0 p1 p2 p3 p4 p5 p6 p7 p8 p9 : Pos) (ar : Arg),
  defBody st = [.Expr (.Call (.Attribute (.Call (.Name "super" p0) [] [] p1) "__init__" p2) [.Constant (.str m) j p3] [] p4) p5, .Assign [.Attribute (.Name "self" p6) fld p7] (.Name fld p8) p9] ∧
  ((defArgs st).posonlyargs ++ (defArgs st).args).head? = some ar ∧ ar.arg = "self" ∧
  (∀ (L fI cda cc : Addr), interactive (PySem.W.ksEnv qual (defScope st) L fI (.ref cda) cc) = false) ∧
  (∀ (L fI cda cc : Addr), ∃ pl : Sem Bool, eval (.Call (.Attribute (.Call (.Name "super" p0) [] [] p1) "__init__" p2) [.Constant (.str m) j p3] [] p4) (PySem.W.ksEnv qual (defScope st) L fI (.ref cda) cc) = (do
   let ov ← attributeBase (.Call (.Name "super" p0) [] [] p1) "__init__" (PySem.W.ksEnv qual (defScope st) L fI (.ref cda) cc) (eval (.Call (.Name "super" p0) [] [] p1) (PySem.W.ksEnv qual (defScope st) L fI (.ref cda) cc))
   standAt p2.atName
   let (f, first) ← holding [ov] (getMethod ov "__init__" pl)
   callWith p4 f first (backTo p4 (starEach [.Constant (.str m) j p3] (PySem.W.ksEnv qual (defScope st) L fI (.ref cda) cc))) [])) ∧
  (∀ (L fI cda cc : Addr), swapsWith (.Call (.Attribute (.Call (.Name "super" p0) [] [] p1) "__init__" p2) [.Constant (.str m) j p3] [] p4) none p5.line (PySem.W.ksEnv qual (defScope st) L fI (.ref cda) cc) = pure false) ∧
  (∀ (L fI cda cc : Addr), swapsWith (.Name fld p8) (some (.Attribute (.Name "self" p6) fld p7)) p9.line (PySem.W.ksEnv qual (defScope st) L fI (.ref cda) cc) = pure false)
 n1 : (defScope st).names.lookup ("super" : Str) = some .globalImplicit
 n2 : (defScope st).names.lookup ("__class__" : Str) = some .free
 n3 : (defScope st).names.lookup ("self" : Str) = some .local
 n4 : (defScope st).names.lookup fld = some .local
 n5 : (defScope st).kind = .function
 n6 : (defScope st).isCoroutine = false
 n7 : (defScope st).isGenerator = false
 n8 : ∀ x ∈ (defScope st).names, x.2 ≠ .cell
 b : ∀ (kV doc pm : Value) (an : Option Addr) (cdv ct : Value) (cc : Addr) (e u : Value), bindArgs (PySem.W.ksFn "__init__" qual (defArgs st) (defBody st) (defScope st) .none kV doc pm an cdv ct cc) ⟨[e, u], []⟩ = pure [(("self" : Str), e), (fld, u)]
def xclB (K : PySem.W.Frag) (C fI : Addr) (qual fld : Str) (B i newId : String) (bmB : List Value) (cda : Addr) : Bool :=
 decide (PySem.W.typeIn K (.ref fI) = some (.type "function")) && (decide (PySem.W.subIn K (.ref C) (.type "BaseException") = some true) && (decide (PySem.W.typeIn K (.ref C) = some (.type "type")) && (PySem.W.keepIn K (.ref C) &&
 (PySem.W.codeIn K (.ref cda) qual && ((PySem.W.clsIn K C).isSome && (decide (PySem.W.mroIn K C (.ref C) = some true) && (decide (PySem.W.subIn K (.ref C) (.type B) = some true) && (decide (PySem.W.nsIn K cStatics "thirdparty.any" = some none) &&
 (decide (PySem.W.ks_superIn K C C "__init__" = some (some (.builtin i))) && (PySem.W.excInitIn K C bmB newId && (PySem.W.excOver K C bmB && (decide (PySem.W.takerIn K C fld = some none) && (PySem.W.hasDictIn K C &&
 (decide (PySem.W.findIn K (.ref C) "__setattr__" = some (some (.builtin "object.__setattr__"))) && (decide (PySem.W.findIn K (.ref C) "__getattribute__" = some (some (.builtin "BaseException.__getattribute__"))) && (decide (PySem.W.findIn K (.ref C) "__getattr__" = some none) &&
 (decide (PySem.W.findIn K (.ref C) fld = some none) && (decide (PySem.W.findIn K (.ref C) "__class__" = some (some (.builtin "object.__class__"))) && (decide (PySem.W.specialIn K (.builtin "object.__class__") "__get__" = some (some (.builtin "getset_descriptor.__get__"))) &&
 (decide (PySem.W.takesIn K (.builtin "object.__class__") = some true) && decide (PySem.W.mroIn K C (.type "object") = some true)))))))))))))))))))))
theorem baseV : ZX.BaseX "ValueError" "ValueError.__init__" "ValueError.__new__" [.type "ValueError", .type "Exception", .type "BaseException", .type "object"] := ⟨F.excBase_ValueError, PySem.W.kxs_ValueError, F.store_ValueError⟩
structure XAll (P : Program) (K : PySem.W.Frag) (mg : Str → Option Value) (x : Str) (C : Addr) (fld : Str) : Prop where
 ok : XOk P K mg x C fld
 is : L2.ExcC K C
 xf : XfN K C fld
theorem xAll_of {P : Program} {K : PySem.W.Frag} {mg : Str → Option Value} {x fld qual : Str} {st : Stmt} {C fI cc cda : Addr} {B i newId : String} {bmB : List Value} {oc kV doc pm ct cl ccl : Value} {od an cld cdd : Option Addr} {osl csl ccs : Array (Option Value)} {vs : Array Value} {file : Str} {tf : Tok}
  (BX : ZX.BaseX B i newId bmB) (T : XTxt st qual fld) (hg : mg x = some (.ref C)) (iC : PySem.W.findIn K (.ref C) "__init__" = some (some (.ref fI)))
  (lk : K.lookup fI = some ⟨oc, od, .func (PySem.W.ksFn "__init__" qual (defArgs st) (defBody st) (defScope st) .none kV doc pm an (.ref cda) ct cc), osl⟩)
  (cell : K.lookup cc = some ⟨cl, cld, .cell (some (.ref C)), csl⟩) (code : K.lookup cda = some ⟨ccl, cdd, .fields vs, ccs⟩) (hvs : vs[2]? = some (.str file tf)) (hfile : ((P.main.file : Str) == file) = true) (htop : (P.main.scope.names.lookup ("super" : Str)).isSome = false)
  (hB : xclB K C fI qual fld B i newId bmB cda = true) (hn1 : (fld == ("__debug__" : Str)) = false := by decide) (hn2 : fld ≠ "self" := by decide) : XAll P K mg x C fld := by
 unfold xclB at hB
 simp only [Bool.and_eq_true, decide_eq_true_eq] at hB
 obtain ⟨h1, h2, h3, h4, h5, h6, h7, h8, h9, h10, h11, h12, h13, h14, h15, h16, h17, h18, h19, h20, h21, h22⟩ := hB
 obtain ⟨m, j, p0, p1, p2, p3, p4, p5, p6, p7, p8, p9, ar, hb, ha, har, e1, e2, e3, e4⟩ := T.ex
 refine ⟨⟨⟨fI, cc, cda, B, i, newId, bmB, _, BX, ⟨⟨oc, od, osl, qual, defArgs st, m, j, p0, p1, p2, p3, p4, p5, p6, p7, p8, p9, defScope st, .none, kV, doc, pm, ct, an, ar, ?_, lk, h5, ha, har, T.n1, T.n2, T.n3, T.n4, T.n5, T.n6, T.n7, T.n8, fun L => e1 L fI cda cc, fun L => e2 L fI cda cc, fun L => e3 L fI cda cc, fun L => e4 L fI cda cc⟩,
  fun s e u => .of_eq (T.b _ _ _ _ _ _ _ e u), ⟨cl, cld, csl, cell⟩, ⟨ccl, cdd, vs, ccs, file, tf, code, hvs, hfile⟩, htop, Option.isSome_iff_exists.mp h6, h7, h8, h9, h10, h11, h15, h12, h13, h14, hn1, hn2⟩, ⟨iC, h1, h2, h3, h4⟩⟩, hg⟩,
  ⟨h16, h17, h2, h14, h19, h20, h21, h22⟩, ⟨⟨h16, h17, h2, h14⟩, h18⟩⟩
 rw [hb]
end Z
namespace L2T
open PySem PySem.Spec PyProof.Rows L2
open L2N (NamesL TupM flying_keep evalNames wTup wTupO)
abbrev St := L2.St
section
variable {X : Cx} {n : Str} {cs : List Value} {elts : List Expr} {ek : Nat} {i : Nat} {body suite : List Stmt} {b₀ : Stmt} {np pos pos' : Pos} {tb : WX → TS} {ts : Addr → Value → Option Addr → TS} {Wout : WX}
theorem ps_try_tup_as (hs : X.stack = X.env :: X.outer) (hf : X.env.frame = some X.env.locals) (hN : X.N.Nodup) (hi : X.N[i]? = some n) (hln : X.env.kindOf n = some .local) (hc : NamesL X elts cs) (hm : TupM X.prog X.w X.K cs) (hl : cs.length ≤ 1000) (tk : L2.Takes X Wout)
  (hb : ∀ (W : WX) (pn : List (Addr × Obj)) (xe : Value → Shared → Prop), L2.Takes (X.tr pn xe) W → PassesOwn (model X.prog X.w) X.A X.env xe → PSs (X.tr pn xe) body (tb W))
  (hsu : ∀ (a : Addr) (oe : Obj) (cls : Value) (d : Option Addr) (pn : List (Addr × Obj)), L2.Zc cls d oe → (∃ vs, oe.data = .fields vs) → PSs (X.suite a ((a, oe) :: pn)) (b₀ :: suite) (ts a cls d)) :
  PS X (.Try body [.ExceptHandler (some (.Tuple elts ek np)) (some n) (b₀ :: suite) pos'] [] [] pos) (fun D σ H => tb (wTup X.K cs i ts Wout D) D σ H) := by
 refine ⟨fun pins s σ H D I h => ?_⟩
 have ok := I.ok
 have hfr : X.A.frames = some (X.env :: X.outer) := by rw [ok.frames, hs]
 have hloc : Loc X.env.scope n := .inl hln
 refine wpAny_Try_except ?_
 refine wpAny_mono ((hb (wTup X.K cs i ts Wout D) (X.pn ++ pins) (fun e s₁ => wpAny (model X.prog X.w) X.A (noteFrame e X.env) (fun _ s₂ => wpAny (model X.prog X.w) X.A (setFlight e none) (fun _ s₃ =>
  wpAny (model X.prog X.w) X.A (handleBy e X.env [.ExceptHandler (some (.Tuple elts ek np)) (some n) (b₀ :: suite) pos']) (SP X pins D) X.xe s₃) X.xe s₂) X.xe s₁) (fun u s' xx => ?_) PassesOwn.looking).run [] s σ H D (I.toTry _) h) (fun f s1 hsp => ?_) (fun e s1 he => he)
 ·-- the catch
  obtain ⟨a, B, sI, pins', σ', H', cls, d, rfl, J', nb, up, sky, na, os, ag, b, hb1, hyes, hno⟩ := xx
  have J : Inv X pins σ' H' sI := J'.ofTry ok
  have sky' : Sky B (X.env :: X.outer) a (L2.Zc cls d) X.env.locals s'.heap := by rw [← hs]; exact sky
  show wpAny (model X.prog X.w) X.A (noteFrame (.ref a) X.env) _ _ _
  refine L2.Sky.land L2.Zc.steady hfr hf sky' fun h3' fl3' up3' => ?_
  have J3' : Inv X pins σ' H' { s' with heap := h3' } := J.landed nb fl3'.1 (up.trans up3') os ag
  obtain ⟨oe3, vs3, he3', hz3, hd3⟩ := fl3'.there
  have notFr : ∀ {h : Heap} {o : Obj} {vs : Array Value}, h.FunFrames B (X.env :: X.outer) → h.get? a = some o → o.data = .fields vs → a ∉ frs (X.env :: X.outer) := fun {h o vs} ff e dd hm => by
   obtain ⟨_, o', e', hnf⟩ := ff.mem hm
   rw [e] at e'; cases e'
   exact hnf _ dd
  have nfr := notFr fl3'.2.2.1 he3' hd3
  have nL : a ≠ X.env.locals := fun z => nfr (List.mem_filterMap.mpr ⟨X.env, List.mem_cons_self, by rw [hf, z]⟩)
  have nF : a ∉ X.fs := fun hm => by
   obtain ⟨e, he, q⟩ := List.mem_filterMap.mp hm
   exact nfr (List.mem_filterMap.mpr ⟨e, List.mem_cons_of_mem _ he, q⟩)
  have S3' := J3'.suite he3' hd3 na nL nF
  refine wpAny_handleBy_cons (codeAny_handlers_test ?_) (by intro q; cases q)
  refine Tuple_ (evalNames S3' hc ?_)
  refine wpAny_newObj_type ?_ (by show cs.toArray.size ≤ sizeLine; rw [List.size_toArray, sizeLine_eq]; omega)
  let h3 : Heap := h3'.push { cls := .type "tuple", dict := none, data := .seq cs.toArray }
  have kp : ∀ b o, h3'.get? b = some o → h3.get? b = some o := fun b o e => Heap.get?_push_of_some _ e
  have fl3 : HandSPX.FlyingZ B (X.env :: X.outer) a (L2.Zc cls d) h3 := flying_keep kp fl3'
  have up3 : s'.heap.UpToSlots h3 := up3'.trans (Heap.UpToSlots.of_keeps kp)
  have J3 : Inv X pins σ' H' { s' with heap := h3 } := J.landed nb fl3.1 (up.trans up3) os ag
  have he3 := kp _ _ he3'
  have LT : PySem.W.Looks (model X.prog X.w) h3 (typeOf (.ref a)) cls := fun A Q E s k q => wpAny_typeOf_ref (k _ _ he3) (by rw [hz3.1]; exact q)
  have LM := hm J3.kIn LT (Heap.get?_push_size _ rfl) hb1
  show wpAny _ _ _ _ _ { s' with heap := h3 }
  refine LM.here ?_
  cases b with
  | true =>
   refine codeAny_handlers_suite_as ?_
   refine HandSPX.lands_againZ fl3 fun h4 fl4 up4 => ?_
   have J4 : Inv X pins σ' H' { s' with heap := h4 } := J.landed nb fl4.1 ((up.trans up3).trans up4) os ag
   obtain ⟨oe4, vs4, he4, hz4, hd4⟩ := fl4.there
   have S4 := J4.suite he4 hd4 na nL nF
   refine store_ok (X := X.suite a ((a, oe4) :: (X.pn ++ pins))) (v := .ref a) S4 hN hi hloc rfl (fun s5 S5 => ?_) (.inr hln)
   refine wpAny_mono ((hsu a oe4 cls d (X.pn ++ pins) hz4 ⟨_, hd4⟩).run [] s5 _ H' _ S5 (hyes rfl a na)) (fun f s6 hsp => ?_) (fun _ _ z => False.elim z)
   have end_ : ∀ {σ6 : St} {H6 : Hp} {Q : Shared → Prop}, Inv (X.suite a ((a, oe4) :: (X.pn ++ pins))) [] σ6 H6 s6 → (∀ s7, Inv X pins (σ6.set i none) H6 s7 → Q s7) →
     wpAny (model X.prog X.w) X.A (do bindName X.env n .none; unbindBehindTheSuite X.env n pos') (fun _ s7 => Q s7) X.xe s6 := fun {σ6 H6 Q} S6 hq => gone_ok (S6.unsuite ok) hN hi hln hq
   cases f with
   | next =>
    obtain ⟨σ6, H6, S6, q6⟩ := hsp
    exact end_ S6 fun s7 J7 => ⟨_, _, J7, q6⟩
   | brk =>
    obtain ⟨σ6, H6, S6, q6⟩ := hsp
    exact end_ S6 fun s7 J7 => ⟨_, _, J7, q6⟩
   | cont =>
    obtain ⟨σ6, H6, S6, q6⟩ := hsp
    exact end_ S6 fun s7 J7 => ⟨_, _, J7, q6⟩
   | ret u =>
    obtain ⟨v6, σ6, H6, S6, r6, q6⟩ := hsp
    exact end_ S6 fun s7 J7 => ⟨_, _, _, J7, r6, q6⟩
  | false =>
   show wpAny _ X.A (handleBy (.ref a) X.env []) _ _ _
   refine wpAny_handleBy_nil ?_
   obtain ⟨k1, k2, k3, oe, vs, T, oT, ts', he, hz, hd, h1, hr⟩ := id fl3
   unfold PySem.passOn
   refine wpAny_bind (wpAny_field he hd h1 ?_)
   rw [if_neg (show ¬ ((Value.ref T == Value.none) = true) from by simp)]
   have fin : wpAny (model X.prog X.w) X.A (setFlight (.ref a) X.env.frame) (fun _ s4 => wpAny (model X.prog X.w) X.A (throw (.ref a) : Sem Flow) (SP X pins D) X.xe s4) X.xe { s' with heap := h3 } := by
    rw [hf]
    refine HandSPX.setFlight_upZ fl3 fun h4 hh4 up4 => wpAny_throw (tk _ _ ?_)
    exact ⟨a, B, sI, pins, σ', H', cls, d, rfl, J, nb, (up.trans up3).trans up4, .inr (.inr (by rw [hs]; exact hh4)), na, os, ag, hno rfl⟩
   first
    | exact wpAny_bind (wpAny_pure (wpAny_bind fin))
    | exact wpAny_bind fin
 ·cases f with
  | next =>
   obtain ⟨σ', H', J', q⟩ := hsp
   exact wpAny_execs_nil ⟨σ', H', J'.ofTry ok, q⟩
  | brk =>
   obtain ⟨σ', H', J', q⟩ := hsp
   exact ⟨σ', H', J'.ofTry ok, q⟩
  | cont =>
   obtain ⟨σ', H', J', q⟩ := hsp
   exact ⟨σ', H', J'.ofTry ok, q⟩
  | ret u =>
   obtain ⟨v, σ', H', J', r, q⟩ := hsp
   exact ⟨v, σ', H', J'.ofTry ok, r, q⟩
end
open LamX
section
variable {X : Cx} {pins : List (Addr × Obj)} {σ : L2.St} {H HZ : Hp} {s s1 : Shared}
theorem lam_takes {A : Around} {outer : List Env} {E : XK} {scope : Scope} {f c' : Addr} : L2.Takes (lamCx X A outer s H E scope f c') (fun cls d _ H' => E cls d H') := L2.takes_of rfl rfl rfl rfl
theorem act {CXg : CXT} {Eg : XK} {Ng : List Str} {qg : Str} {sg : Scope} {g f c' : Addr} {cdg pm ctv : Value} {params : Arguments} {body : Expr} {scope : Scope} {k i : Nat} {a : Str} {pn : List (Addr × Obj)} {xe : Value → Shared → Prop} {W : WX} {E : XK} {tb : TE} {p1 p2 : Pos}
  (I : Inv X pins σ H s) (L : LamS X.env.scope scope) (hf : s.heap.get? f = some (PySem.W.kla_obj "<lambda>" (X.env.qual ++ "<lambda>") params body scope (cloFrom X.env.cells scope.names []) pm c' ctv)) (hfn : H f = none) (hfr : f ∉ frs X.stack)
  (hbind : bindArgs (PySem.W.kla_fn "<lambda>" (X.env.qual ++ "<lambda>") params body scope (cloFrom X.env.cells scope.names []) pm (.ref c') ctv) ⟨[], []⟩ = pure [])
  (tk : L2.Takes ((cxOf CXg X.prog X.w X.K X.mg X.base Ng qg sg g cdg X.A X.stack s H Eg).tr pn xe) W) (hr : Room (k + 1) (X.A.deeper (envOfC qg sg s.heap.objs.size g cdg)))
  (hbody : ∀ (A : Around) (outer : List Env) (s : Shared) (H : Hp), Room k (A.deeper (lamEnv X scope s.heap.objs.size f c')) → PE (lamCx X A outer s H E scope f c') body tb)
  (hN : Ng[i]? = some a) (hv : Vis sg a) (hd : (a == ("__debug__" : Str)) = false := by decide) (hcd : (a == ("__classdict__" : Str)) = false := by decide) :
  PE ((cxOf CXg X.prog X.w X.K X.mg X.base Ng qg sg g cdg X.A X.stack s H Eg).tr pn xe) (.Call (.Name a p1) [] [] p2)
   (fun σZ HZ Q => (∀ cls d H', E cls d H' → W cls d σZ H') ∧ σZ[i]? = some (some (.ref f)) ∧ HZ c' = some (CodeO c' (X.env.qual ++ "<lambda>")) ∧ tb σ HZ Q) := by
 constructor
 intro pinsZ sZ σZ HZ Q IZ h
 obtain ⟨hW, hs, hc, ht⟩ := h
 refine wpAny_Call_Name_kw (thn ((pe_var (pos := p1) (i := i) hN hv hd hcd).run pinsZ sZ σZ HZ (fun v H1 => v = .ref f ∧ H1 = HZ) IZ ⟨.ref f, hs, rfl, rfl⟩) fun u s1 hq1 => ?_)
 obtain ⟨v, H1, I1, r1, ev, eH⟩ := hq1
 subst ev eH
 obtain rfl : u = Value.ref f := r1
 have gf := I1.base.keep f _ hf hfn hfr (fun z => nomatch (show f ∈ ([] : List Addr) from z))
 refine PySem.W.callWith_F0 ⟨_, _, _, _, gf⟩ ?_
 obtain ⟨⟨oc, vs, t, g1, g2, g3⟩, _, _⟩ := I1.hok c' _ hc
 have rc : codeAny (model X.prog X.w) (X.A.deeper (envOfC qg sg s.heap.objs.size g cdg)) (.call (.ref f) ⟨[], []⟩) (CR (L2.CX X.prog X.w) (envOfC qg sg s.heap.objs.size g cdg :: X.stack) X.prog X.w H1 s1 Q E) s1 := by
  refine PySem.W.kla_callFunE hr.depth gf rfl L.co L.gen rfl ⟨c', oc, vs, t, rfl, g1, g2, g3⟩ ?_
  rw [hbind]
  refine wpAny_pure (wpAny_newFunctionEnv (fun y hy => (L.own y hy).2) (fun y hy => absurd hy (by simp)) (fun h₁ hns hsb => ⟨I1.nolimit.fresh _ hsb, ?_⟩) L.kind)
  have J := lam_start2 (tk := s1.toks + ([] : List (Str × Value)).length) (E := E) (f := f) (c' := c') I L I1.env0 hr.hd I1.base hns (fun b o e => hsb.extBut b o (Nat.ne_of_lt (Heap.lt_size e)) (Heap.get?_push_of_some _ e))
  refine PySem.W.kla_codeExpr (wpAny_mono ((hbody _ _ s1 H1 (hr.deeper _)).run [] _ _ H1 Q J ht) (fun v s' hq => ?_) fun e s' hq => hq)
  obtain ⟨w', H', J', rv, q⟩ := hq
  exact ⟨w', H', J'.os, J'.bare, J'.base, J'.hok, rv, q⟩
 refine wpAny_call (codeAny_mono rc fun r s' hq => ?_)
 cases r with
 | error e => exact tk e s' (L2.XE.of_call I1 hW hq)
 | ok fl =>
  cases fl with
  | ret u => exact I1.after hq
  | next => exact False.elim hq
  | brk => exact False.elim hq
  | cont => exact False.elim hq
end
def Gives (X : Cx) (Ng : List Str) (x : Str) (sg : Scope) (g : Addr) (cdg : Value) (bg : List Stmt) (a q : Str) (k : Nat) (TT : (XK → Hp → VK → Prop) → Hp → VK → Prop) : Prop :=
 ∀ (f c' : Addr) (s : Shared) (H : Hp) (Q : VK) (tl : XK → Hp → VK → Prop), Room (k + 1) (X.A.deeper (envOfC x sg s.heap.objs.size g cdg)) →
  (∀ (W : WX) (pn : List (Addr × Obj)) (xe : Value → Shared → Prop) (E : XK) (p1 p2 : Pos), L2.Takes ((cxOf C8.CX0 X.prog X.w X.K X.mg X.base Ng x sg g cdg X.A X.stack s H C8.E0).tr pn xe) W →
   PE ((cxOf C8.CX0 X.prog X.w X.K X.mg X.base Ng x sg g cdg X.A X.stack s H C8.E0).tr pn xe) (.Call (.Name a p1) [] [] p2) (fun σZ HZ Q => (∀ cls d H', E cls d H' → W cls d σZ H') ∧ σZ[0]? = some (some (.ref f)) ∧ HZ c' = some (CodeO c' q) ∧ tl E HZ Q)) →
  H c' = some (CodeO c' q) → TT tl H Q →
  ∃ t, PSs (cxOf C8.CX0 X.prog X.w X.K X.mg X.base Ng x sg g cdg X.A X.stack s H C8.E0).nox bg t ∧ t { nx := fun _ H' => Q .non H', rt := Q } (L2.start Ng [.ref f]) H
section
variable {X : Cx}
theorem lamcall {T : List (Addr × Str)} {TT : (XK → Hp → VK → Prop) → Hp → VK → Prop} {x a : Str} {g c P : Addr} {k : Nat} {pg : Arguments} {bg : List Stmt} {sg : Scope} {dV kV doc pm cdv ct oc : Value} {an od : Option Addr} {osl : Array (Option Value)} {Ng : List Str}
  {params : Arguments} {body : Expr} {scope : Scope} {t : XK → TE} {p lpos pos : Pos} (hg : Gl X x) (hm : X.mg x = some (.ref g)) (hk : PySem.W.keepIn X.K (.ref g) = true)
  (lk : X.K.lookup g = some ⟨oc, od, .func (PySem.W.fnOf x x pg bg sg dV kV doc pm an cdv ct), osl⟩) (hcg : PySem.W.codeIn X.K cdv x = true) (hb : L2.Binds X.K (PySem.W.fnOf x x pg bg sg dV kV doc pm an cdv ct) [a] []) (Sg : FnScope Ng [a] sg) (hNg : Ng[0]? = some a) (hva : Vis sg a)
  (hG : Gives X Ng x sg g cdv bg a (X.env.qual ++ "<lambda>") k TT)
  (TB : TabB X.base X.mg c P) (hcode : X.env.code = .ref c) (hmT : (P, X.env.qual ++ "<lambda>") ∈ T) (hu : ∀ p ∈ T, p.1 = P → p.2 = X.env.qual ++ "<lambda>") (hr : Room (k + 2) X.A) (L : LamS X.env.scope scope) (hdef : defaultsOf params X.env = ([], []))
  (hbind : ∀ (q : Str) (cl : List (Str × Addr)) (pm cv ctv : Value), bindArgs (PySem.W.kla_fn "<lambda>" q params body scope cl pm cv ctv) ⟨[], []⟩ = pure [])
  (hbody : ∀ (A : Around) (outer : List Env) (s : Shared) (H : Hp) (E : XK) (f c' : Addr), Room k (A.deeper (lamEnv X scope s.heap.objs.size f c')) → PE (lamCx X A outer s H E scope f c') body (t E))
  (hdb : (x == ("__debug__" : Str)) = false := by decide) (hd : (a == ("__debug__" : Str)) = false := by decide) (hcd : (a == ("__classdict__" : Str)) = false := by decide) :
  PE X (.Call (.Name x p) [.Lambda params body scope lpos] [] pos) (tLam T TT t) := by
 constructor
 intro pins s σ H Q I h
 obtain ⟨hT, h⟩ := h
 refine wpAny_Call_Name_kw (ld_glob I hg hm ?_ hdb)
 refine PySem.W.callWith_K (h₀ := X.base) I.ok.mod.kin hk ?_ (by rfl) (by rfl)
 refine Calls.spliced_cons (lam_make2 I TB hcode hmT hu hT hdef (L.has I.ok) fun f c' pm' ctv H1 s' I1 eN T1 hf hfn hfr hco => ?_)
 refine Calls.spliced_nil ⟨I1.kIn, ?_⟩
 have rc : codeAny (model X.prog X.w) X.A (.call (.ref g) ⟨[.ref f], []⟩) (CR C8.CX0 X.stack X.prog X.w H1 s' Q C8.E0) s' := by
  refine run_ofS (N := Ng) (ps := [a]) (us := [.ref f]) (vs := [.ref f]) lk hcg Sg hr I1.env0 (hb s' [.ref f] I1.kIn rfl) (.cons rfl .nil) rfl fun hr' => ?_
  obtain ⟨t', ht', hq'⟩ := hG f c' s' H1 Q (fun E H' Q' => t E σ H' Q') hr' (fun W pn xe E p1 p2 tk => act (i := 0) I1 L hf hfn hfr (hbind _ _ _ _ _) tk hr' (fun A outer s H hr2 => hbody A outer s H E f c' hr2) hNg hva hd hcd) hco (h H1 eN T1)
  exact ⟨t', ht'.nox, hq'⟩
 refine wpAny_call (codeAny_mono rc fun r s2 hq => ?_)
 cases r with
 | error e => exact (show False from hq).elim
 | ok fl =>
  cases fl with
  | ret u => exact I1.after hq
  | next => exact False.elim hq
  | brk => exact False.elim hq
  | cont => exact False.elim hq
end
theorem fn_weak {P : Program} {w : World} {K : PySem.W.Frag} {mg : Str → Option Value} {base : Heap} {k : Nat} {f : Addr} {fd : FuncData} {ps : List Str} {sp : Sp} (F : FnOk P w K mg base (L2N.CX P w) k f fd ps sp) : FnOk P w K mg base (L2.CX P w) k f fd ps sp := by
 refine ⟨F.len, fun A outer s H args us vs Q E hr e0 hb r hsp => codeAny_mono (F.run A outer s H args us vs Q E hr e0 hb r hsp) fun res s' hq => ?_⟩
 cases res with
 | error e =>
  obtain ⟨a, B, H', cls, d, rfl, fl, h1, h2, h3, h4, h5, h6⟩ := (show L2N.CX P w outer H s E e s' from hq)
  obtain ⟨x1, x2, x3, oe, vs, T, oT, ts, e1, e2, e3, e4, e5, e6, e7, e8⟩ := fl
  exact ⟨a, B, H', cls, d, rfl, ⟨x1, x2, x3, oe, vs, T, oT, ts, e1, e2.zc, e3, e4, e5, e6, e7, e8⟩, h1, h2, h3, h4, h5, h6⟩
 | ok fl => cases fl <;> exact hq
end L2T
namespace Z
open PySem PySem.Spec L2
open PyProof.Rows hiding St
abbrev SpZ := Addr → Value → Option Addr → SpP
structure FnZ (P : Program) (w : World) (K : PySem.W.Frag) (mg : Str → Option Value) (base : Heap) (k : Nat) (f : Addr) (fd : FuncData) (ps : List Str) (sp : Addr → Value → Option Addr → Sp) : Prop where
 len : ∀ a cls d vs H Q E, sp a cls d vs H Q E → vs.length = ps.length
 run : ∀ (A : Around) (outer : List Env) (s : Shared) (H : Hp) (args : Args) (us : List Value) (vs : List V) (Q : VK) (p : Addr × Obj) (cls : Value) (d : Option Addr), L2H.RoomH k A → L2.Zc cls d p.2 → (∃ xs, p.2.data = .fields xs) → L2H.PinOk outer H s p → Env0 P w K mg base A outer s H →
  BindsTo s fd args (ps.zip us) → Vals vs us → sp p.1 cls d vs H Q E0 → codeAny (model P w) A (.call (.ref f) args) (CR CX0 outer P w H s Q E0) s
section
variable {P : Program} {w : World} {K : PySem.W.Frag} {mg : Str → Option Value} {base : Heap} {T : List (Addr × Str)}
abbrev cxZ (P : Program) (w : World) (K : PySem.W.Frag) (mg : Str → Option Value) (base : Heap) (N : List Str) (qual : Str) (sc : Scope) (f : Addr) (cdv : Value) (A : Around) (outer : List Env) (s : Shared) (H : Hp) (E : XK) (p : Addr × Obj) : Cx :=
 (L2H.cxH CX0 P w K mg base N qual sc f cdv A outer s H E p).nox
theorem okPZ {x qual : Str} {st : Stmt} {f : Addr} {fd : FuncData} {N ps : List Str} {k : Nat} {sp : SpZ} (Fn : Fun K x qual st f fd) (S : FnScope N ps (defScope st)) (hl : ∀ a cls d args P, sp a cls d args P → args.length = ps.length) (hn : ps.length ≤ N.length)
  (hbody : ∀ (cdv : Value) (A : Around) (outer : List Env) (s : Shared) (H : Hp) (E : XK) (p : Addr × Obj) (cls : Value) (d : Option Addr), PinX (cxZ P w K mg base N qual (defScope st) f cdv A outer s H E p) p.1 cls d → L2H.RoomH k (A.deeper (envOfC qual (defScope st) s.heap.objs.size f cdv)) →
   ∃ ts, PSs (cxZ P w K mg base N qual (defScope st) f cdv A outer s H E p) (defBody st) (upS K T ts) ∧ ∀ args P, sp p.1 cls d args P → ts { nx := fun _ => P .non, rt := fun x _ => P x } (startP N.length args)) :
  FnZ P w K mg base (k + 1) f fd ps (fun a cls d => upSp K T (sp a cls d)) := by
 obtain ⟨oc, od, kV, doc, pm, an, cdv, ct, osl, rfl, lk, hcd⟩ := Fn.ex
 refine ⟨fun a cls d => len_sp (hl a cls d), fun A outer s H args us vs Q p cls d hr hz hf hpin e0 hb r hsp => ?_⟩
 have hlen := len_sp (hl p.1 cls d) _ _ _ _ hsp
 have KX : K.In s.heap := e0.mod.kin.keeps fun b o e => (e0.bs b o e).1
 have lim : s.heap.NoLimit := e0.mod.nolimit.keeps fun b o e => (e0.bs b o e).1
 have hkind : ∀ y ∈ ps.zip us, (defScope st).names.lookup y.1 = some .local ∨ ((defScope st).names.lookup y.1 = some .cell ∧ ((cellsFrom (s.heap.objs.size + 1) (defScope st).names []).lookup y.1).isSome = true) := fun ⟨n, v⟩ hy =>
  (S.par n (List.of_mem_zip hy).1).imp id fun q => ⟨q, PySem.W.cellsFrom_some _ _ _ (.inl q)⟩
 refine codeAny_call_function hr.depth (KX _ _ lk) rfl S.co S.gen rfl (PySem.W.codeRec_of KX hcd) (hb _ _ _ _ ?_)
 refine wpAny_newFunctionEnv_cells S.kind hkind fun env he s1 x => ?_
 subst he
 refine ⟨lim.keeps x.toInCall.keep, codeAny_func ?_⟩
 obtain ⟨ts, ht, rd⟩ := hbody cdv A outer s H E0 p cls d ⟨p.2, List.mem_singleton.mpr rfl, hz, hf⟩ (hr.deeper _)
 have hq := body_sp hsp (fun args P hs => by rw [hl _ _ _ _ _ hs]; exact hn) (N := N) rd
 have I := L2H.inv_startH (CX := CX0) (E := E0) S hpin e0 hlen r x
 refine wpAny_mono (ht.nox.run [] s1 (start N vs) H _ I hq) (fun fl s' hs => ?_) fun e s' hs => hs
 have fin : ∀ {σ' : St} {H' : Hp} {v : V} {u : Value}, Inv (L2H.cxH CX0 P w K mg base N qual (defScope st) f cdv A outer s H E0 p) [] σ' H' s' → RelV v u → Q v H' → CE outer P w H s Q u s' :=
  fun {σ' H' v u} J rv q => ⟨v, H', J.os, J.bare, J.base, J.hok, rv, q⟩
 cases fl with
 | ret u =>
  obtain ⟨v, σ', H', J, rv, q⟩ := hs
  exact fin J rv q
 | next =>
  obtain ⟨σ', H', J, q⟩ := hs
  exact fin (v := V.non) (u := Value.none) J rfl q
 | brk => exact False.elim hs.choose_spec.choose_spec.2
 | cont => exact False.elim hs.choose_spec.choose_spec.2
end
section
variable {X : Cx} {T : List (Addr × Str)} {e : Expr} {es : List Expr} {t : TAp} {pos p : Pos} {k : Nat} {f : Addr} {fd : FuncData} {ps : List Str} {sz : SpZ} {x : Str} {a : Addr} {cls : Value} {d : Option Addr}
theorem pe_callZ {S : Addr → Value → Option Addr → Sp} {ta : TA} (F : FnZ X.prog X.w X.K X.mg X.base k f fd ps S) (hr : L2H.RoomH k X.A) (hz : PinX X a cls d) (hg : Gl X x) (hm : X.mg x = some (.ref f)) (hk : PySem.W.keepIn X.K (.ref f) = true) (hb : Binds X.K fd ps [])
  (ha : PA X (e :: es) ta) (hdb : (x == ("__debug__" : Str)) = false := by decide) (he : starEach (e :: es) X.env = (false, eval e X.env) :: starEach es X.env := by rfl) (hpl : (backTo pos (starEach es X.env)).any (·.1) = false := by rfl) :
  PE X (.Call (.Name x p) (e :: es) [] pos) (tCall (S a cls d) [] E0 ta) := by
 constructor
 intro pins s σ H Q I h
 refine wpAny_Call_Name_kw (ld_glob I hg hm ?_ hdb)
 refine PySem.W.callWith_K (h₀ := X.base) I.ok.mod.kin hk (thn (ha.run pos pins s σ H _ I h) fun us s1 hq => ?_) he hpl
 obtain ⟨vs, H1, I1, r, q⟩ := hq
 refine ⟨I1.kIn, ?_⟩
 rw [List.append_nil] at q
 obtain ⟨oe, hp, hzc, hf⟩ := hz
 have hl : us.length = ps.length := by rw [← r.length]; exact F.len _ _ _ _ _ _ _ q
 have b := hb s1 us I1.kIn (by rw [List.append_nil]; exact hl)
 rw [List.append_nil] at b
 have P1 := I1.pin (a, oe) (List.mem_append_left _ hp)
 have hpin : L2H.PinOk X.stack H1 s1 (a, oe) := ⟨P1.1, P1.2.1, fun hm => (List.mem_cons.mp (I1.stkSub a hm)).elim P1.2.2.1 P1.2.2.2.1, P1.2.2.2.2⟩
 refine wpAny_call (codeAny_mono (F.run X.A X.stack s1 H1 ⟨us, []⟩ us vs Q (a, oe) cls d hr hzc hf hpin I1.env0 b r q) fun r s' hq => ?_)
 cases r with
 | error e => exact (show False from hq).elim
 | ok fl =>
  cases fl with
  | ret u => exact I1.after hq
  | next => exact False.elim hq
  | brk => exact False.elim hq
  | cont => exact False.elim hq
theorem z_callZ (F : FnZ X.prog X.w X.K X.mg X.base k f fd ps (fun a cls d => upSp X.K T (sz a cls d))) (hr : L2H.RoomH k X.A) (hz : PinX X a cls d) (hg : Gl X x) (hm : X.mg x = some (.ref f)) (hk : PySem.W.keepIn X.K (.ref f) = true) (hb : Binds X.K fd ps [])
  (ha : PA X (e :: es) (upA X.K T t)) (hdb : (x == ("__debug__" : Str)) = false := by decide) (he : starEach (e :: es) X.env = (false, eval e X.env) :: starEach es X.env := by rfl) (hpl : (backTo pos (starEach es X.env)).any (·.1) = false := by rfl) :
  PE X (.Call (.Name x p) (e :: es) [] pos) (up X.K T (tCallP (sz a cls d) [] t)) :=
 PE.weak (pe_callZ F hr hz hg hm hk hb ha hdb he hpl) fun σ H Q q => call_up (fun _ _ => .nil) q
theorem zx_callC {W : WXs} {sp : SpX} (Fn : FnOk X.prog X.w X.K X.mg X.base (L2.CX X.prog X.w) k f fd ps (upSpX X.K T sp)) (tk : L2.Takes X W) (hr : Room k X.A) (hg : Gl X x) (hm : X.mg x = some (.ref f)) (hk : PySem.W.keepIn X.K (.ref f) = true) {dvs : List V} {ds : List Value} {dps : List PV} (hb : Binds X.K fd ps ds) (hd : Vals dvs ds) (hp : ∀ O H, Reps X.K O H dps dvs)
  (ha : PA X (e :: es) (upA X.K T t)) (hdb : (x == ("__debug__" : Str)) = false := by decide) (he : starEach (e :: es) X.env = (false, eval e X.env) :: starEach es X.env := by rfl) (hpl : (backTo pos (starEach es X.env)).any (·.1) = false := by rfl) :
  PE X (.Call (.Name x p) (e :: es) [] pos) (upX X.K T W (tCallX sp dps t)) :=
 PE.weak (pe_callSD Fn hr hg hm hk hb hd (L2.passAt tk) ha hdb he hpl) fun σ H Q q => call_upX hp q
end
def noSl : Sl → Sl
 | .va x => .va x
 | _ => .no
def noOwn (η : EP') : EP' := η.map noSl
section
variable {K : PySem.W.Frag} {T : List (Addr × Str)} {F : Addr → Prop} {σ : St} {η : EP'} {H H1 : Hp}
theorem noOwn_va {i : Nat} {x : PV} (h : (noOwn η)[i]? = some (.va x)) : η[i]? = some (.va x) := by
 unfold noOwn at h
 rw [List.getElem?_map] at h
 obtain ⟨s, hs, e⟩ := Option.map_eq_some_iff.mp h
 cases s <;> first | (cases e; exact hs) | cases e
theorem noOwn_ow {i : Nat} {o : Ow} (h : (noOwn η)[i]? = some (.ow o)) : False := by
 unfold noOwn at h
 rw [List.getElem?_map] at h
 obtain ⟨s, hs, e⟩ := Option.map_eq_some_iff.mp h
 cases s <;> cases e
theorem not_own {σ : St} {a : Addr} (h : IsOwn σ (noOwn η) a) : False := by
 obtain ⟨i, o, _, e⟩ := h
 exact noOwn_ow e
theorem Rs.none (R : Rs K T F σ η H) : Rs K T (Oof F σ η) σ (noOwn η) H := by
 refine ⟨by unfold noOwn; rw [List.length_map]; exact R.len, fun i x e => ?_, fun i o e => (noOwn_ow e).elim, fun i j o o' a e => (noOwn_ow e).elim, R.trO, R.tb⟩
 obtain ⟨v, h1, h2⟩ := R.va i x (noOwn_va e)
 exact ⟨v, h1, h2.mono fun b z => z.elim id fun z => (not_own z).elim⟩
theorem gr_none {σ' : St} {η' : EP'} (e : Ext σ (noOwn η) σ' η' H H1) : Gr H H1 := ⟨fun b o h t => e.keep b o h (fun z => not_own z) t, e.live⟩
theorem gr_extN (e : LamX.ExtN H H1) : Gr H H1 := ⟨e, fun b n z => n fun o h => Classical.byContradiction fun q => by
 have t : ∀ ps, o ≠ .tbl ps := fun ps y => q ⟨ps, y⟩
 exact z.no (e b o h t) t⟩
theorem Gr.trans {H2 : Hp} (a : Gr H H1) (b : Gr H1 H2) : Gr H H2 := ⟨fun c o h t => b.keep c o (a.keep c o h t) t, fun c n => b.live c (a.live c n)⟩
end
def stZ (f a : Addr) : St := [some (.ref f), some (.ref a)]
def ηZ (f a : Addr) (d : Option Addr) (fs : List (Str × PV)) : EP' := [.va (.raw (.ref f)), .va (.exn a d fs)]
def TTc (K : PySem.W.Frag) (T : List (Addr × Str)) (cs : List Value) (ret : Str) (tsu : Addr → Value → Option Addr → TSp) : (XK → Hp → VK → Prop) → Hp → VK → Prop := fun tl H Q =>
 ∀ f : Addr, tl (fun cls d H' => PySem.W.exmAny K cls cs = some true ∧ ∀ a, H' a = none → upS K T (tsu a cls d) { nx := fun _ H2 => Q .non H2, rt := Q } (stZ f a) H') H
  fun v H' => 2 ≤ sizeLine ∧ ∀ p, H' p = none → Q (.ref p) (upd H' p (.lst [.str ret, v]))
theorem caught_gives {X : Cx} {T : List (Addr × Str)} {Ng : List Str} {x a q ret n : Str} {sg : Scope} {g : Addr} {cdg : Value} {j ek k : Nat} {p1 p2 p3 p5 p6 p7 p8 np : Pos} {elts : List Expr} {cs : List Value} {b₀ : Stmt} {suite : List Stmt} {tsu : Addr → Value → Option Addr → TSp}
  (hN : Ng.Nodup) (h0 : Ng = [a, n]) (hln : sg.names.lookup n = some .local)
  (hc : ∀ (s : Shared) (H : Hp), L2N.NamesL (cxOf CX0 X.prog X.w X.K X.mg X.base Ng x sg g cdg X.A X.stack s H E0).nox elts cs) (hm : L2N.TupM X.prog X.w X.K cs) (hl : cs.length ≤ 1000)
  (hsu : ∀ (s : Shared) (H : Hp), Room (k + 1) (X.A.deeper (envOfC x sg s.heap.objs.size g cdg)) → ∀ (a : Addr) (oe : Obj) (cls : Value) (d : Option Addr) (pn : List (Addr × Obj)), L2.Zc cls d oe → (∃ vs, oe.data = .fields vs) →
   PSs ((cxOf CX0 X.prog X.w X.K X.mg X.base Ng x sg g cdg X.A X.stack s H E0).nox.suite a ((a, oe) :: pn)) (b₀ :: suite) (upS X.K T (tsu a cls d))) :
  L2T.Gives X Ng x sg g cdg [.Try [.Return (some (.List [.Constant (.str ret) j p5, .Call (.Name a p1) [] [] p2] p6)) p3] [.ExceptHandler (some (.Tuple elts ek np)) (some n) (b₀ :: suite) p7] [] [] p8] a q k (TTc X.K T cs ret tsu) := by
 intro f c' s H Q tl hr act hc' h
 subst h0
 refine ⟨_, pss_one (L2T.ps_try_tup_as (X := (cxOf CX0 X.prog X.w X.K X.mg X.base [a, n] x sg g cdg X.A X.stack s H E0).nox) (i := 1) (Wout := fun _ _ _ _ => False)
   (tb := fun W D σ H => ∃ Ech : XK, (∀ cls d H', Ech cls d H' → W cls d σ H') ∧ σ[0]? = some (some (.ref f)) ∧ H c' = some (LamX.CodeO c' q) ∧ tl Ech H fun v H' => 2 ≤ sizeLine ∧ ∀ p, H' p = none → D.rt (.ref p) (upd H' p (.lst [.str ret, v])))
   (ts := fun a cls d => upS X.K T (tsu a cls d)) rfl rfl hN rfl hln (hc s H) hm hl LamX.takes0 (fun W pn xe tk _ => ?_) (hsu s H hr)), ?_⟩
 ·constructor
  intro pins s' σ H' D I h'
  obtain ⟨Ech, h1, h2, h3, h4⟩ := h'
  exact (pss_one (ps_ret (pe_lst (pa_cons pe_str (pa_cons (act W pn xe Ech p1 p2 tk) pa_nil))))).run pins s' σ H' D I ⟨h1, h2, h3, h4⟩
 ·refine ⟨_, fun cls d H' hE => ?_, rfl, hc', h f⟩
  obtain ⟨hx, hs⟩ := hE
  exact ⟨true, hx, fun _ a na => hs a na, fun z => by cases z⟩
def tCaughtP (K : PySem.W.Frag) (cs : List Value) (ret : Str) (te : TXp) (tsu : Addr → Value → Option Addr → TSp) : TEp := fun η P => te (noOwn η) (fun x _ => P (.lst [.str ret, x]) η) fun C fs _ => PySem.W.exmAny K (.ref C) cs = some true ∧
 ∀ (f a : Addr) (d : Option Addr), (fs = [] ∨ d.isSome) → tsu a (.ref C) d { nx := fun _ => P .non η, rt := fun y _ => P y η } (ηZ f a d fs)
theorem caught_up {K : PySem.W.Frag} {T : List (Addr × Str)} {cs : List Value} {ret : Str} {te : TXp} {tsu : Addr → Value → Option Addr → TSp} {σ : St} {H : Hp} {Q : VK} (q : up K T (tCaughtP K cs ret te tsu) σ H Q) :
  LamX.tLam T (TTc K T cs ret tsu) (fun E => upX K T (fun cls d _ H' => E cls d H') te) σ H Q := by
 obtain ⟨F, η, P, R, h, k⟩ := q
 refine ⟨R.tb, fun H1 eN T1 f => ?_⟩
 have g1 := gr_extN eN
 have R1 := R.gr g1 T1
 refine ⟨Oof F σ η, noOwn η, _, _, R1.none, h, fun x η' v H' hp e R' r' => ?_, fun C fs η' d σ' H' hz e R' xa => ?_⟩
 ·have g2 := gr_none e
  have R2 := R1.gr g2 R'.tb
  refine ⟨by decide, fun p hp' => ?_⟩
  have sm := Same.new (o := .lst [.str ret, v]) hp'
  have hr : Reps K (Oof F σ η) H' [.str ret, x] [.str ret, v] := by
   unfold Reps
   exact ⟨.str ret, [v], rfl, by unfold Rep; rfl, by unfold Reps; exact ⟨v, [], rfl, r'.mono fun b z => .inl z, by unfold Reps; rfl⟩⟩
  exact k _ η _ _ hp ((g1.trans g2).ext.trans (.same sm)) (R2.same sm) (rep_newL R2.trO hp' hr)
 ·obtain ⟨hx, hs⟩ := hz
  refine ⟨hx, fun a na => ?_⟩
  have g2 := gr_none e
  have R2 := R1.gr g2 R'.tb
  have x2 : XAt K (Oof F σ η) H' d fs := xa.mono fun b z => .inl z
  have own0 : ∀ b, ¬ IsOwn (stZ f a) (ηZ f a d fs) b := fun b ⟨i, o, _, e⟩ => by
   match i, e with
   | 0, e => cases e
   | 1, e => cases e
   | _ + 2, e => cases e
  have RZ : Rs K T (Oof F σ η) (stZ f a) (ηZ f a d fs) H' := by
   refine ⟨rfl, fun i y e => ?_, fun i o e => ?_, fun i j o o' b e => ?_, R2.trO, R2.tb⟩
   ·match i, e with
    | 0, e => cases e; exact ⟨_, rfl, by unfold Rep; rfl⟩
    | 1, e => cases e; exact ⟨_, rfl, (x2.rep a).mono fun b z => z.elim id fun z => (own0 b z).elim⟩
    | _ + 2, e => cases e
   ·match i, e with
    | 0, e => cases e
    | 1, e => cases e
    | _ + 2, e => cases e
   ·match i, e with
    | 0, e => cases e
    | 1, e => cases e
    | _ + 2, e => cases e
  have gZ : ∀ {σ3 : St} {η3 : EP'} {H3 : Hp}, Ext (stZ f a) (ηZ f a d fs) σ3 η3 H' H3 → Gr H' H3 := fun e => ⟨fun b o h t => e.keep b o h (own0 b) t, e.live⟩
  refine ⟨Oof F σ η, ηZ f a d fs, _, RZ, hs f a d x2.some, fun η3 σ3 H3 q3 e3 R3 => ?_, fun _ _ _ q => q.elim, fun _ _ _ q => q.elim, fun y η3 σ3 v H3 q3 e3 R3 r3 => ?_⟩
  ·have g3 := (g1.trans g2).trans (gZ e3)
   exact k _ η _ _ q3 g3.ext (R.gr g3 R3.tb) rep_non
  ·have g3 := (g1.trans g2).trans (gZ e3)
   exact k _ η _ _ q3 g3.ext (R.gr g3 R3.tb) (r3.mono fun b z => .inl z)
def nmOf : PV → Str
 | .tup (.str w :: _) => w
 | _ => ("" : Str)
section
variable {K : PySem.W.Frag} {T : List (Addr × Str)} {D : EndsP} {Zw : WZ} {η : EP'} {sp : SpX} {dps : List PV} {t : TAp}
theorem w_seqX1 {t u : TSX} (h : t { D with nx := fun η' => u D Zw η' } Zw η) : tSeqX t u D Zw η := h
theorem w_plX1 {t : TSp} (h : t D η) : tPlX t D Zw η := h
theorem w_ifX1 {c : TTp} {t u : TSX} (h : c η fun b η1 => if b = true then t D Zw η1 else u D Zw η1) : tIfX c t u D Zw η := h
theorem w_raiseX1 {C : Addr} {f : Str} {te : TEp} (h : te η fun y η1 => Zw C [(f, y)] η1) : tRaiseX C f te D Zw η := h
theorem w_exX1 {te : TXp} (h : te η (fun _ η1 => D.nx η1) Zw) : tExX te D Zw η := h
theorem w_callX1 {P : PV → EP' → Prop} (h : t η fun args η1 => sp (args ++ dps) (fun z => P z η1) fun C fs => Zw C fs η1) : tCallX sp dps t η P Zw := h
end
theorem w_enumX {te : TEp} {η : EP'} {QA : List PV → EP' → Prop} (h : te η fun x η1 => match x with
 | .tup xs => QA (enumP xs) η1
 | _ => False) : iEnumP te η QA := h
theorem enumX_len (xs : List PV) : (enumP xs).length = xs.length := by simp [enumP]
variable {X : Cx}
end Z
namespace Z
open PySem PySem.Spec L2
open PyProof.Rows hiding St
def KeysAre : List DictEntry → List Str → Prop
 | [], [] => True
 | e :: r, k :: ks => (∃ t, e.key = .str k t) ∧ KeysAre r ks
 | _, _ => False
theorem KeysAre.at_ : ∀ {es : List DictEntry} {ks : List Str}, KeysAre es ks → es.length = ks.length ∧ ∀ (i : Nat) (k : Str), ks[i]? = some k → ∃ en t, es[i]? = some en ∧ en.key = .str k t
 | [], [], _ => ⟨rfl, fun i k z => by simp at z⟩
 | e :: r, k :: ks, h => by
  obtain ⟨⟨t, ht⟩, h2⟩ := h
  obtain ⟨h3, h4⟩ := h2.at_
  refine ⟨by rw [List.length_cons, List.length_cons, h3], fun i k' z => ?_⟩
  cases i with
  | zero => simp at z; subst z; exact ⟨e, t, rfl, ht⟩
  | succ i => obtain ⟨en, t', a, b⟩ := h4 i k' (by simpa using z); exact ⟨en, t', by simpa using a, b⟩
 | [], _ :: _, h => h.elim
 | _ :: _, [], h => h.elim
section
variable {X : Cx} {T : List (Addr × Str)} {tg e w : Expr} {es : List Expr} {td : TE} {tw : TEp} {ta : TAp} {d : Addr} {ents : Array DictEntry} {n k i : Nat} {ks : List Str} {S x : Str} {p p1 p2 p3 p4 p5 p6 p7 pos : Pos}
structure HeldS (X : Cx) (k : Nat) (f : Addr) (sp : Sp) : Prop where
 ex : ∃ (fd : FuncData) (ps : List Str), FnOk X.prog X.w X.K X.mg X.base CX0 k f fd ps sp ∧ PySem.W.keepIn X.K (.ref f) = true ∧ Binds X.K fd ps []
end
end Z
namespace Z
open PySem PySem.Spec L2
open PyProof.Rows hiding St
def eqb (k : Bool) (v : Value) : Bool := match v with
 | .bool n => n == k
 | _ => false
theorem vals_bool : ∀ {bs : List Bool} {us : List Value}, Vals (bs.map V.bl) us → us = bs.map Value.bool
 | [], _, h => by cases h; rfl
 | b :: bs, _, h => by
  cases h with
  | cons a t =>
   rw [vals_bool t]
   have : _ = Value.bool b := a
   rw [this]; rfl
theorem eqb_count {k : Bool} : ∀ {bs : List Bool}, (bs.map Value.bool).countP (eqb k) = bs.count k
 | [] => rfl
 | b :: bs => by
  rw [List.map_cons, List.countP_cons, List.count_cons, eqb_count (k := k) (bs := bs)] <;> rfl
section
variable {X : Cx}
def rCntB (K : PySem.W.Frag) : V → List V → Hp → VK → Prop := fun x xs H Q => ∃ (p : Addr) (bs : List Bool) (k : Bool), x = .ref p ∧ xs = [.bl k] ∧ SqL K H p (bs.map V.bl) ∧ Q (.int (bs.count k : Nat)) H
theorem mt_lcountB : MtR X "list.count" (rCntB X.K) := by
 intro pins s σ H x xs v us Q I rx rxs h
 obtain ⟨p, bs, k, rfl, rfl, hs, q⟩ := h
 cases rx
 obtain ⟨u, rfl, ru⟩ := rxs.one
 obtain rfl : u = Value.bool k := ru
 obtain ⟨its, rv, ⟨⟨cls, dd, data, sl⟩, n, ho, hc, hdn, hd⟩, hlen⟩ := I.list hs
 simp only at hc hd
 subst hc hd
 have hi := vals_bool rv
 refine call_meets PySem.F.slot_list_count ⟨_, ho, rfl⟩ PySem.F.entry_list_count (PySem.F.args_list_count_2 _ _)
  (SeqAt.list_countAt p its.toArray n dd sl (.bool k) (eqb k)) ⟨ho, fun y hy => ?_, ?_⟩
 ·rw [hi] at hy
  obtain ⟨b, _, rfl⟩ := List.mem_map.mp (show y ∈ bs.map Value.bool by simpa using hy)
  exact SeqAt.EqAt.bool_bool b k
 have ec : its.toArray.toList.countP (eqb k) = bs.count k := by
  rw [show its.toArray.toList = its from by simp, hi]; exact eqb_count
 refine ⟨.int (bs.count k : Nat), H, I.tok _, ⟨s.toks, ?_⟩, q⟩
 show Value.int ((its.toArray.toList.countP (eqb k) : Nat) : Int) s.toks = Value.int ((bs.count k : Nat) : Int) s.toks
 rw [ec]
end
section
variable {X : Cx} {T : List (Addr × Str)} {e : Expr} {to ti : TEp}
def tCntBP (to ti : TEp) : TEp := fun η P => to η fun x η1 => (∃ xs, x = .lst xs) ∧ ti η1 fun y η2 => ∃ (bs : List Bool) (k : Bool), x = .lst (bs.map .bl) ∧ y = .bl k ∧ P (.int ((bs.count k : Nat) : Int)) η2
theorem reps_bls {K : PySem.W.Frag} {O : Addr → Prop} {H : Hp} : ∀ {bs : List Bool} {vs : List V}, Reps K O H (bs.map .bl) vs → vs = bs.map V.bl
 | [], _, h => h.inv0
 | n :: ns, _, h => by
  obtain ⟨v, us, rfl, r, t⟩ := h.inv
  rw [r.bl_, reps_bls t]; rfl
theorem z_cntB {K0 : PySem.W.Frag} (hK : X.K = K0) (pf : PE X e (tBM K0 "list" (rCntB K0) (up K0 T to) (tCons (up K0 T ti) tNil))) : PE X e (up X.K T (tCntBP to ti)) := by
 subst hK
 refine PE.weak pf fun σ H Q q => ?_
 obtain ⟨F, η, P, R, h, k⟩ := q
 refine ⟨F, η, _, R, h, fun x η1 v H1 h1 e1 R1 r1 => ?_⟩
 obtain ⟨⟨xs, rfl⟩, h1⟩ := h1
 obtain ⟨a, vs, rfl, n, q, rr⟩ := id r1.lst_
 refine ⟨.inl ⟨rfl, vs, SqL.of q⟩, F, η1, _, R1, h1, fun y η2 w H2 h2 e2 R2 r2 => ?_⟩
 obtain ⟨bs, i, e, rfl, h2⟩ := h2
 have r3 := r1.car e2.car
 rw [e] at r3
 obtain ⟨a', vs', e3, n', q', rr'⟩ := r3.lst_
 cases e3
 have e4 := reps_bls rr'
 subst e4
 exact ⟨a, bs, i, rfl, by rw [r2.bl_], SqL.of q', k _ η2 _ H2 h2 (e1.trans e2) R2 rep_int⟩
theorem w_cntB {to ti : TEp} {η : EP'} {P : PV → EP' → Prop} (h : to η fun x η1 => (∃ xs, x = .lst xs) ∧ ti η1 fun y η2 => ∃ (bs : List Bool) (k : Bool), x = .lst (bs.map .bl) ∧ y = .bl k ∧ P (.int ((bs.count k : Nat) : Int)) η2) : tCntBP to ti η P := h
end
end Z
namespace Z
open PySem PySem.Spec L2 GenW
open PyProof.Rows hiding St
section
variable {X : Cx} {T : List (Addr × Str)} {e : Expr} {to ti : TEp}
def tIdxDP (to ti : TEp) : TEp := fun η P => to η fun x η1 => (∃ xs, x = .lst xs) ∧ ti η1 fun y η2 => ∃ (d : PyData) (ds : List PyData) (j : Nat) (z : PyData), toD x = some (.list ds) ∧ toD y = some d ∧ SeqAt.shaped (.list ds) = true ∧ SeqAt.shaped d = true ∧ ds[j]? = some z ∧ PyData.eqv z d = true ∧
 (∀ (m : Nat) (z' : PyData), m < j → ds[m]? = some z' → PyData.eqv z' d = false) ∧ P (.int (j : Int)) η2
theorem z_idxD {K0 : PySem.W.Frag} (hK : X.K = K0) (pf : PE X e (tBM K0 "list" (rIndexD K0) (up K0 T to) (tCons (up K0 T ti) tNil))) : PE X e (up X.K T (tIdxDP to ti)) := by
 subst hK
 refine PE.weak pf fun σ H Q q => ?_
 obtain ⟨F, η, P, R, h, k⟩ := q
 refine ⟨F, η, _, R, h, fun x η1 v H1 h1 e1 R1 r1 => ?_⟩
 obtain ⟨⟨xs, rfl⟩, h1⟩ := h1
 obtain ⟨a, vs, rfl, n, q, rr⟩ := id r1.lst_
 refine ⟨.inl ⟨rfl, vs, SqL.of q⟩, F, η1, _, R1, h1, fun y η2 w H2 h2 e2 R2 r2 => ?_⟩
 obtain ⟨d, ds, j, z, hx, hy, s1, s2, hz, hzj, hno, h2⟩ := h2
 have r3 := r1.car e2.car
 exact ⟨a, w, d, ds, j, z, rfl, rfl, Rep.dp _ _ _ r3 hx, Rep.dp _ _ _ r2 hy, s1, s2, hz, hzj, hno, k _ η2 _ H2 h2 (e1.trans e2) R2 rep_int⟩
end
theorem roomH65 {k : Nat} {A : Around} (h : L2H.RoomH k A) : A.units + 65 < cLine := by have := h.un; omega
theorem roomH_mark {k : Nat} {A : Around} {v : Option Value} (h : Room k A) : L2H.RoomH k (A.mark v) := ⟨h.dp, h.un⟩
theorem strs_reps {K : PySem.W.Frag} {O : Addr → Prop} {H : Hp} : ∀ ys : List Str, Reps K O H (ys.map PV.str) (ys.map V.str)
 | [] => by unfold Reps; rfl
 | y :: ys => by
  rw [List.map_cons, List.map_cons]
  unfold Reps
  exact ⟨.str y, ys.map V.str, rfl, by unfold Rep; rfl, strs_reps ys⟩
section
variable {X : Cx} {T : List (Addr × Str)} {W : WXs} {a b e o : Expr} {es : List Expr} {te ta tb to : TEp} {t : TAp} {pos p apos : Pos} {k : Nat} {f C g : Addr} {fd : FuncData} {ps : List Str} {sp : SpX} {x m : Str}
def tSplitP (to te : TEp) : TEp := fun η P => to η fun x η1 => (∃ z, x = .str z) ∧ te η1 fun y η2 => ∃ a b, x = .str a ∧ y = .str b ∧ (b.length == 0) = false ∧ a.length + 2 ≤ sizeLine ∧ P (.lst ((Txt.split a b).map .str)) η2
theorem z_split {K0 : PySem.W.Frag} (hK : X.K = K0)
  (pf : PE X e (tM1 (fun x xs H Q => ∃ a b, x = .str a ∧ xs = [.str b] ∧ (b.length == 0) = false ∧ a.length + 2 ≤ sizeLine ∧ rNewStrs (Txt.split a b) H Q) (up K0 T to) (up K0 T te))) : PE X e (up K0 T (tSplitP to te)) := by
 subst hK
 refine PE.weak pf fun σ H Q q => ?_
 obtain ⟨F, η, P, R, h, k⟩ := q
 refine ⟨F, η, _, R, h, fun x η1 v H1 h1 e1 R1 r1' => ?_⟩
 obtain ⟨⟨z, rfl⟩, h1⟩ := h1
 cases r1'.str_
 refine ⟨⟨z, rfl⟩, F, η1, _, R1, h1, fun y η2 w H2 h2 e2 R2' rw' => ?_⟩
 obtain ⟨a, b, hx, rfl, hb, hz, hp⟩ := h2
 cases hx
 cases rw'.str_
 exact ⟨z, b, rfl, rfl, hb, hz, fun p hp' => k _ η2 _ _ hp ((e1.trans e2).trans (.same (Same.new hp'))) (R2'.same (Same.new hp')) (rep_newL R2'.trO hp' (strs_reps _))⟩
end
section
variable {X : Cx} {T : List (Addr × Str)}
theorem z_caught {x n a ret : Str} {st : Stmt} {g c P : Addr} {fd : FuncData} {k j ek : Nat} {params : Arguments} {body : Expr} {scope : Scope} {p lpos pos p1 p2 p3 p5 p6 p7 p8 np : Pos} {elts : List Expr} {cs : List Value} {b₀ : Stmt} {suite : List Stmt} {te : TXp} {tsu : Addr → Value → Option Addr → TSp}
  (Fn : Fun X.K x x st g fd) (S : FnScope [a, n] [a] (defScope st))
  (hbd : defBody st = [.Try [.Return (some (.List [.Constant (.str ret) j p5, .Call (.Name a p1) [] [] p2] p6)) p3] [.ExceptHandler (some (.Tuple elts ek np)) (some n) (b₀ :: suite) p7] [] [] p8])
  (hva : (defScope st).names.lookup a = some .local) (hln : (defScope st).names.lookup n = some .local) (hb : Binds X.K fd [a] []) (hg : Gl X x) (hm : X.mg x = some (.ref g)) (hk : PySem.W.keepIn X.K (.ref g) = true)
  (hc : ∀ (cdv : Value) (s : Shared) (H : Hp), L2N.NamesL (cxOf CX0 X.prog X.w X.K X.mg X.base [a, n] x (defScope st) g cdv X.A X.stack s H E0).nox elts cs) (hm3 : L2N.TupM X.prog X.w X.K cs) (hl : cs.length ≤ 1000)
  (hsu : ∀ (cdv : Value) (s : Shared) (H : Hp), Room (k + 1) (X.A.deeper (envOfC x (defScope st) s.heap.objs.size g cdv)) → ∀ (e : Addr) (oe : Obj) (cls : Value) (d : Option Addr) (pn : List (Addr × Obj)), L2.Zc cls d oe → (∃ vs, oe.data = .fields vs) →
   PSs ((cxOf CX0 X.prog X.w X.K X.mg X.base [a, n] x (defScope st) g cdv X.A X.stack s H E0).nox.suite e ((e, oe) :: pn)) (b₀ :: suite) (upS X.K T (tsu e cls d)))
  (TB : LamX.TabB X.base X.mg c P) (hcode : X.env.code = .ref c) (hmT : (P, X.env.qual ++ "<lambda>") ∈ T) (hu : ∀ q ∈ T, q.1 = P → q.2 = X.env.qual ++ "<lambda>") (hr : Room (k + 2) X.A) (L : LamX.LamS X.env.scope scope) (hdef : defaultsOf params X.env = ([], []))
  (hbind : ∀ (q : Str) (cl : List (Str × Addr)) (pm cv ctv : Value), bindArgs (PySem.W.kla_fn "<lambda>" q params body scope cl pm cv ctv) ⟨[], []⟩ = pure [])
  (hbody : ∀ (A : Around) (outer : List Env) (s : Shared) (H : Hp) (E : XK) (f c' : Addr), Room k (A.deeper (LamX.lamEnv X scope s.heap.objs.size f c')) → PE (LamX.lamCx X A outer s H E scope f c') body (upX X.K T (fun cls d _ H' => E cls d H') te))
  (hdb : (x == ("__debug__" : Str)) = false := by decide) (hd : (a == ("__debug__" : Str)) = false := by decide) (hcd : (a == ("__classdict__" : Str)) = false := by decide) :
  PE X (.Call (.Name x p) [.Lambda params body scope lpos] [] pos) (up X.K T (tCaughtP X.K cs ret te tsu)) := by
 obtain ⟨oc, od, kV, doc, pm, an, cdv, ct, osl, rfl, lk, hcd2⟩ := Fn.ex
 have hG : L2T.Gives X [a, n] x (defScope st) g cdv (defBody st) a (X.env.qual ++ "<lambda>") k (TTc X.K T cs ret tsu) := by
  rw [hbd]
  exact caught_gives S.nd rfl hln (hc cdv) hm3 hl (hsu cdv)
 exact PE.weak (L2T.lamcall (t := fun E => upX X.K T (fun cls d _ H' => E cls d H') te) hg hm hk lk hcd2 hb S rfl (.inl hva) hG TB hcode hmT hu hr L hdef hbind hbody hdb hd hcd) fun σ H Q q => caught_up q
end
abbrev PrZ := PySem.W.Frag → Addr → (Str → Addr) → SpZ
def kindNames : List Str := [("InvalidSeats" : Str), ("InvalidTrips" : Str), ("InvalidName" : Str), ("InvalidSeat" : Str), ("InvalidStation" : Str), ("InvalidPlan" : Str), ("InvalidFixed" : Str), ("InvalidExchange" : Str), ("InvalidNumber" : Str), ("InvalidText" : Str), ("InvalidAction" : Str), ("InvalidCommand" : Str), ("NotALine" : Str), ("Overfull" : Str), ("Full" : Str), ("NameTaken" : Str), ("NotFree" : Str), ("Busy" : Str), ("NothingToUndo" : Str), ("TooManyTrips" : Str), ("TooManyPlans" : Str), ("TooManyEntries" : Str)]
def kindWords : List Str := [("seats" : Str), ("trips" : Str), ("name" : Str), ("seat" : Str), ("station" : Str), ("plan" : Str), ("fixed" : Str), ("exchange" : Str), ("number" : Str), ("text" : Str), ("action" : Str), ("command" : Str), ("notline" : Str), ("overfull" : Str), ("full" : Str), ("taken" : Str), ("notfree" : Str), ("busy" : Str), ("undo" : Str), ("toomanytrips" : Str), ("plans" : Str), ("entries" : Str)]
def kindW (n : Nat) : Str := kindWords.getD n ("" : Str)
def kindFields : List (Option Str) := [some ("value" : Str), some ("index" : Str), some ("name" : Str), some ("seat" : Str), some ("station" : Str), some ("index" : Str), some ("index" : Str), some ("index" : Str), some ("number" : Str), some ("text" : Str), some ("index" : Str), some ("command" : Str), some ("value" : Str), some ("station" : Str), some ("station" : Str), some ("name" : Str), some ("name" : Str), none, none, some ("found" : Str), some ("found" : Str), some ("found" : Str)]
structure KindF (K : PySem.W.Frag) (XC : Str → Addr) (C : Addr) (n : Nat) : Prop where
 e : L2.ExcC K C
 lt : n < 22
 k : ∀ (j : Nat) (s : Str), kindNames[j]? = some s → PySem.W.kitOne K (.ref C) (.ref (XC s)) = some (decide (j = n))
 b1 : PySem.W.kitOne K (.ref C) (.ref (XC ("SeatError" : Str))) = some (decide (n < 13))
 b2 : PySem.W.kitOne K (.ref C) (.ref (XC ("StateError" : Str))) = some (decide (12 < n) && decide (n < 19))
 b3 : PySem.W.kitOne K (.ref C) (.ref (XC ("SizeError" : Str))) = some (decide (18 < n))
 o1 : PySem.W.kitOne K (.ref C) (.type "ValueError") = some (decide (n < 13))
 o2 : PySem.W.kitOne K (.ref C) (.type "LookupError") = some (decide (12 < n) && decide (n < 19))
 o3 : PySem.W.kitOne K (.ref C) (.type "ArithmeticError") = some (decide (18 < n))
def FldF (K : PySem.W.Frag) (C : Addr) (n : Nat) (d : Option Addr) (fs : List (Str × PV)) (ys : List PV) : Prop :=
 (∃ f y, kindFields[n]? = some (some f) ∧ fs = [(f, y)] ∧ ys = [y] ∧ XfN K C f ∧ d.isSome = true) ∨ (kindFields[n]? = some none ∧ fs = [] ∧ ys = [])
def sp_law_kind : PrZ := fun K _ XC a cls d args P => ∃ C fs n, cls = .ref C ∧ args = [.exn a d fs] ∧ KindF K XC C n ∧ P (.str (kindW n))
def sp_law_other_fields : PrZ := fun K _ XC a cls d args P => ∃ C fs n ys, cls = .ref C ∧ args = [.exn a d fs] ∧ KindF K XC C n ∧ FldF K C n d fs ys ∧ n ∈ [3, 8, 9, 11, 17, 18] ∧ P (.lst ys)
def sp_law_fields : PrZ := fun K _ XC a cls d args P => ∃ C fs n ys, cls = .ref C ∧ args = [.exn a d fs] ∧ KindF K XC C n ∧ FldF K C n d fs ys ∧ P (.lst ys)
def ts_law_kind (K : PySem.W.Frag) (CLine : Addr) (XC : Str → Addr) : Addr → Value → Option Addr → TSp := fun a1 cls1 d1 => tSeqP (tSetP 1 (tLstP (tConsP (tCBP (rIsX K a1 cls1 d1) (tConsP (tVarP 0) (tConsP (tConP (.raw (.ref (XC ("InvalidSeats" : Str))))) (tNilP)))) (tConsP (tCBP (rIsX K a1 cls1 d1) (tConsP (tVarP 0) (tConsP (tConP (.raw (.ref (XC ("InvalidTrips" : Str))))) (tNilP)))) (tConsP (tCBP (rIsX K a1 cls1 d1) (tConsP (tVarP 0) (tConsP (tConP (.raw (.ref (XC ("InvalidName" : Str))))) (tNilP)))) (tNilP)))))) (tSeqP (tSetP 1 (tOpP rAdd (tVarP 1) (tLstP (tConsP (tCBP (rIsX K a1 cls1 d1) (tConsP (tVarP 0) (tConsP (tConP (.raw (.ref (XC ("InvalidSeat" : Str))))) (tNilP)))) (tConsP (tCBP (rIsX K a1 cls1 d1) (tConsP (tVarP 0) (tConsP (tConP (.raw (.ref (XC ("InvalidStation" : Str))))) (tNilP)))) (tConsP (tCBP (rIsX K a1 cls1 d1) (tConsP (tVarP 0) (tConsP (tConP (.raw (.ref (XC ("InvalidPlan" : Str))))) (tNilP)))) (tNilP))))))) (tSeqP (tSetP 1 (tOpP rAdd (tVarP 1) (tLstP (tConsP (tCBP (rIsX K a1 cls1 d1) (tConsP (tVarP 0) (tConsP (tConP (.raw (.ref (XC ("InvalidFixed" : Str))))) (tNilP)))) (tConsP (tCBP (rIsX K a1 cls1 d1) (tConsP (tVarP 0) (tConsP (tConP (.raw (.ref (XC ("InvalidExchange" : Str))))) (tNilP)))) (tConsP (tCBP (rIsX K a1 cls1 d1) (tConsP (tVarP 0) (tConsP (tConP (.raw (.ref (XC ("InvalidNumber" : Str))))) (tNilP)))) (tNilP))))))) (tSeqP (tSetP 1 (tOpP rAdd (tVarP 1) (tLstP (tConsP (tCBP (rIsX K a1 cls1 d1) (tConsP (tVarP 0) (tConsP (tConP (.raw (.ref (XC ("InvalidText" : Str))))) (tNilP)))) (tConsP (tCBP (rIsX K a1 cls1 d1) (tConsP (tVarP 0) (tConsP (tConP (.raw (.ref (XC ("InvalidAction" : Str))))) (tNilP)))) (tConsP (tCBP (rIsX K a1 cls1 d1) (tConsP (tVarP 0) (tConsP (tConP (.raw (.ref (XC ("InvalidCommand" : Str))))) (tNilP)))) (tNilP))))))) (tSeqP (tSetP 1 (tOpP rAdd (tVarP 1) (tLstP (tConsP (tCBP (rIsX K a1 cls1 d1) (tConsP (tVarP 0) (tConsP (tConP (.raw (.ref (XC ("NotALine" : Str))))) (tNilP)))) (tConsP (tCBP (rIsX K a1 cls1 d1) (tConsP (tVarP 0) (tConsP (tConP (.raw (.ref (XC ("Overfull" : Str))))) (tNilP)))) (tConsP (tCBP (rIsX K a1 cls1 d1) (tConsP (tVarP 0) (tConsP (tConP (.raw (.ref (XC ("Full" : Str))))) (tNilP)))) (tNilP))))))) (tSeqP (tSetP 1 (tOpP rAdd (tVarP 1) (tLstP (tConsP (tCBP (rIsX K a1 cls1 d1) (tConsP (tVarP 0) (tConsP (tConP (.raw (.ref (XC ("NameTaken" : Str))))) (tNilP)))) (tConsP (tCBP (rIsX K a1 cls1 d1) (tConsP (tVarP 0) (tConsP (tConP (.raw (.ref (XC ("NotFree" : Str))))) (tNilP)))) (tConsP (tCBP (rIsX K a1 cls1 d1) (tConsP (tVarP 0) (tConsP (tConP (.raw (.ref (XC ("Busy" : Str))))) (tNilP)))) (tNilP))))))) (tSeqP (tSetP 1 (tOpP rAdd (tVarP 1) (tLstP (tConsP (tCBP (rIsX K a1 cls1 d1) (tConsP (tVarP 0) (tConsP (tConP (.raw (.ref (XC ("NothingToUndo" : Str))))) (tNilP)))) (tConsP (tCBP (rIsX K a1 cls1 d1) (tConsP (tVarP 0) (tConsP (tConP (.raw (.ref (XC ("TooManyTrips" : Str))))) (tNilP)))) (tConsP (tCBP (rIsX K a1 cls1 d1) (tConsP (tVarP 0) (tConsP (tConP (.raw (.ref (XC ("TooManyPlans" : Str))))) (tNilP)))) (tNilP))))))) (tSeqP (tSetP 1 (tOpP rAdd (tVarP 1) (tLstP (tConsP (tCBP (rIsX K a1 cls1 d1) (tConsP (tVarP 0) (tConsP (tConP (.raw (.ref (XC ("TooManyEntries" : Str))))) (tNilP)))) (tNilP))))) (tSeqP (tSetP 2 (tLstP (tConsP (tCBP (rIsX K a1 cls1 d1) (tConsP (tVarP 0) (tConsP (tConP (.raw (.ref (XC ("SeatError" : Str))))) (tNilP)))) (tConsP (tCBP (rIsX K a1 cls1 d1) (tConsP (tVarP 0) (tConsP (tConP (.raw (.ref (XC ("StateError" : Str))))) (tNilP)))) (tConsP (tCBP (rIsX K a1 cls1 d1) (tConsP (tVarP 0) (tConsP (tConP (.raw (.ref (XC ("SizeError" : Str))))) (tNilP)))) (tNilP)))))) (tSeqP (tSetP 3 (tLstP (tConsP (tCBP (rIsX K a1 cls1 d1) (tConsP (tVarP 0) (tConsP (tConP (.raw (.ty "ValueError"))) (tNilP)))) (tConsP (tCBP (rIsX K a1 cls1 d1) (tConsP (tVarP 0) (tConsP (tConP (.raw (.ty "LookupError"))) (tNilP)))) (tConsP (tCBP (rIsX K a1 cls1 d1) (tConsP (tVarP 0) (tConsP (tConP (.raw (.ty "ArithmeticError"))) (tNilP)))) (tNilP)))))) (tSeqP (tIfSP (tBlP (tOpP (rEqP true) (tCntBP (tVarP 1) (tConP (.bl true))) (tConP (.int 1)))) (tRetP (tConP (.str ("other" : Str)))) (tNextP)) (tSeqP (tSetP 4 (tIdxDP (tVarP 1) (tConP (.bl true)))) (tSeqP (tIfSP (tOrP (tBlP (tOpP (rEqP true) (tVarP 2) (tLstP (tConsP (tOpP rLt (tVarP 4) (tConP (.int 13))) (tConsP (tChainP rLt rLt (tConP (.int 12)) (tVarP 4) (tConP (.int 19))) (tConsP (tOpP rGt (tVarP 4) (tConP (.int 18))) (tNilP))))))) (tBlP (tOpP (rEqP true) (tVarP 3) (tVarP 2)))) (tRetP (tConP (.str ("other" : Str)))) (tNextP)) (tSeqP (tSetP 5 (tConP (.str ("seats trips name seat station plan fixed exchange number text action command notline overfull" : Str)))) (tSeqP (tSetP 5 (tOpP rAdd (tVarP 5) (tConP (.str (" full taken notfree busy undo toomanytrips plans entries" : Str))))) (tRetP (tOpP rIxP (tSplitP (tVarP 5) (tConP (.str (" " : Str)))) (tVarP 4)))))))))))))))))
def ts_law_other_fields (K : PySem.W.Frag) (CLine : Addr) (XC : Str → Addr) : Addr → Value → Option Addr → TSp := fun a1 cls1 d1 => tSeqP (tIfSP (tBlP (tCBP (rIsX K a1 cls1 d1) (tConsP (tVarP 0) (tConsP (tConP (.raw (.ref (XC ("InvalidSeat" : Str))))) (tNilP))))) (tRetP (tLstP (tConsP (tXfP K a1 cls1 d1 ("seat" : Str) (tVarP 0)) (tNilP)))) (tNextP)) (tSeqP (tIfSP (tBlP (tCBP (rIsX K a1 cls1 d1) (tConsP (tVarP 0) (tConsP (tConP (.raw (.ref (XC ("InvalidNumber" : Str))))) (tNilP))))) (tRetP (tLstP (tConsP (tXfP K a1 cls1 d1 ("number" : Str) (tVarP 0)) (tNilP)))) (tNextP)) (tSeqP (tIfSP (tBlP (tCBP (rIsX K a1 cls1 d1) (tConsP (tVarP 0) (tConsP (tConP (.raw (.ref (XC ("InvalidText" : Str))))) (tNilP))))) (tRetP (tLstP (tConsP (tXfP K a1 cls1 d1 ("text" : Str) (tVarP 0)) (tNilP)))) (tNextP)) (tRetP (tIfP (tBlP (tCBP (rIsX K a1 cls1 d1) (tConsP (tVarP 0) (tConsP (tConP (.raw (.ref (XC ("InvalidCommand" : Str))))) (tNilP))))) (tLstP (tConsP (tXfP K a1 cls1 d1 ("command" : Str) (tVarP 0)) (tNilP))) (tLstP (tNilP))))))
def ts_law_fields (K : PySem.W.Frag) (CLine : Addr) (XC : Str → Addr) : Addr → Value → Option Addr → TSp := fun a1 cls1 d1 => tSeqP (tIfSP (tBlP (tCBP (rIsXT K a1 cls1 d1) (tConsP (tVarP 0) (tConsP (tTupP (tConsP (tConP (.raw (.ref (XC ("InvalidTrips" : Str))))) (tConsP (tConP (.raw (.ref (XC ("InvalidPlan" : Str))))) (tConsP (tConP (.raw (.ref (XC ("InvalidFixed" : Str))))) (tConsP (tConP (.raw (.ref (XC ("InvalidExchange" : Str))))) (tConsP (tConP (.raw (.ref (XC ("InvalidAction" : Str))))) (tNilP))))))) (tNilP))))) (tRetP (tLstP (tConsP (tXfP K a1 cls1 d1 ("index" : Str) (tVarP 0)) (tNilP)))) (tNextP)) (tSeqP (tIfSP (tBlP (tCBP (rIsXT K a1 cls1 d1) (tConsP (tVarP 0) (tConsP (tTupP (tConsP (tConP (.raw (.ref (XC ("TooManyTrips" : Str))))) (tConsP (tConP (.raw (.ref (XC ("TooManyPlans" : Str))))) (tConsP (tConP (.raw (.ref (XC ("TooManyEntries" : Str))))) (tNilP))))) (tNilP))))) (tRetP (tLstP (tConsP (tXfP K a1 cls1 d1 ("found" : Str) (tVarP 0)) (tNilP)))) (tNextP)) (tSeqP (tIfSP (tBlP (tCBP (rIsXT K a1 cls1 d1) (tConsP (tVarP 0) (tConsP (tTupP (tConsP (tConP (.raw (.ref (XC ("InvalidName" : Str))))) (tConsP (tConP (.raw (.ref (XC ("NameTaken" : Str))))) (tConsP (tConP (.raw (.ref (XC ("NotFree" : Str))))) (tNilP))))) (tNilP))))) (tRetP (tLstP (tConsP (tXfP K a1 cls1 d1 ("name" : Str) (tVarP 0)) (tNilP)))) (tNextP)) (tSeqP (tIfSP (tBlP (tCBP (rIsXT K a1 cls1 d1) (tConsP (tVarP 0) (tConsP (tTupP (tConsP (tConP (.raw (.ref (XC ("InvalidStation" : Str))))) (tConsP (tConP (.raw (.ref (XC ("Overfull" : Str))))) (tConsP (tConP (.raw (.ref (XC ("Full" : Str))))) (tNilP))))) (tNilP))))) (tRetP (tLstP (tConsP (tXfP K a1 cls1 d1 ("station" : Str) (tVarP 0)) (tNilP)))) (tNextP)) (tSeqP (tIfSP (tBlP (tCBP (rIsXT K a1 cls1 d1) (tConsP (tVarP 0) (tConsP (tTupP (tConsP (tConP (.raw (.ref (XC ("InvalidSeats" : Str))))) (tConsP (tConP (.raw (.ref (XC ("NotALine" : Str))))) (tNilP)))) (tNilP))))) (tRetP (tLstP (tConsP (tXfP K a1 cls1 d1 ("value" : Str) (tVarP 0)) (tNilP)))) (tNextP)) (tRetP (tCallP (sp_law_other_fields K CLine XC a1 cls1 d1) [] (tConsP (tVarP 0) (tNilP))))))))
def ts_law_caught (K : PySem.W.Frag) (CLine : Addr) (XC : Str → Addr) : Addr → Value → Option Addr → TSp := fun a1 cls1 d1 => tRetP (tOpP rAdd (tLstP (tConsP (tCallP (sp_law_kind K CLine XC a1 cls1 d1) [] (tConsP (tVarP 1) (tNilP))) (tNilP))) (tCallP (sp_law_fields K CLine XC a1 cls1 d1) [] (tConsP (tVarP 1) (tNilP))))
section
variable {K : PySem.W.Frag} {C : Addr} {XC : Str → Addr} {args : List PV} {P : PV → Prop} {a : Addr} {cls : Value} {d : Option Addr}
theorem len_law_kind (h : sp_law_kind K C XC a cls d args P) : args.length = 1 := by obtain ⟨_, _, _, _, rfl, _⟩ := h; rfl
theorem len_law_other_fields (h : sp_law_other_fields K C XC a cls d args P) : args.length = 1 := by obtain ⟨_, _, _, _, _, rfl, _⟩ := h; rfl
theorem len_law_fields (h : sp_law_fields K C XC a cls d args P) : args.length = 1 := by obtain ⟨_, _, _, _, _, rfl, _⟩ := h; rfl
end
theorem eqv_self {d : PyData} (h2 : SeqAt.shaped d = true) : PyData.eqv d d = true := by
 unfold SeqAt.shaped at h2
 rw [Bool.and_eq_true] at h2
 exact PySem.SeqAt.eqv_refl d h2.1
theorem q_neSame {x : PV} {d : PyData} {P : PV → Prop} (h1 : toD x = some d) (h2 : SeqAt.shaped d = true) (h : P (.bl false)) : rEqP true x x P := ⟨d, d, h1, h1, h2, h2, by rw [eqv_self h2]; exact h⟩
theorem toDs_bls : ∀ bs : List Bool, toDs (bs.map .bl) = some (bs.map .bool)
 | [] => rfl
 | b :: bs => by rw [List.map_cons, toDs, toDs_bls bs]; rfl
theorem toD_bls (bs : List Bool) : toD (.lst (bs.map .bl)) = some (.list (bs.map .bool)) := by rw [toD, toDs_bls]; rfl
theorem canLay_bls : ∀ bs : List Bool, PyData.canLayAll0 (bs.map .bool) = true
 | [] => rfl
 | b :: bs => by rw [List.map_cons, PyData.canLayAll0, canLay_bls bs]; rfl
theorem depth_bls : ∀ bs : List Bool, PyData.depthAll (bs.map .bool) ≤ 0
 | [] => Nat.le_refl _
 | b :: bs => by
  have := depth_bls bs
  rw [List.map_cons, PyData.depthAll]
  simp only [PyData.depth]
  omega
theorem shaped_bls (bs : List Bool) : SeqAt.shaped (.list (bs.map .bool)) = true := by
 unfold SeqAt.shaped
 have := depth_bls bs
 rw [PyData.canLay0, canLay_bls, Bool.true_and]
 refine decide_eq_true ?_
 rw [PyData.depth]
 omega
def kinds (n : Nat) : List Bool := (List.range 22).map fun j => decide (j = n)
theorem kinds_count : ∀ n, n < 22 → (kinds n).count true = 1 := by decide
theorem kinds_get {n : Nat} (h : n < 22) : ((kinds n).map PyData.bool)[n]? = some (.bool true) := by
 unfold kinds
 rw [List.getElem?_map, List.getElem?_map, List.getElem?_range h]
 simp
theorem kinds_no {n m : Nat} {z : PyData} (h : n < 22) (hm : m < n) (e : ((kinds n).map PyData.bool)[m]? = some z) : PyData.eqv z (.bool true) = false := by
 unfold kinds at e
 rw [List.getElem?_map, List.getElem?_map, List.getElem?_range (by omega)] at e
 have ne : decide (m = n) = false := decide_eq_false (by omega)
 simp only [Option.map_some, ne] at e
 cases e
 rfl
theorem split_kinds : Txt.split (("seats trips name seat station plan fixed exchange number text action command notline overfull" : Str) ++ (" full taken notfree busy undo toomanytrips plans entries" : Str)) (" " : Str) = kindWords := by decide +kernel
theorem w_splitX {to te : TEp} {η : EP'} {P : PV → EP' → Prop} (h : to η fun x η1 => (∃ z, x = .str z) ∧ te η1 fun y η2 => ∃ a b, x = .str a ∧ y = .str b ∧ (b.length == 0) = false ∧ a.length + 2 ≤ sizeLine ∧ P (.lst ((Txt.split a b).map .str)) η2) : tSplitP to te η P := h
theorem cut_mid {n : Nat} {x2 : Bool} (hx2 : (decide (12 < n) && decide (n < 19)) = x2) {η : EP'} {R : PV → EP' → Prop} (h : R (.bl x2) η) : if decide ((12 : Int) < (n : Int)) = true then tConP (.int 19) η fun w η3 => rLt (.int (n : Int)) w fun z' => R z' η3 else R (.bl false) η := by
 by_cases c : (12 : Int) < (n : Int)
 ·rw [decide_eq_true c, if_pos rfl]
  have e : decide ((n : Int) < 19) = x2 := by
   rw [← hx2, decide_eq_true (show 12 < n by omega), Bool.true_and]
   exact decide_eq_decide.mpr (by omega)
  refine w_con (q_lt ?_)
  rw [e]; exact h
 ·rw [decide_eq_false c, if_neg Bool.false_ne_true]
  have e : false = x2 := by
   rw [← hx2, decide_eq_false (show ¬ 12 < n by omega), Bool.false_and]
  rw [e]; exact h
section
variable {K : PySem.W.Frag} {C Ca : Addr} {XC : Str → Addr} {args : List PV} {P Q : PV → Prop} {a : Addr} {cls : Value} {d : Option Addr} {n : Nat} {fs : List (Str × PV)}
theorem q_kX (kf : KindF K XC Ca n) (j : Nat) (s : Str) (hj : kindNames[j]? = some s) (h : Q (.bl (decide (j = n)))) : rIsX K a (.ref Ca) d [.exn a d fs, .raw (.ref (XC s))] Q := ⟨fs, _, Ca, .ref (XC s), _, rfl, rfl, kf.e, rfl, kf.k j s hj, h⟩
theorem q_bX {cv : Value} {x : PV} {b : Bool} (kf : KindF K XC Ca n) (hc : clsVal x = some cv) (hk : PySem.W.kitOne K (.ref Ca) cv = some b) (h : Q (.bl b)) : rIsX K a (.ref Ca) d [.exn a d fs, x] Q := ⟨fs, _, Ca, cv, b, rfl, rfl, kf.e, hc, hk, h⟩
theorem kf_any (kf : KindF K XC Ca n) : ∀ js : List Nat, (∀ j ∈ js, j < 22) → PySem.W.kitAny K (.ref Ca) (js.map fun j => .ref (XC (kindNames.getD j ("" : Str)))) = some (decide (n ∈ js))
 | [], _ => rfl
 | j :: js, h => by
  have hj : kindNames[j]? = some (kindNames.getD j ("" : Str)) := by
   have : j < kindNames.length := h j List.mem_cons_self
   rw [List.getD_eq_getElem?_getD, List.getElem?_eq_getElem this]; rfl
  rw [List.map_cons]
  unfold PySem.W.kitAny
  rw [kf.k j _ hj]
  by_cases c : j = n
  ·rw [decide_eq_true c]
   exact congrArg some (decide_eq_true (by rw [c]; exact List.mem_cons_self)).symm
  ·rw [decide_eq_false c]
   dsimp only
   rw [kf_any kf js fun q hq => h q (List.mem_cons_of_mem _ hq)]
   congr 1
   refine decide_eq_decide.mpr ?_
   rw [List.mem_cons]
   exact ⟨.inr, fun z => z.resolve_left fun y => c y.symm⟩
theorem q_aX (kf : KindF K XC Ca n) (js : List Nat) (hj : ∀ j ∈ js, j < 22) {cs : List PV} (hc : cs = js.map fun j => .raw (.ref (XC (kindNames.getD j ("" : Str))))) (h : Q (.bl (decide (n ∈ js)))) : rIsXT K a (.ref Ca) d [.exn a d fs, .tup cs] Q := by
 refine ⟨fs, cs, Ca, js.map fun j => .ref (XC (kindNames.getD j ("" : Str))), _, rfl, rfl, kf.e, ?_, kf_any kf js hj, h⟩
 rw [hc, List.map_map, List.map_map]
 rfl
theorem rd_law_kind (h : sp_law_kind K C XC a cls d args P) : ts_law_kind K C XC a cls d { nx := fun _ => P .non, rt := fun x _ => P x } (startP 6 args) := by
 obtain ⟨Ca, fs, n, rfl, rfl, kf, hp⟩ := h
 have e : startP 6 [.exn a d fs] = [.va (.exn a d fs), .no, .no, .no, .no, .no] := rfl
 rw [e]
 have sz : 1000 < sizeLine := by decide
 have lt := kf.lt
 refine w_seq (w_set (w_lst (w_cons (w_cb (w_cons (w_var (x := .exn a d fs) rfl (w_cons (w_con (w_nil (q_kX kf 0 _ rfl ?_))))))))))
 refine w_cons (w_cb (w_cons (w_var (x := .exn a d fs) rfl (w_cons (w_con (w_nil (q_kX kf 1 _ rfl ?_)))))))
 refine w_cons (w_cb (w_cons (w_var (x := .exn a d fs) rfl (w_cons (w_con (w_nil (q_kX kf 2 _ rfl ?_)))))))
 refine w_nil ⟨by show 3 ≤ sizeLine; omega, ?_⟩
 simp only [List.set_cons_zero, List.set_cons_succ]
 refine w_seq (w_set (w_op (w_var rfl (w_lst (w_cons (w_cb (w_cons (w_var (x := .exn a d fs) rfl (w_cons (w_con (w_nil (q_kX kf 3 _ rfl ?_))))))))))))
 refine w_cons (w_cb (w_cons (w_var (x := .exn a d fs) rfl (w_cons (w_con (w_nil (q_kX kf 4 _ rfl ?_)))))))
 refine w_cons (w_cb (w_cons (w_var (x := .exn a d fs) rfl (w_cons (w_con (w_nil (q_kX kf 5 _ rfl ?_)))))))
 refine w_nil ⟨by show 3 ≤ sizeLine; omega, q_addLL (by show 3 + 3 ≤ sizeLine; omega) ?_⟩
 simp only [List.set_cons_zero, List.set_cons_succ]
 refine w_seq (w_set (w_op (w_var rfl (w_lst (w_cons (w_cb (w_cons (w_var (x := .exn a d fs) rfl (w_cons (w_con (w_nil (q_kX kf 6 _ rfl ?_))))))))))))
 refine w_cons (w_cb (w_cons (w_var (x := .exn a d fs) rfl (w_cons (w_con (w_nil (q_kX kf 7 _ rfl ?_)))))))
 refine w_cons (w_cb (w_cons (w_var (x := .exn a d fs) rfl (w_cons (w_con (w_nil (q_kX kf 8 _ rfl ?_)))))))
 refine w_nil ⟨by show 3 ≤ sizeLine; omega, q_addLL (by show 6 + 3 ≤ sizeLine; omega) ?_⟩
 simp only [List.set_cons_zero, List.set_cons_succ]
 refine w_seq (w_set (w_op (w_var rfl (w_lst (w_cons (w_cb (w_cons (w_var (x := .exn a d fs) rfl (w_cons (w_con (w_nil (q_kX kf 9 _ rfl ?_))))))))))))
 refine w_cons (w_cb (w_cons (w_var (x := .exn a d fs) rfl (w_cons (w_con (w_nil (q_kX kf 10 _ rfl ?_)))))))
 refine w_cons (w_cb (w_cons (w_var (x := .exn a d fs) rfl (w_cons (w_con (w_nil (q_kX kf 11 _ rfl ?_)))))))
 refine w_nil ⟨by show 3 ≤ sizeLine; omega, q_addLL (by show 9 + 3 ≤ sizeLine; omega) ?_⟩
 simp only [List.set_cons_zero, List.set_cons_succ]
 refine w_seq (w_set (w_op (w_var rfl (w_lst (w_cons (w_cb (w_cons (w_var (x := .exn a d fs) rfl (w_cons (w_con (w_nil (q_kX kf 12 _ rfl ?_))))))))))))
 refine w_cons (w_cb (w_cons (w_var (x := .exn a d fs) rfl (w_cons (w_con (w_nil (q_kX kf 13 _ rfl ?_)))))))
 refine w_cons (w_cb (w_cons (w_var (x := .exn a d fs) rfl (w_cons (w_con (w_nil (q_kX kf 14 _ rfl ?_)))))))
 refine w_nil ⟨by show 3 ≤ sizeLine; omega, q_addLL (by show 12 + 3 ≤ sizeLine; omega) ?_⟩
 simp only [List.set_cons_zero, List.set_cons_succ]
 refine w_seq (w_set (w_op (w_var rfl (w_lst (w_cons (w_cb (w_cons (w_var (x := .exn a d fs) rfl (w_cons (w_con (w_nil (q_kX kf 15 _ rfl ?_))))))))))))
 refine w_cons (w_cb (w_cons (w_var (x := .exn a d fs) rfl (w_cons (w_con (w_nil (q_kX kf 16 _ rfl ?_)))))))
 refine w_cons (w_cb (w_cons (w_var (x := .exn a d fs) rfl (w_cons (w_con (w_nil (q_kX kf 17 _ rfl ?_)))))))
 refine w_nil ⟨by show 3 ≤ sizeLine; omega, q_addLL (by show 15 + 3 ≤ sizeLine; omega) ?_⟩
 simp only [List.set_cons_zero, List.set_cons_succ]
 refine w_seq (w_set (w_op (w_var rfl (w_lst (w_cons (w_cb (w_cons (w_var (x := .exn a d fs) rfl (w_cons (w_con (w_nil (q_kX kf 18 _ rfl ?_))))))))))))
 refine w_cons (w_cb (w_cons (w_var (x := .exn a d fs) rfl (w_cons (w_con (w_nil (q_kX kf 19 _ rfl ?_)))))))
 refine w_cons (w_cb (w_cons (w_var (x := .exn a d fs) rfl (w_cons (w_con (w_nil (q_kX kf 20 _ rfl ?_)))))))
 refine w_nil ⟨by show 3 ≤ sizeLine; omega, q_addLL (by show 18 + 3 ≤ sizeLine; omega) ?_⟩
 simp only [List.set_cons_zero, List.set_cons_succ]
 refine w_seq (w_set (w_op (w_var rfl (w_lst (w_cons (w_cb (w_cons (w_var (x := .exn a d fs) rfl (w_cons (w_con (w_nil (q_kX kf 21 _ rfl ?_))))))))))))
 refine w_nil ⟨by show 1 ≤ sizeLine; omega, q_addLL (by show 21 + 1 ≤ sizeLine; omega) ?_⟩
 simp only [List.set_cons_zero, List.set_cons_succ]
 change tSeqP _ _ _ [.va (.exn a d fs), .va (.lst ((kinds n).map .bl)), .no, .no, .no, .no]
 refine w_seq (w_set (w_lst (w_cons (w_cb (w_cons (w_var (x := .exn a d fs) rfl (w_cons (w_con (w_nil (q_bX kf rfl kf.b1 ?_))))))))))
 refine w_cons (w_cb (w_cons (w_var (x := .exn a d fs) rfl (w_cons (w_con (w_nil (q_bX kf rfl kf.b2 ?_)))))))
 refine w_cons (w_cb (w_cons (w_var (x := .exn a d fs) rfl (w_cons (w_con (w_nil (q_bX kf rfl kf.b3 (w_nil ⟨by show 3 ≤ sizeLine; omega, ?_⟩))))))))
 simp only [List.set_cons_zero, List.set_cons_succ]
 refine w_seq (w_set (w_lst (w_cons (w_cb (w_cons (w_var (x := .exn a d fs) rfl (w_cons (w_con (w_nil (q_bX kf rfl kf.o1 ?_))))))))))
 refine w_cons (w_cb (w_cons (w_var (x := .exn a d fs) rfl (w_cons (w_con (w_nil (q_bX kf rfl kf.o2 ?_)))))))
 refine w_cons (w_cb (w_cons (w_var (x := .exn a d fs) rfl (w_cons (w_con (w_nil (q_bX kf rfl kf.o3 (w_nil ⟨by show 3 ≤ sizeLine; omega, ?_⟩))))))))
 simp only [List.set_cons_zero, List.set_cons_succ]
 obtain ⟨x1, hx1⟩ : ∃ b, decide (n < 13) = b := ⟨_, rfl⟩
 obtain ⟨x2, hx2⟩ : ∃ b, (decide (12 < n) && decide (n < 19)) = b := ⟨_, rfl⟩
 obtain ⟨x3, hx3⟩ : ∃ b, decide (18 < n) = b := ⟨_, rfl⟩
 rw [hx1, hx2, hx3]
 refine w_seq (w_if (w_bl (w_op (w_cntB (w_var (x := .lst ((kinds n).map .bl)) rfl ⟨⟨_, rfl⟩, w_con ⟨kinds n, true, rfl, rfl, w_con ?_⟩⟩)))))
 rw [kinds_count n lt]
 refine show rEqP true (.int 1) (.int 1) _ from q_neSame (d := .int 1) rfl rfl (q_iteF (w_next ?_))
 dsimp only
 refine w_seq (w_set (show tIdxDP _ _ _ _ from w_var (x := .lst ((kinds n).map .bl)) rfl ⟨⟨_, rfl⟩, w_con ⟨.bool true, (kinds n).map .bool, n, .bool true, toD_bls _, rfl, shaped_bls _, rfl, kinds_get lt, rfl, fun m z hm e => kinds_no lt hm e, ?_⟩⟩))
 simp only [List.set_cons_zero, List.set_cons_succ]
 refine w_seq (w_if (w_or (w_bl (w_op (w_var (x := .lst ([x1, x2, x3].map .bl)) rfl (w_lst (w_cons (w_op (w_var (x := .int (n : Int)) rfl (w_con (q_lt ?_)))))))))))
 have g1 : decide ((n : Int) < 13) = x1 := by rw [← hx1]; exact decide_eq_decide.mpr (by omega)
 have g3 : decide ((18 : Int) < (n : Int)) = x3 := by rw [← hx3]; exact decide_eq_decide.mpr (by omega)
 rw [g1]
 have sh := shaped_bls [x1, x2, x3]
 have td := toD_bls [x1, x2, x3]
 have word : kindWords[n]? = some (kindW n) := by
  unfold kindW
  have : n < kindWords.length := lt
  rw [List.getD_eq_getElem?_getD, List.getElem?_eq_getElem this]; rfl
 refine w_cons (w_chain (w_con (w_var (x := .int (n : Int)) rfl (q_lt ⟨_, rfl, ?_⟩))))
 refine cut_mid hx2 ?_
 refine w_cons (w_op (w_var (x := .int (n : Int)) rfl (w_con (q_gt ?_))))
 rw [g3]
 refine w_nil ⟨by show 3 ≤ sizeLine; omega, ?_⟩
 refine q_neSame (x := .lst ([x1, x2, x3].map .bl)) td sh (q_iteF ?_)
 refine w_bl (w_op (w_var (x := .lst ([x1, x2, x3].map .bl)) rfl (w_var (x := .lst ([x1, x2, x3].map .bl)) rfl (q_neSame td sh (q_iteF (w_next ?_))))))
 dsimp only
 refine w_seq (w_set (w_con ?_))
 simp only [List.set_cons_zero, List.set_cons_succ]
 refine w_seq (w_set (w_op (w_var rfl (w_con (q_addS (by decide +kernel) ?_)))))
 simp only [List.set_cons_zero, List.set_cons_succ]
 refine w_ret (w_op (w_splitX (w_var rfl ⟨⟨_, rfl⟩, w_con ⟨_, _, rfl, rfl, by decide +kernel, by decide +kernel, w_var (x := .int (n : Int)) rfl ?_⟩⟩)))
 rw [split_kinds]
 refine q_ix (x := .str (kindW n)) ?_ hp
 have := at_map (f := PV.str) (xs := kindWords) (j := (n : Int)) ("" : Str) (by omega) (by show (n : Int) < 22; omega)
 rw [this, Int.toNat_natCast]; rfl
theorem fld_some {n : Nat} {f : Str} {fs : List (Str × PV)} {ys : List PV} (h : FldF K Ca n d fs ys) (hf : kindFields[n]? = some (some f)) : ∃ y, fs = [(f, y)] ∧ ys = [y] ∧ XfN K Ca f ∧ d.isSome = true := by
 rcases h with ⟨f', y, h1, h2, h3, h4, h5⟩ | ⟨h1, _⟩
 ·rw [hf] at h1
  cases h1
  exact ⟨y, h2, h3, h4, h5⟩
 ·rw [hf] at h1
  cases h1
theorem w_xfX {te : TEp} {η : EP'} {P : PV → EP' → Prop} {f : Str} (h : te η fun x η1 => ∃ fs C y, x = .exn a d fs ∧ cls = .ref C ∧ XfN K C f ∧ d.isSome ∧ fs.lookup f = some y ∧ P y η1) : tXfP K a cls d f te η P := h
theorem fld_one {n : Nat} {f : Str} {fs : List (Str × PV)} {ys : List PV} {R : PV → EP' → Prop} {η : EP'} (h : FldF K Ca n d fs ys) (hf : kindFields[n]? = some (some f)) (e : η[0]? = some (.va (.exn a d fs))) (hR : R (.lst ys) η) : tLstP (tConsP (tXfP K a (.ref Ca) d f (tVarP 0)) tNilP) η R := by
 obtain ⟨y, rfl, rfl, hx, hd⟩ := fld_some h hf
 refine w_lst (w_cons (w_xfX (w_var (x := .exn a d [(f, y)]) e ⟨_, Ca, y, rfl, rfl, hx, hd, by simp [List.lookup], w_nil ⟨by show 1 ≤ sizeLine; decide, hR⟩⟩)))
theorem rd_law_other_fields (h : sp_law_other_fields K C XC a cls d args P) : ts_law_other_fields K C XC a cls d { nx := fun _ => P .non, rt := fun x _ => P x } (startP 1 args) := by
 obtain ⟨Ca, fs, n, ys, rfl, rfl, kf, hf, hn, hp⟩ := h
 have e : startP 1 [.exn a d fs] = [.va (.exn a d fs)] := rfl
 rw [e]
 refine w_seq (w_if (w_bl (w_cb (w_cons (w_var (x := .exn a d fs) rfl (w_cons (w_con (w_nil (q_kX kf 3 _ rfl ?_)))))))))
 by_cases c : 3 = n
 ·rw [decide_eq_true c]
  subst c
  exact q_iteT (w_ret (fld_one hf rfl rfl hp))
 rw [decide_eq_false c]
 refine q_iteF (w_next ?_)
 dsimp only
 refine w_seq (w_if (w_bl (w_cb (w_cons (w_var (x := .exn a d fs) rfl (w_cons (w_con (w_nil (q_kX kf 8 _ rfl ?_)))))))))
 by_cases c8 : 8 = n
 ·rw [decide_eq_true c8]
  subst c8
  exact q_iteT (w_ret (fld_one hf rfl rfl hp))
 rw [decide_eq_false c8]
 refine q_iteF (w_next ?_)
 dsimp only
 refine w_seq (w_if (w_bl (w_cb (w_cons (w_var (x := .exn a d fs) rfl (w_cons (w_con (w_nil (q_kX kf 9 _ rfl ?_)))))))))
 by_cases c9 : 9 = n
 ·rw [decide_eq_true c9]
  subst c9
  exact q_iteT (w_ret (fld_one hf rfl rfl hp))
 rw [decide_eq_false c9]
 refine q_iteF (w_next ?_)
 dsimp only
 refine w_ret (w_ife (w_bl (w_cb (w_cons (w_var (x := .exn a d fs) rfl (w_cons (w_con (w_nil (q_kX kf 11 _ rfl ?_)))))))))
 by_cases c11 : 11 = n
 ·rw [decide_eq_true c11]
  subst c11
  exact q_iteT (fld_one hf rfl rfl hp)
 rw [decide_eq_false c11]
 refine q_iteF (w_lst (w_nil ⟨by show 0 ≤ sizeLine; omega, ?_⟩))
 have h0 : ys = [] := by
  simp only [List.mem_cons, List.not_mem_nil, or_false] at hn
  rcases hf with ⟨f, y, h1, _⟩ | ⟨_, _, h3⟩
  ·rcases hn with z | z | z | z | z | z
   ·exact absurd z.symm c
   ·exact absurd z.symm c8
   ·exact absurd z.symm c9
   ·exact absurd z.symm c11
   ·subst z; cases h1
   ·subst z; cases h1
  ·exact h3
 rw [h0] at hp
 exact hp
theorem rd_law_fields (h : sp_law_fields K C XC a cls d args P) : ts_law_fields K C XC a cls d { nx := fun _ => P .non, rt := fun x _ => P x } (startP 1 args) := by
 obtain ⟨Ca, fs, n, ys, rfl, rfl, kf, hf, hp⟩ := h
 have e : startP 1 [.exn a d fs] = [.va (.exn a d fs)] := rfl
 rw [e]
 have sz : 1000 < sizeLine := by decide
 refine w_seq (w_if (w_bl (w_cb (w_cons (w_var (x := .exn a d fs) rfl (w_cons (w_tup (w_cons (w_con (w_cons (w_con (w_cons (w_con (w_cons (w_con (w_cons (w_con (w_nil ⟨by show 5 ≤ sizeLine; omega, w_nil (q_aX kf [1, 5, 6, 7, 10] (by decide) rfl ?_)⟩))))))))))))))))))
 by_cases c0 : n ∈ [1, 5, 6, 7, 10]
 ·rw [decide_eq_true c0]
  have hk : kindFields[n]? = some (some ("index" : Str)) := by
   simp only [List.mem_cons, List.not_mem_nil, or_false] at c0
   rcases c0 with rfl | rfl | rfl | rfl | rfl <;> rfl
  exact q_iteT (w_ret (fld_one hf hk rfl hp))
 rw [decide_eq_false c0]
 refine q_iteF (w_next ?_)
 dsimp only
 refine w_seq (w_if (w_bl (w_cb (w_cons (w_var (x := .exn a d fs) rfl (w_cons (w_tup (w_cons (w_con (w_cons (w_con (w_cons (w_con (w_nil ⟨by show 3 ≤ sizeLine; omega, w_nil (q_aX kf [19, 20, 21] (by decide) rfl ?_)⟩))))))))))))))
 by_cases c1 : n ∈ [19, 20, 21]
 ·rw [decide_eq_true c1]
  have hk : kindFields[n]? = some (some ("found" : Str)) := by
   simp only [List.mem_cons, List.not_mem_nil, or_false] at c1
   rcases c1 with rfl | rfl | rfl <;> rfl
  exact q_iteT (w_ret (fld_one hf hk rfl hp))
 rw [decide_eq_false c1]
 refine q_iteF (w_next ?_)
 dsimp only
 refine w_seq (w_if (w_bl (w_cb (w_cons (w_var (x := .exn a d fs) rfl (w_cons (w_tup (w_cons (w_con (w_cons (w_con (w_cons (w_con (w_nil ⟨by show 3 ≤ sizeLine; omega, w_nil (q_aX kf [2, 15, 16] (by decide) rfl ?_)⟩))))))))))))))
 by_cases c2 : n ∈ [2, 15, 16]
 ·rw [decide_eq_true c2]
  have hk : kindFields[n]? = some (some ("name" : Str)) := by
   simp only [List.mem_cons, List.not_mem_nil, or_false] at c2
   rcases c2 with rfl | rfl | rfl <;> rfl
  exact q_iteT (w_ret (fld_one hf hk rfl hp))
 rw [decide_eq_false c2]
 refine q_iteF (w_next ?_)
 dsimp only
 refine w_seq (w_if (w_bl (w_cb (w_cons (w_var (x := .exn a d fs) rfl (w_cons (w_tup (w_cons (w_con (w_cons (w_con (w_cons (w_con (w_nil ⟨by show 3 ≤ sizeLine; omega, w_nil (q_aX kf [4, 13, 14] (by decide) rfl ?_)⟩))))))))))))))
 by_cases c3 : n ∈ [4, 13, 14]
 ·rw [decide_eq_true c3]
  have hk : kindFields[n]? = some (some ("station" : Str)) := by
   simp only [List.mem_cons, List.not_mem_nil, or_false] at c3
   rcases c3 with rfl | rfl | rfl <;> rfl
  exact q_iteT (w_ret (fld_one hf hk rfl hp))
 rw [decide_eq_false c3]
 refine q_iteF (w_next ?_)
 dsimp only
 refine w_seq (w_if (w_bl (w_cb (w_cons (w_var (x := .exn a d fs) rfl (w_cons (w_tup (w_cons (w_con (w_cons (w_con (w_nil ⟨by show 2 ≤ sizeLine; omega, w_nil (q_aX kf [0, 12] (by decide) rfl ?_)⟩))))))))))))
 by_cases c4 : n ∈ [0, 12]
 ·rw [decide_eq_true c4]
  have hk : kindFields[n]? = some (some ("value" : Str)) := by
   simp only [List.mem_cons, List.not_mem_nil, or_false] at c4
   rcases c4 with rfl | rfl <;> rfl
  exact q_iteT (w_ret (fld_one hf hk rfl hp))
 rw [decide_eq_false c4]
 refine q_iteF (w_next ?_)
 dsimp only
 refine w_ret (w_call (w_cons (w_var (x := .exn a d fs) rfl (w_nil ⟨Ca, fs, n, ys, rfl, rfl, kf, hf, ?_, hp⟩))))
 have := kf.lt
 simp only [List.mem_cons, List.not_mem_nil, or_false] at c0 c1 c2 c3 c4 ⊢
 omega
theorem caught_ok {K : PySem.W.Frag} {C Ca : Addr} {XC : Str → Addr} {n : Nat} {f e : Addr} {d : Option Addr} {fs : List (Str × PV)} {ys : List PV} {D : EndsP} (kf : KindF K XC Ca n) (hf : FldF K Ca n d fs ys) (hl : ys.length ≤ 1000) (h : ∀ η, D.rt (.lst (.str (kindW n) :: ys)) η) : ts_law_caught K C XC e (.ref Ca) d D (ηZ f e d fs) := by
 have sz : 2000 < sizeLine := by decide
 refine w_ret (w_op (w_lst (w_cons (w_call (w_cons (w_var (x := .exn e d fs) rfl (w_nil ⟨Ca, fs, n, rfl, rfl, kf, w_nil ⟨by show 1 ≤ sizeLine; omega, ?_⟩⟩)))))))
 refine w_call (w_cons (w_var (x := .exn e d fs) rfl (w_nil ⟨Ca, fs, n, ys, rfl, rfl, kf, hf, q_addLL (by show 1 + ys.length ≤ sizeLine; omega) ?_⟩)))
 exact h _
end
end Z
namespace L2N
open PySem PySem.Spec PyProof.Rows L2
end L2N
namespace ZX
open PySem PySem.Spec PyProof.Rows L2
end ZX
namespace Z
open PySem PySem.Spec L2
open PyProof.Rows hiding St
section
variable {X : Cx} {T : List (Addr × Str)} {W : WXs} {a b e o : Expr} {es : List Expr} {te ta tb : TEp} {t : TAp} {tf : TFp} {pos pos' p apos cpos np : Pos} {k : Nat} {f C : Addr} {fd : FuncData} {ps : List Str} {sp : SpX} {sr : SpRX} {x m : Str}
end
structure FunC (K : PySem.W.Frag) (x qual : Str) (st : Stmt) (c f : Addr) (fd : FuncData) : Prop where
 ex : ∃ (oc : Value) (od : Option Addr) (kV doc pm : Value) (an : Option Addr) (ct : Value) (osl : Array (Option Value)),
  fd = PySem.W.fnOf x qual (defArgs st) (defBody st) (defScope st) .none kV doc pm an (.ref c) ct ∧ K.lookup f = some ⟨oc, od, .func fd, osl⟩ ∧ PySem.W.codeIn K (.ref c) qual = true
 kp : PySem.W.keepIn K (.ref f) = true
section
variable {P : Program} {w : World} {K : PySem.W.Frag} {mg : Str → Option Value} {base : Heap} {T : List (Addr × Str)}
theorem FunC.fn {x qual : Str} {st : Stmt} {c f : Addr} {fd : FuncData} (F : FunC K x qual st c f fd) : Fun K x qual st f fd := by
 obtain ⟨oc, od, kV, doc, pm, an, ct, osl, h1, h2, h3⟩ := F.ex
 exact ⟨⟨oc, od, kV, doc, pm, an, .ref c, ct, osl, h1, h2, h3⟩, F.kp⟩
end
def kindB (K : PySem.W.Frag) (C : Addr) (cs : List Addr) (sS sT sZ : Addr) (n : Nat) : Bool :=
 decide (n < 22) && ((cs.zip (List.range 22)).all (fun p => decide (PySem.W.kitOne K (.ref C) (.ref p.1) = some (decide (p.2 = n)))) && (decide (PySem.W.kitOne K (.ref C) (.ref sS) = some (decide (n < 13))) && (decide (PySem.W.kitOne K (.ref C) (.ref sT) = some (decide (12 < n) && decide (n < 19))) && (decide (PySem.W.kitOne K (.ref C) (.ref sZ) = some (decide (18 < n))) &&
 (decide (PySem.W.kitOne K (.ref C) (.type "ValueError") = some (decide (n < 13))) && (decide (PySem.W.kitOne K (.ref C) (.type "LookupError") = some (decide (12 < n) && decide (n < 19))) && decide (PySem.W.kitOne K (.ref C) (.type "ArithmeticError") = some (decide (18 < n)))))))))
theorem kindF_of {K : PySem.W.Frag} {XC : Str → Addr} {C : Addr} {cs : List Addr} {sS sT sZ : Addr} {n : Nat} (h : kindB K C cs sS sT sZ n = true) (e : L2.ExcC K C) (hx : kindNames.map XC = cs) (h1 : XC ("SeatError" : Str) = sS) (h2 : XC ("StateError" : Str) = sT) (h3 : XC ("SizeError" : Str) = sZ) : KindF K XC C n := by
 unfold kindB at h
 simp only [Bool.and_eq_true, decide_eq_true_eq] at h
 obtain ⟨a1, a2, a3, a4, a5, a6, a7, a8⟩ := h
 subst hx h1 h2 h3
 refine ⟨e, a1, fun j s hj => ?_, a3, a4, a5, a6, a7, a8⟩
 have jl : j < 22 := (List.getElem?_eq_some_iff.mp hj).1
 have hm : (XC s, j) ∈ (kindNames.map XC).zip (List.range 22) := by
  refine List.mem_of_getElem? (i := j) ?_
  rw [List.getElem?_zip_eq_some]
  exact ⟨by rw [List.getElem?_map, hj]; rfl, by rw [List.getElem?_range jl]⟩
 have := List.all_eq_true.mp a2 _ hm
 exact of_decide_eq_true this
def keyD : Key → PyData
 | .inl i => .int i
 | .inr x => .str x
def toKv : List (Key × PV) → Option (List (PyData × PyData))
 | [] => some []
 | (k, x) :: r => match toD x, toKv r with
  | some d, some ds => some ((keyD k, d) :: ds)
  | _, _ => none
mutual
def toE : PV → Option PyData
 | .non => some .none
 | .bl b => some (.bool b)
 | .int i => some (.int i)
 | .str x => some (.str x)
 | .tup xs => (toEs xs).map .tuple
 | .lst xs => (toEs xs).map .list
 | .pln xs => (toEs xs).map .tuple
 | .dic kvs => (toKv kvs).map .dict
 | .scr _ => none
 | .ins _ _ => none
 | .raw _ => none
 | .exn _ _ _ => none
def toEs : List PV → Option (List PyData)
 | [] => some []
 | x :: xs => match toE x, toEs xs with
  | some d, some ds => some (d :: ds)
  | _, _ => none
end
theorem toEs_cons {x : PV} {xs : List PV} {ds : List PyData} (h : toEs (x :: xs) = some ds) : ∃ d r, ds = d :: r ∧ toE x = some d ∧ toEs xs = some r := by
 unfold toEs at h
 split at h
 ·rename_i d r h1 h2
  cases h
  exact ⟨d, r, rfl, h1, h2⟩
 ·cases h
theorem toKv_cons {k : Key} {x : PV} {xs : List (Key × PV)} {ds : List (PyData × PyData)} (h : toKv ((k, x) :: xs) = some ds) : ∃ d r, ds = (keyD k, d) :: r ∧ toD x = some d ∧ toKv xs = some r := by
 unfold toKv at h
 split at h
 ·rename_i d r h1 h2
  cases h
  exact ⟨d, r, rfl, h1, h2⟩
 ·cases h
mutual
theorem noDict_toD : ∀ (x : PV) (d : PyData), toD x = some d → d.hasDict = false
 | .non, _, e => by unfold toD at e; cases e; simp only [PyData.hasDict]
 | .bl _, _, e => by unfold toD at e; cases e; simp only [PyData.hasDict]
 | .int _, _, e => by unfold toD at e; cases e; simp only [PyData.hasDict]
 | .str _, _, e => by unfold toD at e; cases e; simp only [PyData.hasDict]
 | .tup xs, _, e => by
  unfold toD at e
  obtain ⟨ds, q, rfl⟩ := Option.map_eq_some_iff.mp e
  simp only [PyData.hasDict]; exact noDict_toDs xs ds q
 | .lst xs, _, e => by
  unfold toD at e
  obtain ⟨ds, q, rfl⟩ := Option.map_eq_some_iff.mp e
  simp only [PyData.hasDict]; exact noDict_toDs xs ds q
 | .pln xs, _, e => by
  unfold toD at e
  obtain ⟨ds, q, rfl⟩ := Option.map_eq_some_iff.mp e
  simp only [PyData.hasDict]; exact noDict_toDs xs ds q
 | .scr _, _, e => by unfold toD at e; cases e
 | .ins _ _, _, e => by unfold toD at e; cases e
 | .dic _, _, e => by unfold toD at e; cases e
 | .raw _, _, e => by unfold toD at e; cases e
 | .exn _ _ _, _, e => by unfold toD at e; cases e
theorem noDict_toDs : ∀ (xs : List PV) (ds : List PyData), toDs xs = some ds → PyData.hasDictAll ds = false
 | [], _, e => by unfold toDs at e; cases e; simp only [PyData.hasDictAll]
 | x :: xs, _, e => by
  obtain ⟨d, ds, rfl, h1, h2⟩ := toDs_cons e
  simp only [PyData.hasDictAll, noDict_toD x d h1, noDict_toDs xs ds h2, Bool.or_self]
end
structure Shown (P : Program) (w : World) (h : Heap) (u : Value) (d : PyData) : Prop where
 ex : ∃ as bs, Reads h u d as ∧ ReadAtMost h d.depth bs ∧ ReprK P w bs h d.depth u d.shown
structure ShownAll (P : Program) (w : World) (h : Heap) (us : List Value) (ds : List PyData) : Prop where
 ex : ∃ as bs, ReadsAll h us ds as ∧ ReadAtMost h (PyData.depthAll ds) bs ∧ ReprAllK P w bs h (PyData.depthAll ds) us (PyData.shownAll ds)
section
variable {P : Program} {w : World} {h : Heap}
theorem shown_flat {u : Value} {d : PyData} {as : List Addr} (r : Reads h u d as) (hd : d.hasDict = false) (hs : d.showable = true) (hz : d.shown.length ≤ sizeLine) : Shown P w h u d :=
 let ⟨bs, b1, b2⟩ := ReprK.of_reads (prog := P) (w := w) r hs (PyData.noDict_hsm hd) hz
 ⟨as, bs, r, b1, b2⟩
theorem ShownAll.cons {u : Value} {us : List Value} {d : PyData} {ds : List PyData} (a : Shown P w h u d) (b : ShownAll P w h us ds) : ShownAll P w h (u :: us) (d :: ds) := by
 obtain ⟨as, bs, r1, m1, k1⟩ := a.ex
 obtain ⟨cs, es, r2, m2, k2⟩ := b.ex
 have l1 : d.depth ≤ PyData.depthAll (d :: ds) := by simp only [PyData.depthAll]; omega
 have l2 : PyData.depthAll ds ≤ PyData.depthAll (d :: ds) := by simp only [PyData.depthAll]; omega
 refine ⟨as ++ cs, bs ++ es, .cons r1 r2, (m1.mono l1).append (m2.mono l2), ?_⟩
 rw [PyData.shownAll]
 exact .cons ((k1.more fun b z => List.mem_append.mpr (.inl z)).level_le l1) (k2.more_le (fun b z => List.mem_append.mpr (.inr z)) l2)
theorem shown_list {a : Addr} {o : Obj} {vs : List Value} {n : Nat} {ds : List PyData} (ho : h.get? a = some o) (hc : o.cls = .type "list") (hd : o.data = .seq vs.toArray n) (q : ShownAll P w h vs ds) : Shown P w h (.ref a) (.list ds) := by
 obtain ⟨as, bs, r, m, k⟩ := q.ex
 have rr : Reads h (.ref a) (.list ds) (a :: as) := .list ho hc hd r
 have lt : PyData.depthAll ds < (PyData.list ds).depth := by simp only [PyData.depth]; omega
 have nin := not_mem_of_deeper rr lt m
 refine ⟨_, a :: bs, rr, ReadAtMost.cons rr (Nat.le_of_lt lt) m, ?_⟩
 rw [PyData.depth, PyData.shown]
 cases vs with
 | nil =>
  cases r
  rw [PyData.shownAll, listText_nil]
  exact ReprK.listEmpty ho hc hd
 | cons v vs => exact ReprK.list ho hc hd nin (by rw [k.length_eq]; rfl) fun i y e => k.item i y (by simpa using e)
theorem shown_tup {a : Addr} {o : Obj} {vs : List Value} {n : Nat} {ds : List PyData} (ho : h.get? a = some o) (hc : o.cls = .type "tuple") (hd : o.data = .seq vs.toArray n) (q : ShownAll P w h vs ds) : Shown P w h (.ref a) (.tuple ds) := by
 obtain ⟨as, bs, r, m, k⟩ := q.ex
 have rr : Reads h (.ref a) (.tuple ds) as := .tuple ho hc hd r
 have lt : PyData.depthAll ds < (PyData.tuple ds).depth := by simp only [PyData.depth]; omega
 have nin := not_mem_of_deeper rr lt m
 refine ⟨_, a :: bs, rr, ReadAtMost.cons rr (Nat.le_of_lt lt) m, ?_⟩
 rw [PyData.depth, PyData.shown]
 exact ReprK.tuple ho hc hd nin k
end
structure DShow (P : Program) (w : World) (h : Heap) (es : List DictEntry) (kvs : List (PyData × PyData)) : Prop where
 ex : ∃ as bs cs, ReadsAll h (es.map (·.key)) (kvs.map (·.1)) as ∧ ReadsAll h (es.map (·.val)) (kvs.map (·.2)) bs ∧ ReadAtMost h (PyData.depthKv kvs) cs ∧ ReprEntriesK P w cs h (PyData.depthKv kvs) es (PyData.shownKv kvs)
section
variable {X : Cx} {pins : List (Addr × Obj)} {σ : L2.St} {H : Hp} {s : Shared} {O : Addr → Prop}
theorem kv_reads (I : Inv X pins σ H s) : ∀ {kvs : List (Key × PV)} {ws : List (Key × V)} {vs : List (Key × Value)} {es : List DictEntry} {ds : List (PyData × PyData)}, RepD X.K O H kvs ws → KV ws vs → Pairs (mixKind X.prog X.w) es vs → toKv kvs = some ds →
  ∃ as bs, ReadsAll s.heap (es.map (·.key)) (ds.map (·.1)) as ∧ ReadsAll s.heap (es.map (·.val)) (ds.map (·.2)) bs ∧ PyData.hasDictAll (ds.map (·.1)) = false ∧ PyData.hasDictAll (ds.map (·.2)) = false
 | [], _, _, _, _, r, k, p, e => by
  rw [r.inv0] at k
  cases k
  cases p
  unfold toKv at e
  cases e
  exact ⟨[], [], .nil, .nil, by simp only [List.map_nil, PyData.hasDictAll], by simp only [List.map_nil, PyData.hasDictAll]⟩
 | (n, x) :: kvs, _, _, _, _, r, k, p, e => by
  obtain ⟨v, us, rfl, r1, r2⟩ := r.inv
  obtain ⟨d, ds, rfl, h1, h2⟩ := toKv_cons e
  cases k with
  | cons hk k2 =>
   rename_i q vs
   cases p with
   | cons pk pv p2 =>
    rename_i en es
    obtain ⟨as, bs, q1, q2, q3, q4⟩ := kv_reads I r2 k2 p2 h2
    obtain ⟨cs, rd⟩ := Dp.reads I d v q.2 (Rep.dp _ _ _ r1 h1) hk.2
    have rk : Reads s.heap en.key (keyD n) [] := by
     have e1 : q.1 = n := hk.1.symm
     rw [e1] at pk
     rcases keyIs_shape pk with ⟨i, t, rfl, e2⟩ | ⟨y, t, rfl, e2⟩
     ·rw [e2]; exact .int _ _
     ·rw [e2]; exact .str _ _
    have nk : (keyD n).hasDict = false := by cases n <;> simp only [keyD, PyData.hasDict]
    refine ⟨_, _, ReadsAll.cons rk q1, ReadsAll.cons (by show Reads _ en.val _ _; rw [pv]; exact rd) q2, ?_, ?_⟩
    ·simp only [List.map_cons, PyData.hasDictAll, nk, q3, Bool.or_self]
    ·simp only [List.map_cons, PyData.hasDictAll, noDict_toD x d h1, q4, Bool.or_self]
theorem dshow (I : Inv X pins σ H s) {kvs : List (Key × PV)} {ws : List (Key × V)} {vs : List (Key × Value)} {es : List DictEntry} {ds : List (PyData × PyData)} (r : RepD X.K O H kvs ws) (k : KV ws vs) (p : Pairs (mixKind X.prog X.w) es vs) (e : toKv kvs = some ds)
  (hs : PyData.showableKv ds = true) (hz : (dictText (PyData.shownKv ds)).length ≤ sizeLine) : DShow X.prog X.w s.heap es ds := by
 obtain ⟨as, bs, r1, r2, n1, n2⟩ := kv_reads I r k p e
 obtain ⟨s1, s2⟩ := PyData.showableKv_split ds hs
 have z1 : ∀ t ∈ PyData.shownAll (ds.map (·.1)), t.length ≤ sizeLine := fun t ht => by
  obtain ⟨p, hp, hl⟩ := PyData.shownKv_key_le ds t ht
  exact Nat.le_trans hl (Nat.le_trans (dictText_mem_le hp) hz)
 have z2 : ∀ t ∈ PyData.shownAll (ds.map (·.2)), t.length ≤ sizeLine := fun t ht => by
  obtain ⟨p, hp, hl⟩ := PyData.shownKv_val_le ds t ht
  exact Nat.le_trans hl (Nat.le_trans (dictText_mem_le hp) hz)
 obtain ⟨b1, m1, k1⟩ := ReprAllK.of_readsAll (prog := X.prog) (w := X.w) r1 s1 (fun z => by rw [n1] at z; cases z) z1
 obtain ⟨b2, m2, k2⟩ := ReprAllK.of_readsAll (prog := X.prog) (w := X.w) r2 s2 (fun z => by rw [n2] at z; cases z) z2
 refine ⟨as, bs, b1 ++ b2, r1, r2, (m1.mono (PyData.depthAll_keys_le ds)).append (m2.mono (PyData.depthAll_vals_le ds)), ?_⟩
 rw [PyData.shownKv_eq]
 exact ReprEntriesK.of_two es _ _ (k1.more_le (fun b z => List.mem_append.mpr (.inl z)) (PyData.depthAll_keys_le ds)) (k2.more_le (fun b z => List.mem_append.mpr (.inr z)) (PyData.depthAll_vals_le ds))
theorem dic_obj (I : Inv X pins σ H s) {kvs : List (Key × PV)} {v : V} {u : Value} {ds : List (PyData × PyData)} (r : Rep X.K O H (.dic kvs) v) (ru : RelV v u) (e : toKv kvs = some ds) (hs : PyData.showableKv ds = true) (hz : (dictText (PyData.shownKv ds)).length ≤ sizeLine) :
  ∃ (a : Addr) (o : Obj) (es : Array DictEntry) (n : Nat), u = .ref a ∧ s.heap.get? a = some o ∧ o.cls = .type "dict" ∧ o.data = .dict es n ∧ (a == sysModules) = false ∧ DShow X.prog X.w s.heap es.toList ds := by
 obtain ⟨a, ws, rfl, _, ha, rd⟩ := r.dic_
 cases ru
 obtain ⟨_, hsys, vs, kv, o, es, ep, ho, hc, hd, _, hp, _⟩ := I.hok a _ ha
 exact ⟨a, o, es, ep, rfl, ho, hc.1, hd, hsys, dshow I rd kv hp e hs hz⟩
mutual
theorem Rep.shown (I : Inv X pins σ H s) : ∀ (x : PV) (v : V) (u : Value) (d : PyData), Rep X.K O H x v → RelV v u → toE x = some d → d.showable = true → d.shown.length ≤ sizeLine → Shown X.prog X.w s.heap u d
 | .non, v, u, _, r, ru, e, hs, hz => by
  unfold toE at e; cases e
  obtain ⟨as, rd⟩ := Dp.reads I _ v u (Rep.dp _ _ _ r (by unfold toD; rfl)) ru
  exact shown_flat rd (by simp only [PyData.hasDict]) hs hz
 | .bl _, v, u, _, r, ru, e, hs, hz => by
  unfold toE at e; cases e
  obtain ⟨as, rd⟩ := Dp.reads I _ v u (Rep.dp _ _ _ r (by unfold toD; rfl)) ru
  exact shown_flat rd (by simp only [PyData.hasDict]) hs hz
 | .int _, v, u, _, r, ru, e, hs, hz => by
  unfold toE at e; cases e
  obtain ⟨as, rd⟩ := Dp.reads I _ v u (Rep.dp _ _ _ r (by unfold toD; rfl)) ru
  exact shown_flat rd (by simp only [PyData.hasDict]) hs hz
 | .str _, v, u, _, r, ru, e, hs, hz => by
  unfold toE at e; cases e
  obtain ⟨as, rd⟩ := Dp.reads I _ v u (Rep.dp _ _ _ r (by unfold toD; rfl)) ru
  exact shown_flat rd (by simp only [PyData.hasDict]) hs hz
 | .lst xs, v, u, _, r, ru, e, hs, hz => by
  unfold toE at e
  obtain ⟨ds, q, rfl⟩ := Option.map_eq_some_iff.mp e
  obtain ⟨a, vs, rfl, n, t, rr⟩ := r.lst_
  cases ru
  obtain ⟨its, rv, ⟨o, n', ho, hc, _, hd⟩, _⟩ := I.list (SqL.of t)
  rw [PyData.shown] at hz
  exact shown_list ho hc hd (Reps.shown I xs vs its ds rr rv q (by simpa [PyData.showable] using hs) fun t ht => Nat.le_trans (listText_mem_le ht) hz)
 | .tup xs, v, u, _, r, ru, e, hs, hz => by
  unfold toE at e
  obtain ⟨ds, q, rfl⟩ := Option.map_eq_some_iff.mp e
  obtain ⟨a, vs, rfl, t, rr⟩ := r.tup_
  cases ru
  obtain ⟨its, rv, ⟨o, ho, hc, n', hd⟩, _⟩ := I.tuple t.sq
  rw [PyData.shown] at hz
  exact shown_tup ho hc hd (Reps.shown I xs vs its ds rr rv q (by simpa [PyData.showable] using hs) fun t ht => Nat.le_trans (tupleText_mem_le ht) hz)
 | .pln xs, v, u, _, r, ru, e, hs, hz => by
  unfold toE at e
  obtain ⟨ds, q, rfl⟩ := Option.map_eq_some_iff.mp e
  have h' := r.wkV
  unfold wkV at h'
  obtain ⟨a, vs, rfl, t, rr⟩ := h'.tup_
  cases ru
  obtain ⟨its, rv, ⟨o, ho, hc, n', hd⟩, _⟩ := I.tuple t.sq
  rw [PyData.shown] at hz
  exact shown_tup ho hc hd (Reps.shown I xs vs its ds rr rv q (by simpa [PyData.showable] using hs) fun t ht => Nat.le_trans (tupleText_mem_le ht) hz)
 | .dic kvs, v, u, _, r, ru, e, hs, hz => by
  unfold toE at e
  obtain ⟨ds, q, rfl⟩ := Option.map_eq_some_iff.mp e
  rw [PyData.shown] at hz
  obtain ⟨a, o, es, n, rfl, ho, hc, hd, hsys, ⟨as, bs, cs, r1, r2, m, k⟩⟩ := dic_obj I r ru q (by simpa [PyData.showable] using hs) hz
  have rr : Reads s.heap (.ref a) (.dict ds) _ := .dict ho hc hd r1 r2
  have lt : PyData.depthKv ds < (PyData.dict ds).depth := by simp only [PyData.depth]; omega
  refine ⟨_, a :: cs, rr, ReadAtMost.cons rr (Nat.le_of_lt lt) m, ?_⟩
  rw [PyData.depth, PyData.shown]
  exact ReprK.dict ho hc hd hsys (not_mem_of_deeper rr lt m) k
 | .scr _, _, _, _, _, _, e, _, _ => by unfold toE at e; cases e
 | .ins _ _, _, _, _, _, _, e, _, _ => by unfold toE at e; cases e
 | .raw _, _, _, _, _, _, e, _, _ => by unfold toE at e; cases e
 | .exn _ _ _, _, _, _, _, _, e, _, _ => by unfold toE at e; cases e
theorem Reps.shown (I : Inv X pins σ H s) : ∀ (xs : List PV) (vs : List V) (us : List Value) (ds : List PyData), Reps X.K O H xs vs → Vals vs us → toEs xs = some ds → PyData.showableAll ds = true → (∀ t ∈ PyData.shownAll ds, t.length ≤ sizeLine) → ShownAll X.prog X.w s.heap us ds
 | [], _, _, _, r, ru, e, _, _ => by
  rw [r.inv0] at ru
  cases ru
  unfold toEs at e; cases e
  exact ⟨[], [], .nil, (fun _ z => nomatch z), by rw [PyData.shownAll]; exact .nil⟩
 | x :: xs, _, _, _, r, ru, e, hs, hz => by
  obtain ⟨v, vs, rfl, r1, r2⟩ := r.inv
  obtain ⟨d, ds, rfl, h1, h2⟩ := toEs_cons e
  cases ru with
  | cons u1 u2 =>
   have hs' : d.showable = true ∧ PyData.showableAll ds = true := by simpa [PyData.showableAll] using hs
   rw [PyData.shownAll] at hz
   exact ShownAll.cons (Rep.shown I x v _ d r1 u1 h1 hs'.1 (hz _ List.mem_cons_self)) (Reps.shown I xs vs _ ds r2 u2 h2 hs'.2 fun t ht => hz t (List.mem_cons_of_mem _ ht))
end
end
section
variable {X : Cx}
def rReprE : R1p := fun ps P => match ps with
 | [x] => ∃ d, toE x = some d ∧ d.showable = true ∧ d.depth ≤ 60 ∧ d.shown.length ≤ sizeLine ∧ P (.str d.shown)
 | _ => False
theorem zc_reprE (hg : X.A.guards = some []) (hu : X.A.units + 64 < cLine) : CallR X (.builtin "repr") (r1 X.K rReprE) := by
 intro pins s σ H xs us Q I r h
 obtain ⟨O, ps, P, tr, hx, h, k⟩ := h
 unfold rReprE at h
 split at h
 case h_2 => cases h
 rename_i x
 obtain ⟨d, h1, h2, h4, h5, h⟩ := h
 obtain ⟨v, rfl, rp⟩ := hx.one
 obtain ⟨u, rfl, ru⟩ := vals1 r
 have q : Q (.str d.shown) H := k.str h
 have fin : ∀ h' tk tk', (∀ b o, s.heap.get? b = some o → h'.get? b = some o) → EP X pins σ Q (.str d.shown tk) { s with heap := h', toks := tk' } := fun h' tk tk' kp => ⟨.str d.shown, H, I.kept kp, ⟨_, rfl⟩, q⟩
 have flat : toD x = some d → d.hasDict = false → wpAny (model X.prog X.w) X.A (call (.builtin "repr") [u]) (EP X pins σ Q) X.xe s := fun td hn =>
  zc_repr hg hu pins s σ H [v] [u] Q I r ⟨O, [x], P, tr, hx, ⟨d, td, h2, hn, h4, h5, h⟩, k⟩
 cases x with
 | non => unfold toE at h1; cases h1; exact flat (by unfold toD; rfl) (by simp only [PyData.hasDict])
 | bl b => unfold toE at h1; cases h1; exact flat (by unfold toD; rfl) (by simp only [PyData.hasDict])
 | int b => unfold toE at h1; cases h1; exact flat (by unfold toD; rfl) (by simp only [PyData.hasDict])
 | str b => unfold toE at h1; cases h1; exact flat (by unfold toD; rfl) (by simp only [PyData.hasDict])
 | lst xs =>
  unfold toE at h1
  obtain ⟨ds, q1, rfl⟩ := Option.map_eq_some_iff.mp h1
  obtain ⟨a, vs, rfl, n, t, rr⟩ := rp.lst_
  cases ru
  obtain ⟨its, rv, ⟨o, n', ho, hc, _, hd⟩, _⟩ := I.list (SqL.of t)
  rw [PyData.shown] at h5
  simp only [PyData.shown] at fin
  rw [PyData.depth] at h4
  have sa := Reps.shown I xs vs its ds rr rv q1 (by simpa [PyData.showable] using h2) fun t ht => Nat.le_trans (listText_mem_le ht) h5
  obtain ⟨as, bs, r2, m, kk⟩ := sa.ex
  have rr2 : Reads s.heap (.ref a) (.list ds) (a :: as) := .list ho hc hd r2
  have lt : PyData.depthAll ds < (PyData.list ds).depth := by simp only [PyData.depth]; omega
  have nin := not_mem_of_deeper rr2 lt m
  refine call_repr_slot (by omega) ⟨o, ho, hc⟩ F.slot_list_repr.toG ?_
  cases its with
  | nil =>
   cases r2
   simp only [PyData.shownAll, listText_nil] at fin
   exact call_list_repr_empty ⟨o, ho, hc⟩ ho hd ⟨_, _, rfl, fin s.heap _ _ fun _ _ e => e⟩
  | cons y l =>
   exact call_list_reprK (A := X.A.in1) ho hc hd nin (by rw [kk.length_eq]; rfl) (fun i y e => kk.item i y (by simpa using e)) hg (fun b _ => Clear.nil b) (by show X.A.units + 1 + _ < cLine; omega) (fun _ _ e => e) (fun h' u tk hk => ⟨_, _, rfl, fin h' _ _ hk⟩) h5
 | tup xs =>
  unfold toE at h1
  obtain ⟨ds, q1, rfl⟩ := Option.map_eq_some_iff.mp h1
  obtain ⟨a, vs, rfl, t, rr⟩ := rp.tup_
  cases ru
  obtain ⟨its, rv, ⟨o, ho, hc, n', hd⟩, _⟩ := I.tuple t.sq
  rw [PyData.shown] at h5
  simp only [PyData.shown] at fin
  rw [PyData.depth] at h4
  have sa := Reps.shown I xs vs its ds rr rv q1 (by simpa [PyData.showable] using h2) fun t ht => Nat.le_trans (tupleText_mem_le ht) h5
  obtain ⟨as, bs, r2, m, kk⟩ := sa.ex
  have rr2 : Reads s.heap (.ref a) (.tuple ds) as := .tuple ho hc hd r2
  have lt : PyData.depthAll ds < (PyData.tuple ds).depth := by simp only [PyData.depth]; omega
  refine call_repr_slot (by omega) ⟨o, ho, hc⟩ F.slot_tuple_repr ?_
  exact call_tuple_reprK (A := X.A.in1) ho hc hd (not_mem_of_deeper rr2 lt m) kk hg (fun b _ => Clear.nil b) (by show X.A.units + 1 + _ < cLine; omega) (fun _ _ e => e) (fun h' u tk hk => ⟨_, _, rfl, fin h' _ _ hk⟩) h5
 | pln xs =>
  unfold toE at h1
  obtain ⟨ds, q1, rfl⟩ := Option.map_eq_some_iff.mp h1
  have h' := rp.wkV
  unfold wkV at h'
  obtain ⟨a, vs, rfl, t, rr⟩ := h'.tup_
  cases ru
  obtain ⟨its, rv, ⟨o, ho, hc, n', hd⟩, _⟩ := I.tuple t.sq
  rw [PyData.shown] at h5
  simp only [PyData.shown] at fin
  rw [PyData.depth] at h4
  have sa := Reps.shown I xs vs its ds rr rv q1 (by simpa [PyData.showable] using h2) fun t ht => Nat.le_trans (tupleText_mem_le ht) h5
  obtain ⟨as, bs, r2, m, kk⟩ := sa.ex
  have rr2 : Reads s.heap (.ref a) (.tuple ds) as := .tuple ho hc hd r2
  have lt : PyData.depthAll ds < (PyData.tuple ds).depth := by simp only [PyData.depth]; omega
  refine call_repr_slot (by omega) ⟨o, ho, hc⟩ F.slot_tuple_repr ?_
  exact call_tuple_reprK (A := X.A.in1) ho hc hd (not_mem_of_deeper rr2 lt m) kk hg (fun b _ => Clear.nil b) (by show X.A.units + 1 + _ < cLine; omega) (fun _ _ e => e) (fun h' u tk hk => ⟨_, _, rfl, fin h' _ _ hk⟩) h5
 | dic kvs =>
  unfold toE at h1
  obtain ⟨ds, q1, rfl⟩ := Option.map_eq_some_iff.mp h1
  rw [PyData.shown] at h5
  simp only [PyData.shown] at fin
  rw [PyData.depth] at h4
  obtain ⟨a, o, es, n, rfl, ho, hc, hd, hsys, ⟨as, bs, cs, r1, r2, m, kk⟩⟩ := dic_obj I rp ru q1 (by simpa [PyData.showable] using h2) h5
  have rr2 : Reads s.heap (.ref a) (.dict ds) _ := .dict ho hc hd r1 r2
  have lt : PyData.depthKv ds < (PyData.dict ds).depth := by simp only [PyData.depth]; omega
  refine call_repr_slot (by omega) ⟨o, ho, hc⟩ F.slot_dict_repr ?_
  exact call_dict_reprK (A := X.A.in1) ho hc hd hsys (not_mem_of_deeper rr2 lt m) kk hg (fun b _ => Clear.nil b) (by show X.A.units + 1 + _ < cLine; omega) (fun _ _ e => e) (fun h' u tk hk => ⟨_, _, rfl, fin h' _ _ hk⟩) h5
 | scr _ => unfold toE at h1; cases h1
 | ins _ _ => unfold toE at h1; cases h1
 | raw _ => unfold toE at h1; cases h1
 | exn _ _ _ => unfold toE at h1; cases h1
end
structure ShE (x : PV) (m k : Nat) : Prop where
 ex : ∃ d, toE x = some d ∧ d.showable = true ∧ d.leavesShort 61 = true ∧ d.bulk ≤ m ∧ d.depth ≤ k
structure ShEs (xs : List PV) (m k : Nat) : Prop where
 ex : ∃ ds, toEs xs = some ds ∧ PyData.showableAll ds = true ∧ PyData.leavesShortAll 61 ds = true ∧ PyData.bulkAll ds ≤ m ∧ PyData.depthAll ds ≤ k
theorem ShE.mono {x : PV} {m k m' k' : Nat} (h : ShE x m k) (hm : m ≤ m') (hk : k ≤ k') : ShE x m' k' := by
 obtain ⟨d, h1, h2, h3, h4, h5⟩ := h.ex
 exact ⟨d, h1, h2, h3, by omega, by omega⟩
theorem q_reprE {x : PV} {m k : Nat} {P : PV → Prop} (h : ShE x m k) (hm : 63 * m + 61 ≤ sizeLine) (hk : k ≤ 60) (hp : ∀ d, toE x = some d → P (.str d.shown)) : rReprE [x] P := by
 obtain ⟨d, h1, h2, h3, h4, h5⟩ := h.ex
 refine ⟨d, h1, h2, by omega, ?_, hp d h1⟩
 have := PyData.shown_le_bulk 61 (by decide) d h3
 have e : (61 + 2) * d.bulk ≤ 63 * m := Nat.mul_le_mul_left _ h4
 omega
section
variable {X : Cx} {T : List (Addr × Str)} {e : Expr} {t1 t2 : TEp}
def tEitP (t1 t2 : TEp) : TEp := fun η P => t1 η P ∨ t2 η P
theorem z_eit (h1 : PE X e (up X.K T t1)) (h2 : PE X e (up X.K T t2)) : PE X e (up X.K T (tEitP t1 t2)) := ⟨fun pins s σ H Q I q => by
 obtain ⟨F, η, P, R, h, k⟩ := q
 rcases h with h | h
 ·exact h1.run pins s σ H Q I ⟨F, η, P, R, h, k⟩
 ·exact h2.run pins s σ H Q I ⟨F, η, P, R, h, k⟩⟩
end
section
variable {prog : Program} {w : World} {K : PySem.W.Frag}
theorem objUnder_own {A : Around} {E : Value → Shared → Prop} {s : Shared} {x C f : Addr} {ox : Obj} {od : Option Obj} {b : Nat} {Q : Value → Shared → Prop} (hu : A.units < cLine) (XK : K.In s.heap) (I : PySem.W.InstAt s.heap x ox C od)
  (hs : PySem.W.findIn K (.ref C) "__repr__" = some (some (.ref f))) (hf : PySem.W.isFn K (.ref f) = true) (h : wpAny (model prog w) A (call (.ref f) [.ref x]) (PySem.W.StrBack Q) E s) : wpAny (model prog w) A (pyReprObjUnder b (.ref x)) Q E s := by
 unfold pyReprObjUnder pyReprObjBy
 refine wpAny_bind (wpAny_cRoomFor hu ?_)
 refine wpAny_bind (wpAny_bind (I.type.here ((PySem.W.looks_findIn XK hs).here ?_)))
 show wpAny _ _ (if (some (Value.ref f)).isNone = true then _ else _) _ _ _
 rw [if_neg (by simp)]
 have back : ∀ (v : Value) (s' : Shared), PySem.W.StrBack Q v s' → wpAny (model prog w) A (do if ← isInstance v (.type "str") then pure v else raiseError "TypeError" s!"__repr__ returned non-string (type {← typeNameOf v})") Q E s' := fun v s' hr => by
  cases v <;> first | exact hr.elim | skip
  exact wpAny_bind (wpAny_isInstance (typeIs_str _ _ _) isSubtype_str_str (wpAny_pure hr))
 refine wpAny_bind ?_
 simp only [callSpecialIfBoundBy?, bindSpecialIfBound?]
 refine wpAny_holding (wpAny_bind (wpAny_bind (wpAny_bind (I.type.here ((PySem.W.looks_findIn XK hs).here ?_)))))
 refine wpAny_bind (wpAny_askSetting (wpAny_ite ?_))
 have fin : wpAny (model prog w) A (call (.ref f) [.ref x] >>= fun v => pure (some v)) (fun r s' => wpAny (model prog w) A (match r with
   | some r => do if ← isInstance r (.type "str") then pure r else raiseError "TypeError" s!"__repr__ returned non-string (type {← typeNameOf r})"
   | none => unsupported "repr:special-get-raises") Q E s') E s := wpAny_bind (wpAny_mono h (fun v s' hr => wpAny_pure (back v s' hr)) fun _ _ y => y)
 split
 ·exact wpAny_bind ((PySem.W.bind_fn XK _ (beq_iff_eq.mp hf)).here (wpAny_pure (by exact fin)))
 ·exact wpAny_tryCatch (wpAny_bind ((PySem.W.bind_fn XK _ (beq_iff_eq.mp hf)).here (wpAny_pure (by exact fin))))
end
section
variable {X : Cx} {σ : L2.St} {W : Hp → Prop}
def ItemI (X : Cx) (σ : L2.St) (W : Hp → Prop) (bs : List Addr) (n : Nat) (v : V) (t : Str) : Prop :=
 ∀ (base : Nat) (A : Around) (g : List Code) (E : Value → Shared → Prop) (pins : List (Addr × Obj)) (s : Shared) (H : Hp) (u : Value) (Q : Str → Shared → Prop), base + t.length ≤ sizeLine → A.guards = some g → (∀ b ∈ bs, Clear g b) → A.frames = X.A.frames → Room n A →
  Inv X pins σ H s → W H → RelV v u → (∀ H' s', Inv X pins σ H' s' → W H' → Q t s') → wpAny (model X.prog X.w) A (pyReprUnder base u) Q E s
theorem ItemI.more {bs cs : List Addr} {n m : Nat} {v : V} {t : Str} (h : ItemI X σ W bs n v t) (hb : ∀ b ∈ bs, b ∈ cs) (hn : n ≤ m) : ItemI X σ W cs m v t :=
 fun base A g E pins s H u Q z hg hc hf hr I w r q => h base A g E pins s H u Q z hg (fun b hb' => hc b (hb b hb')) hf (hr.mono hn) I w r q
theorem item_str {k : Str} (hz : (reprText k).length ≤ sizeLine) : ItemI X σ W [] 0 (.str k) (reprText k) := by
 intro base A g E pins s H u Q z hg hc hf hr I w r q
 obtain ⟨tk, rfl⟩ : ∃ tk, u = Value.str k tk := r
 exact ReprIs.str k tk hz base z A E s Q fun tk' => q H _ (I.tok tk') w
theorem run_atE {k : Nat} {f : Addr} {fd : FuncData} {ps : List Str} {sp : Sp} {pins : List (Addr × Obj)} {H : Hp} {s : Shared} {Q : VK} {us : List Value} {vs : List V} {A : Around} {E : Value → Shared → Prop} (F : FnOk X.prog X.w X.K X.mg X.base CX0 k f fd ps sp) (fr : A.frames = X.A.frames) (hr : Room k A) (hb : Binds X.K fd ps [])
  (I : Inv X pins σ H s) (r : Vals vs us) (h : sp vs H Q E0) : wpAny (model X.prog X.w) A (call (.ref f) us) (EP X pins σ Q) E s := by
 have e := I.env0
 have e0 : Env0 X.prog X.w X.K X.mg X.base A X.stack s H := ⟨fr.trans e.frames, e.mod, e.bs, e.bsz, e.funs, e.frf, e.hok, e.bare⟩
 have hl := F.len _ _ _ _ h
 have z := hb s us I.kIn (by rw [List.append_nil, ← r.length]; exact hl)
 rw [List.append_nil] at z
 refine wpAny_call (codeAny_mono (F.run A X.stack s H ⟨us, []⟩ us vs Q E0 hr e0 z r h) fun r' s' hq => ?_)
 match r', hq with
 | .error e, hq => exact (show False from hq).elim
 | .ok (.ret u), hq => exact I.after hq
theorem item_own {T : List (Addr × Str)} {k : Nat} {C f a : Addr} {fd : FuncData} {ps : List Str} {sp : Sp} {t : Str} (F : FnOk X.prog X.w X.K X.mg X.base CX0 k f fd ps sp) (hb : Binds X.K fd ps []) (hs : PySem.W.findIn X.K (.ref C) "__repr__" = some (some (.ref f))) (hf : PySem.W.isFn X.K (.ref f) = true)
  (hw : ∀ H, W H → (∃ dx fs, H a = some (.ins C dx fs)) ∧ sp [.ref a] H (fun z H' => z = .str t ∧ W H') E0) : ItemI X σ W [] k (.ref a) t := by
 intro base A g E pins s H u Q z hg hc hfr hr I w r q
 obtain rfl : u = Value.ref a := r
 obtain ⟨⟨dx, fs, ha⟩, hsp⟩ := hw H w
 obtain ⟨mA, J, _⟩ := ins_get I.hok ha
 obtain ⟨od, J, _⟩ := J.look
 refine wpAny_pyReprUnder_ref (by omega) (objUnder_own (by have := hr.un; omega) I.kIn J hs hf ?_)
 refine wpAny_mono (run_atE (us := [Value.ref a]) (vs := [V.ref a]) F hfr hr hb I (.cons rfl .nil) hsp) (fun v s' ⟨z, H', I', rz, e, w'⟩ => ?_) fun _ _ e => e
 subst e
 obtain ⟨tk, rfl⟩ : ∃ tk, v = Value.str t tk := rz
 exact ⟨t, tk, rfl, q H' s' I' w'⟩
structure PartAt (X : Cx) (pins : List (Addr × Obj)) (H : Hp) (s : Shared) (P : Addr) (acc : Array Value) (c : Nat) : Prop where
 get : s.heap.get? P = some { cls := .type "list", dict := none, data := .seq acc c, slots := #[] }
 fr : H P = none
 nl : P ≠ X.env.locals
 nf : P ∉ X.fs
 nc : ∀ x c, X.env.cells.lookup x = some c → c ≠ P
 s0 : X.s_0.heap.objs.size ≤ P
 np : ∀ p ∈ X.pn ++ pins, p.1 ≠ P
theorem PartAt.pin {pins : List (Addr × Obj)} {H : Hp} {s : Shared} {P : Addr} {acc : Array Value} {c : Nat} (p : PartAt X pins H s P acc c) (I : Inv X pins σ H s) : Inv X ((P, { cls := .type "list", dict := none, data := .seq acc c, slots := #[] }) :: pins) σ H s :=
 ⟨I.ok, I.os, I.bare, I.base, I.loc, I.cell, I.free, I.freeC, fun q hq => by
  rcases List.mem_append.mp hq with h | h
  ·exact I.pin q (List.mem_append.mpr (.inl h))
  ·rcases List.mem_cons.mp h with rfl | h
   ·exact ⟨p.get, p.fr, p.nl, p.nf, fun v e => by cases e⟩
   ·exact I.pin q (List.mem_append.mpr (.inr h)), I.hok, I.len⟩
theorem unpin1 {pins : List (Addr × Obj)} {H : Hp} {s : Shared} {p : Addr × Obj} (I : Inv X (p :: pins) σ H s) : Inv X pins σ H s :=
 ⟨I.ok, I.os, I.bare, I.base, I.loc, I.cell, I.free, I.freeC, fun q hq => by
  rcases List.mem_append.mp hq with h | h
  ·exact I.pin q (List.mem_append.mpr (.inl h))
  ·exact I.pin q (List.mem_append.mpr (.inr (List.mem_cons_of_mem _ h))), I.hok, I.len⟩
theorem PartAt.back {pins : List (Addr × Obj)} {H H' : Hp} {s s' : Shared} {P : Addr} {acc : Array Value} {c : Nat} (p : PartAt X pins H s P acc c) (I : Inv X ((P, { cls := .type "list", dict := none, data := .seq acc c, slots := #[] }) :: pins) σ H' s') : PartAt X pins H' s' P acc c :=
 have q := I.pin _ (List.mem_append.mpr (.inr List.mem_cons_self))
 ⟨q.1, q.2.1, p.nl, p.nf, p.nc, p.s0, p.np⟩
theorem PartAt.fresh {pins : List (Addr × Obj)} {H : Hp} {s : Shared} (I : Inv X pins σ H s) : Inv X pins σ H { s with heap := s.heap.push { cls := .type "list", dict := none, data := .seq #[] 0, slots := #[] } } ∧
  PartAt X pins H { s with heap := s.heap.push { cls := .type "list", dict := none, data := .seq #[] 0, slots := #[] } } s.heap.objs.size #[] 0 := by
 refine ⟨I.kept (t' := s.toks) fun b u e => Heap.get?_push_of_some _ e, Heap.get?_push_size _ rfl, I.hok.fresh (Nat.le_refl _), fun e => ?_, I.nofs (Nat.le_refl _), fun x c e z => ?_, I.sz, fun p hp z => ?_⟩
 ·exact absurd I.lt (by rw [← e]; exact Nat.lt_irrefl _)
 ·obtain ⟨v, o, ho, _⟩ := I.cell x c e
  exact absurd (Heap.lt_size ho) (by rw [z]; exact Nat.lt_irrefl _)
 ·exact absurd (Heap.lt_size (I.pin p hp).1) (by rw [z]; exact Nat.lt_irrefl _)
end
section
variable {A : Around} {args : Args} {k : Nat}
theorem loop_frames : (A.under (.builtin "list.__repr__.loop" args)).frames = A.frames := by
 first | rfl | simp [Around.under, Code.envs, Code.isFrame, pushEnvs]
theorem loop_room (hr : Room (k + 1) A) : Room k (A.under (.builtin "list.__repr__.loop" args)) := by
 refine ⟨?_, ?_, ?_⟩
 ·have := hr.hd
  first | exact this | simpa [Around.under] using this
 ·have := hr.dp
  have e : (A.under (.builtin "list.__repr__.loop" args)).depth = A.depth + 1 := by first | rfl | simp [Around.under, Code.weight, Code.isCreation, Code.isGuard, Code.isCaller, Code.frames, Code.isFrame, guardIds]
  omega
 ·have := hr.un
  rw [units_under_list_loop]
  omega
end
section
variable {X : Cx} {σ : L2.St} {W : Hp → Prop} {bs : List Addr} {n : Nat} {l : Addr} {vs : List V} {ts : List Str}
theorem list_loop {P : Addr} {base : Nat} {g : List Code} {A : Around} {pins : List (Addr × Obj)} {R : Result → Shared → Prop} (hl : ∀ H, W H → H l = some (.lst vs)) (hlen : ts.length = vs.length) (its : ∀ (i : Nat) (v : V), vs[i]? = some v → ∃ t, ts[i]? = some t ∧ ItemI X σ W bs n v t)
  (hnl : l ∉ bs) (hsz : base + (listText ts).length ≤ sizeLine) (hg : A.guards = some g) (hc : ∀ b ∈ bs, Clear g b) (hfr : A.frames = X.A.frames) (hr : Room (n + 1) A) (fin : ∀ H' s' u, Inv X pins σ H' s' → W H' → R (.ok (.ret (.str (listText ts) u))) s') :
  ∀ (k i : Nat) (s : Shared) (H : Hp) (acc : Array Value) (c : Nat) (done : List (Str × Tok)), vs.length - i = k → i ≤ vs.length → Inv X pins σ H s → W H → PartAt X pins H s P acc c → acc.toList = strValues done → done.map (·.1) = ts.take i →
  codeAny (model X.prog X.w) A (.builtin "list.__repr__.loop" ⟨[.ref l, rawInt i, .ref P, rawInt ((base + piled (ts.take i) : Nat) : Int)], []⟩) R s := by
 have lt : (listText ts).length = (textFrom 0 "[" ts).length + 1 := by
  show (textFrom 0 "[" ts ++ "]").length = _
  rw [strLen_append]; rfl
 have each : ∀ t ∈ ts, t.length ≤ sizeLine := fun t ht => by
  have := (textFrom_len ts 0 "[").2.1 t ht
  omega
 have few : ts.length ≤ sizeLine := by
  have h1 := (textFrom_len ts 0 "[").1
  rw [if_neg (Nat.lt_irrefl 0)] at h1
  omega
 have pile := piled_le_listText ts
 intro k
 induction k with
 | zero =>
  intro i s H acc c done hk hi I w p ha hd
  have ei : i = vs.length := by omega
  obtain ⟨vals, rv, ⟨o, m, ho, _, _, hdat⟩, _⟩ := I.list (SqL.of (hl H w))
  have el : vals.length = vs.length := rv.length.symm
  refine codeAny_builtin F.entry_list_repr_loop (b := Builtin.«list.__repr__.loop») ?_
  rw [show Builtin.«list.__repr__.loop» ⟨[.ref l, rawInt i, .ref P, rawInt ((base + piled (ts.take i) : Nat) : Int)], []⟩ = _ from repr_loop_tree _ _ _ _ _ _]
  refine wpAny_bind (wpAny_listItems ho hdat ?_)
  have none : vals.toArray[(i : Int).toNat]? = Option.none := by simp [ei, el]
  simp only [none]
  unfold reprEnd
  refine wpAny_bind (wpAny_listItems p.get rfl ?_)
  rw [ha, repr_fold, hd, ei, ← hlen, List.take_length]
  exact wpAny_bind (wpAny_pure (wpAny_bind (wpAny_mkStr (wpAny_pure (fin H _ _ (I.tok _) w)) (by show (listText ts).length ≤ _; omega))))
 | succ k ih =>
  intro i s H acc c done hk hi I w p ha hd
  have hlt : i < vs.length := by omega
  obtain ⟨v, hv⟩ : ∃ v, vs[i]? = some v := ⟨_, List.getElem?_eq_getElem hlt⟩
  obtain ⟨t, ht, item⟩ := its i v hv
  obtain ⟨vals, rv, ⟨o, m, ho, _, _, hdat⟩, _⟩ := I.list (SqL.of (hl H w))
  obtain ⟨u, hu, ru⟩ := rv.get hv
  have pn := piled_take_succ ht
  have pm := piled_take_le ts (i + 1)
  refine codeAny_builtin F.entry_list_repr_loop (b := Builtin.«list.__repr__.loop») ?_
  rw [show Builtin.«list.__repr__.loop» ⟨[.ref l, rawInt i, .ref P, rawInt ((base + piled (ts.take i) : Nat) : Int)], []⟩ = _ from repr_loop_tree _ _ _ _ _ _]
  refine wpAny_bind (wpAny_listItems ho hdat ?_)
  have here : vals.toArray[(i : Int).toNat]? = some u := by simpa using hu
  simp only [here]
  rw [Int.toNat_natCast]
  refine wpAny_bind (wpAny_holding (item (base + piled (ts.take i) + 1) _ _ _ _ s H u _ (by omega) (guards_under_guard (isGuard_list_loop _) hg) (fun b hb => (hc b hb).cons (a := l) fun e => hnl (e ▸ hb)) (loop_frames.trans hfr) (loop_room hr) (p.pin I) w ru fun H' s' I' w' => ?_))
  have p' := p.back I'
  have J := unpin1 I'
  refine wpAny_bind (wpAny_mkStr ?_ (each t (List.mem_of_getElem? ht)))
  refine wpAny_bind ?_
  have asz : acc.size ≤ sizeLine := by
   have e1 : acc.toList.length = done.length := by rw [ha]; simp [strValues]
   have e2 : done.length = (ts.take i).length := by rw [← hd, List.length_map]
   rw [List.length_take] at e2
   have e3 : acc.toList.length = acc.size := by simp
   omega
  show wpAny _ _ (updateSeq P _) _ _ _
  refine wpAny_updateSeq (o := _) (p'.get) rfl (wpAny_pure ⟨F.quiet_list_repr_loop _, ?_⟩) asz
  rw [show ((i : Int) + 1) = ((i + 1 : Nat) : Int) by omega, show base + piled (ts.take i) + (t.length + 2) = base + piled (ts.take (i + 1)) by omega]
  have turn := J.turned (it := P) (t' := s'.toks + 1) (h' := s'.heap.update P (Obj.mapSeq fun a => a.push (.str t s'.toks))) (fun b o hb e => (Heap.get?_update_other _ _ (Ne.symm hb)).trans e) p'.fr p'.nl (.inr p'.s0) p'.nc p'.np
  refine ih (i + 1) _ H' (acc.push (.str t s'.toks)) _ (done ++ [(t, s'.toks)]) (by omega) hlt turn w' ⟨Heap.get?_update_self _ p'.get rfl, p'.fr, p'.nl, p'.nf, p'.nc, p'.s0, p'.np⟩ ?_ ?_
  ·simp [strValues, ha]
  ·rw [List.map_append, hd, List.take_succ, ht]; rfl
theorem list_at {base : Nat} {g : List Code} {A : Around} {pins : List (Addr × Obj)} {R : Result → Shared → Prop} {s : Shared} {H : Hp} (hl : ∀ H, W H → H l = some (.lst vs)) (hlen : ts.length = vs.length) (hne : vs ≠ []) (its : ∀ (i : Nat) (v : V), vs[i]? = some v → ∃ t, ts[i]? = some t ∧ ItemI X σ W bs n v t)
  (hnl : l ∉ bs) (hsz : base + (listText ts).length ≤ sizeLine) (hg : A.guards = some g) (hc : ∀ b ∈ bs, Clear g b) (hcl : Clear g l) (hfr : A.frames = X.A.frames) (hr : Room (n + 1) A) (fin : ∀ H' s' u, Inv X pins σ H' s' → W H' → R (.ok (.ret (.str (listText ts) u))) s') (I : Inv X pins σ H s) (w : W H) :
  wpAny (model X.prog X.w) A.in1 (Builtin.listReprAt base ⟨[.ref l], []⟩) (fun fin s' => match fin with | .done f => R (.ok f) s' | .again c' => c'.quiet = true ∧ codeAny (model X.prog X.w) A c' R s') (fun e s' => R (.error e) s') s := by
 obtain ⟨vals, rv, ⟨o, m, ho, _, _, hdat⟩, _⟩ := I.list (SqL.of (hl H w))
 obtain ⟨y, r, rfl⟩ : ∃ y r, vals = y :: r := by
  cases vals with
  | nil => cases rv; exact absurd rfl hne
  | cons y r => exact ⟨y, r, rfl⟩
 refine wpAny_list_repr_head (A := A.in1) hg (fun v rest kw hm => listSameRef_of_ne (hcl _ _ _ _ hm)) ho hdat ?_
 refine wpAny_bind (m := newList []) (wpAny_newObj_type ?_)
 obtain ⟨J, p⟩ := PartAt.fresh I
 refine wpAny_pure ⟨F.quiet_list_repr_loop _, ?_⟩
 have z := list_loop (P := s.heap.objs.size) (base := base) hl hlen its hnl hsz hg hc hfr hr fin _ 0 _ H #[] 0 [] rfl (Nat.zero_le _) J w p rfl rfl
 simpa [piled] using z
theorem item_list (hl : ∀ H, W H → H l = some (.lst vs)) (hlen : ts.length = vs.length) (hne : vs ≠ []) (its : ∀ (i : Nat) (v : V), vs[i]? = some v → ∃ t, ts[i]? = some t ∧ ItemI X σ W bs n v t) (hnl : l ∉ bs) : ItemI X σ W (l :: bs) (n + 1) (.ref l) (listText ts) := by
 intro base A g E pins s H u Q z hg hc hfr hr I w r q
 obtain rfl : u = Value.ref l := r
 obtain ⟨vals, rv, ⟨o, m, ho, hcls, _, hdat⟩, _⟩ := I.list (SqL.of (hl H w))
 refine wpAny_pyReprUnder_ref (by omega) (wpAny_pyReprObjUnder_twin (twin := "list.__repr__.under") ⟨o, ho, hcls⟩ F.slot_list_repr.toG rfl (by have := hr.un; omega) ?_)
 refine call_twin_plain F.plain_list_repr_under F.entry_list_repr_under F.check_list_repr_under ⟨o, ho, hcls⟩ F.slot_list_repr.toG (F.args_list_repr_1 _) ?_
 exact list_at (R := callEnd _ E) hl hlen hne its hnl z hg (fun b hb => hc b (List.mem_cons_of_mem _ hb)) (hc l List.mem_cons_self) hfr hr (fun H' s' u I' w' => ⟨⟨_, _, rfl⟩, _, _, rfl, q H' s' I' w'⟩) I w
theorem call_list (hl : ∀ H, W H → H l = some (.lst vs)) (hlen : ts.length = vs.length) (hne : vs ≠ []) (its : ∀ (i : Nat) (v : V), vs[i]? = some v → ∃ t, ts[i]? = some t ∧ ItemI X σ W bs n v t) (hnl : l ∉ bs) (hsz : (listText ts).length ≤ sizeLine)
  {pins : List (Addr × Obj)} {s : Shared} {H : Hp} {Q : VK} (hg : X.A.guards = some []) (hr : Room (n + 2) X.A) (I : Inv X pins σ H s) (w : W H) (q : ∀ H', W H' → Q (.str (listText ts)) H') : wpAny (model X.prog X.w) X.A (call (.builtin "repr") [.ref l]) (EP X pins σ Q) X.xe s := by
 obtain ⟨vals, rv, ⟨o, m, ho, hcls, _, hdat⟩, _⟩ := I.list (SqL.of (hl H w))
 refine call_repr_slot (by have := hr.un; omega) ⟨o, ho, hcls⟩ F.slot_list_repr.toG ?_
 refine wpAny_call (codeAny_call_builtin F.slot_list_repr.plain F.entry_list_repr (F.slot_list_repr.check _ _ _ _ _ _ _ _ ⟨o, ho, hcls⟩ (F.args_list_repr_1 _) ?_))
 exact list_at (A := X.A.in1) (base := 0) (R := callEnd _ X.xe) hl hlen hne its hnl (by omega) hg (fun b _ => Clear.nil b) (Clear.nil l) rfl hr.in1 (fun H' s' u I' w' => ⟨_, _, rfl, .str (listText ts), H', I', ⟨u, rfl⟩, q H' w'⟩) I w
end
section
variable {X : Cx} {T : List (Addr × Str)} {k : Nat} {C f : Addr} {fd : FuncData} {ps : List Str} {e : Expr} {es : List Expr} {t : TAp} {x : Str} {p pos : Pos}
def listOwnT (z y : Str) : Str := listText [reprText z, listText [y]]
def rReprLV (C : Addr) (T : List (Addr × Str)) (sp : Sp) : List V → Hp → VK → Prop := fun xs H Q => ∃ l b a z y, xs = [.ref l] ∧ H l = some (.lst [.str z, .ref b]) ∧ H b = some (.lst [.ref a]) ∧ (∃ dx fs, H a = some (.ins C dx fs)) ∧ (reprText z).length ≤ sizeLine ∧ (listOwnT z y).length ≤ sizeLine ∧ LamX.Tabs T H ∧
 (∀ H', Gr H H' → LamX.Tabs T H' → sp [.ref a] H' (fun v H'' => v = .str y ∧ Gr H H'' ∧ LamX.Tabs T H'') E0) ∧ ∀ H', Gr H H' → LamX.Tabs T H' → Q (.str (listOwnT z y)) H'
theorem call_reprL {sp : Sp} (hg : X.A.guards = some []) (F : FnOk X.prog X.w X.K X.mg X.base CX0 k f fd ps sp) (hr : Room (k + 3) X.A) (hs : PySem.W.findIn X.K (.ref C) "__repr__" = some (some (.ref f))) (hf : PySem.W.isFn X.K (.ref f) = true) (hb : Binds X.K fd ps []) : CallR X (.builtin "repr") (rReprLV C T sp) := by
 intro pins s σ H xs us Q I r h
 obtain ⟨l, b, a, z, y, rfl, hl, hb', ha, hz, hsz, tb, hsp, q⟩ := h
 obtain rfl := Vals.ref1 r
 have nlb : l ∉ [b] := fun m => by
  rw [List.mem_singleton.mp m, hb'] at hl
  cases hl
 have W0 : Gr H H ∧ LamX.Tabs T H := ⟨Gr.same fun _ _ e => e, tb⟩
 have own : ItemI X σ (fun H' => Gr H H' ∧ LamX.Tabs T H') [] k (.ref a) y := item_own (T := T) F hb hs hf fun H' w => ⟨by
  obtain ⟨dx, fs, e⟩ := ha
  exact ⟨dx, fs, w.1.keep a _ e nofun⟩, hsp H' w.1 w.2⟩
 have inner : ItemI X σ (fun H' => Gr H H' ∧ LamX.Tabs T H') [b] (k + 1) (.ref b) (listText [y]) := item_list (W := fun H' => Gr H H' ∧ LamX.Tabs T H') (vs := [.ref a]) (ts := [y]) (bs := []) (n := k) (fun H' w => w.1.keep b _ hb' nofun) rfl (by simp) (fun i v e => by
  match i, e with
  | 0, e => cases e; exact ⟨y, rfl, own⟩
  | _ + 1, e => cases e) (by simp)
 exact call_list (W := fun H' => Gr H H' ∧ LamX.Tabs T H') (vs := [.str z, .ref b]) (ts := [reprText z, listText [y]]) (bs := [b]) (n := k + 1) (fun H' w => w.1.keep l _ hl nofun) rfl (by simp) (fun i v e => by
  match i, e with
  | 0, e => cases e; exact ⟨_, rfl, (item_str hz).more (by simp) (by omega)⟩
  | 1, e => cases e; exact ⟨_, rfl, inner⟩
  | _ + 2, e => cases e) nlb hsz hg hr I W0 fun H' w => q H' w.1 w.2
def tReprLP (C : Addr) (sp : SpP) (t : TAp) : TEp := fun η P => t η fun xs η1 => ∃ z fs y, xs = [.lst [.str z, .lst [.ins C fs]]] ∧ (reprText z).length ≤ sizeLine ∧ (listOwnT z y).length ≤ sizeLine ∧ sp [.ins C fs] (fun v => v = .str y) ∧ P (.str (listOwnT z y)) η1
theorem z_reprL {sp : SpP} (hc : CallR X (.builtin "repr") (rReprLV C T (upSp X.K T sp))) (hg : Gl X x) (hm : X.mg x = none) (hv : bootBuiltins x = some (.builtin "repr")) (ha : PA X (e :: es) (upA X.K T t)) (hn : x ≠ "__name__" := by decide) (hdb : (x == ("__debug__" : Str)) = false := by decide)
  (he : starEach (e :: es) X.env = (false, eval e X.env) :: starEach es X.env := by rfl) (hpl : (backTo pos (starEach es X.env)).any (·.1) = false := by rfl) : PE X (.Call (.Name x p) (e :: es) [] pos) (up X.K T (tReprLP C sp t)) := by
 refine PE.weak (pe_callB hc hg hm hv ha hn hdb he hpl) fun σ H Q q => ?_
 obtain ⟨F, η, P, R, h, kk⟩ := q
 refine ⟨F, η, _, R, h, fun xs η1 v H1 h1 e1 R1 r1 => ?_⟩
 obtain ⟨z, fs, y, rfl, hz, hsz, hsp, hp⟩ := h1
 obtain ⟨v1, rfl, r2⟩ := r1.one
 obtain ⟨l, us, rfl, nl, hl, r3⟩ := r2.lst_
 obtain ⟨w1, w2, rfl, r4, r5⟩ := r3.two
 have e4 := r4.str_
 subst e4
 obtain ⟨b, us2, rfl, nb, hb, r6⟩ := r5.lst_
 obtain ⟨w3, rfl, r7⟩ := r6.one
 obtain ⟨a, dx, ws, rfl, na, q', rr⟩ := id r7.ins_
 refine ⟨l, b, a, z, y, rfl, hl, hb, ⟨dx, ws, q'⟩, hz, hsz, R1.tb, fun H' g tb => ?_, fun H' g tb => kk _ η1 _ H' hp (e1.trans g.ext) (R1.gr g tb) (by unfold Rep; rfl)⟩
 exact ⟨Oof F σ η1, _, _, (R1.gr g tb).trO, tb, .cons (r7.car g.car) .nil, hsp, fun u v H3 eu g3 tb3 rz => ⟨by rw [eu] at rz; exact rz.str_, g.trans g3, tb3⟩⟩
end
section
variable {X : Cx}
theorem ps_parC3 {a b c : Expr} {pos : Pos} {i j l : Nat} {x y z : Str} {ta : TA} {px py pz pt : Pos} {kt k2 pt2} (hc : X.calm = true) (hN : X.N.Nodup) (hi : X.N[i]? = some x) (hj : X.N[j]? = some y) (hl : X.N[l]? = some z)
  (hx : Loc X.env.scope x) (hy : Loc X.env.scope y) (hz : Loc X.env.scope z) (ha : PA X [a, b, c] ta)
  (hfx : X.fn x = true ∨ X.env.scope.names.lookup x = some .local := by first | exact .inl rfl | exact .inr rfl | assumption)
  (hfy : X.fn y = true ∨ X.env.scope.names.lookup y = some .local := by first | exact .inl rfl | exact .inr rfl | assumption)
  (hfz : X.fn z = true ∨ X.env.scope.names.lookup z = some .local := by first | exact .inl rfl | exact .inr rfl | assumption)
  (hw : swappedStores [.Tuple [.Name x px, .Name y py, .Name z pz] kt pt] (.Tuple [a, b, c] k2 pt2) X.env = pure none := by rfl)
  (hs : swapsWithSole [.Tuple [.Name x px, .Name y py, .Name z pz] kt pt] (.Tuple [a, b, c] k2 pt2) pos.line X.env = pure false := by rfl)
  (h1 : (assignEach [.Tuple [.Name x px, .Name y py, .Name z pz] kt pt] X.env).map (·.2) = [assign (.Tuple [.Name x px, .Name y py, .Name z pz] kt pt) X.env] := by rfl)
  (hn : (assignEach [.Name x px, .Name y py, .Name z pz] X.env).length = 3 := by rfl) (hst : (assignEach [.Name x px, .Name y py, .Name z pz] X.env).findIdx? (·.1) = none := by rfl)
  (hs2 : (assignEach [.Name x px, .Name y py, .Name z pz] X.env).map (·.2) = assign (.Name x px) X.env :: (assignEach [.Name y py, .Name z pz] X.env).map (·.2) := by rfl)
  (hs3 : (assignEach [.Name y py, .Name z pz] X.env).map (·.2) = assign (.Name y py) X.env :: (assignEach [.Name z pz] X.env).map (·.2) := by rfl)
  (hs4 : (assignEach [.Name z pz] X.env).map (·.2) = assign (.Name z pz) X.env :: (assignEach [] X.env).map (·.2) := by rfl) :
  PS X (.Assign [.Tuple [.Name x px, .Name y py, .Name z pz] kt pt] (.Tuple [a, b, c] k2 pt2) pos) (tPar3 i j l ta) := by
 have hg : PGs X [.Name x px, .Name y py, .Name z pz] (gCons (gName i) (gCons (gName j) (gCons (gName l) gNil))) := pgs_cons (pg_name hN hi hx hfx) (pgs_cons (pg_name hN hj hy hfy) (pgs_cons (pg_name hN hl hz hfz) pgs_nil hs4) hs3) hs2
 refine ⟨fun pins s σ H D I h => ?_⟩
 refine wpAny_Assign_stores (Tuple_ (thn (ha.run _ pins s σ H _ I h) fun us s1 ⟨vs, H1, I1, r1, q1⟩ => ?_)) hs hw
 obtain ⟨v1, v2, v3, e1, q1⟩ := q1
 subst e1
 obtain ⟨u1, u2, u3, rfl, r1', r2', r3'⟩ : ∃ u1 u2 u3, us = [u1, u2, u3] ∧ RelV v1 u1 ∧ RelV v2 u2 ∧ RelV v3 u3 := by
  cases r1 with
  | cons p q =>
   cases q with
   | cons p' q' =>
    cases q' with
    | cons p'' q'' =>
     cases q''
     exact ⟨_, _, _, rfl, p, p', p''⟩
 refine wpAny_newObj_type ?_ (by show 3 ≤ sizeLine; decide)
 have I2 : Inv X pins σ H1 { s1 with heap := s1.heap.push { cls := .type "tuple", data := .seq [u1, u2, u3].toArray } } := I1.kept (t' := s1.toks) fun b o e => Heap.get?_push_of_some _ e
 rw [h1]
 refine thn (Q := fun _ s2 => ∃ σ' H', Inv X pins σ' H' s2 ∧ D.nx σ' H') (assign_Tuple_tuple (I.ok.hd hc) (IsTup.new s1.heap _) (by simp [hn]) hst fun h' hx => ?_) fun _ s2 q => q
 have I3 : Inv X pins σ H1 { s1 with heap := h' } := I2.kept (h' := h') (t' := s1.toks) fun b o e => hx b o (Nat.ne_of_lt (Heap.lt_size e)) e
 exact hg.run pins _ σ H1 [v1, v2, v3] _ _ I3 (.cons r1' (.cons r2' (.cons r3' .nil))) ⟨v1, [v2, v3], rfl, v2, [v3], rfl, v3, [], rfl, rfl, q1⟩
end
section
variable {X : Cx} {T : List (Addr × Str)} {k nk n : Nat} {f : Addr} {sp : SpX} {x : Str} {p : Pos} {e : Expr} {es : List Expr} {t tk : TAp} {fd : FuncData} {ps ks : List Str} {kws : List Keyword} {is : List Nat} {E : XK}
def tCallKX (sp : SpX) (nk : Nat) (is : List Nat) (tk : TAp) : TXp := fun η P Zw => tk η fun zs η1 => zs.length = nk ∧ sp (pick is zs) (fun z => P z η1) fun C fs => Zw C fs η1
theorem zx_callKC (Fn : FnOk X.prog X.w X.K X.mg X.base (L2.CX X.prog X.w) k f fd ps (upSpX X.K T sp)) (hk0 : L2.Takes X (fun cls d _ H => E cls d H)) (hr : Room k X.A) (hg : Gl X x) (hm : X.mg x = some (.ref f)) (hk : PySem.W.keepIn X.K (.ref f) = true) (hb : KwB X.K fd ps 0 ks is) (hkw : PK X kws (upA X.K T tk))
  (hall : (backToKw p (keywordEach kws X.env)).all (·.1.isSome) = true := by rfl) (hks : (backToKw p (keywordEach kws X.env)).filterMap (·.1) = ks := by rfl) (hdb : (x == ("__debug__" : Str)) = false := by decide)
  (hpl : ((backTo p (starEach [] X.env)).any (·.1) || (backToKw p (keywordEach kws X.env)).any (·.1.isNone)) = false := by rfl) {q : Pos} :
  PE X (.Call (.Name x q) [] kws p) (upX X.K T (fun cls d _ H => E cls d H) (tCallKX sp ks.length is tk)) := by
 refine PE.weak (pe_callKw0 (E := E) Fn hr hg hm hk hb (L2.passes_call hk0 fun _ _ _ _ h => h) hkw hall hks hdb hpl) fun σ H Q qq => ?_
 obtain ⟨F, η, P, Zw, R, h, kk, kx⟩ := qq
 refine ⟨F, η, _, R, h, fun zs η1 us H1 h1 e1 R1 r1 => ?_⟩
 refine ⟨rfl, by rw [r1.len]; exact h1.1, ?_⟩
 exact ⟨Oof F σ η1, _, _, _, R1.trO, R1.tb, reps_pick is r1, h1.2, fun z v H3 pz g tb rz => kk z η1 v H3 pz (e1.trans g.ext) (R1.gr g tb) rz, fun C' fs d H3 z g tb xa => kx C' fs η1 d σ H3 z (e1.trans g.ext) (R1.gr g tb) xa⟩
end
section
variable {P : Program} {w : World} {K : PySem.W.Frag} {mg : Str → Option Value} {base : Heap} {T : List (Addr × Str)}
theorem okGRC {x qual : Str} {st : Stmt} {c f : Addr} {fd : FuncData} {nm : Str} {N ps : List Str} {k : Nat} {sp : SpR} (Fn : FunC K x qual st c f fd) (S : FnScope (nm :: N) (nm :: ps) (defScope st)) (hl : ∀ o args P, sp o args P → args.length = ps.length) (hn : ps.length ≤ N.length)
  (hbody : ∀ (A : Around) (outer : List Env) (s : Shared) (H : Hp) (E : XK), A.guards = some [] → Room k (A.deeper (envOfC qual (defScope st) s.heap.objs.size f (.ref c))) →
   ∃ ts, PSs (cxOf CX0 P w K mg base (nm :: N) qual (defScope st) f (.ref c) A outer s H E).nox (defBody st) (upS K T ts) ∧
    ∀ o args P, sp o args P → ts { nx := fun η' => ∃ o', η'[0]? = some (Sl.ow o') ∧ P .non o', rt := fun x η' => ∃ o', η'[0]? = some (Sl.ow o') ∧ P x o' } (startR (N.length + 1) o args)) :
  FnG P w K mg base (k + 1) f fd (nm :: ps) (upSpR K T sp) := by
 obtain ⟨oc, od, kV, doc, pm, an, ct, osl, rfl, lk, hcd⟩ := Fn.ex
 refine ⟨len_spR hl, fun A outer s H args us vs Q E hg hr e0 hb rv hs => ?_⟩
 refine LamX.run_ofS lk hcd S hr e0 hb rv (len_spR hl _ _ _ _ hs) fun hr' => ?_
 obtain ⟨ts, d, rd⟩ := hbody A outer s H E hg hr'
 exact ⟨_, d.nox, body_spR hs (fun o args P hs => by rw [hl _ _ _ hs]; exact hn) rd⟩
end
abbrev PrX8 := PySem.W.Frag → Addr → (Str → Addr) → List PV → (PV → Prop) → WC → Prop
abbrev PrPX8 := PySem.W.Frag → Addr → (Str → Addr) → List PV → (PV → Prop) → Prop
abbrev PrRX8 := PySem.W.Frag → Addr → (Str → Addr) → Ow → List PV → (PV → Ow → Prop) → Prop
def planRes (n : Int) (rs : List Trip) : PV → Option PV
 | .tup xs => if validGo n rs xs [] < xs.length ∨ validGo n rs xs [] < rs.length then some (.int (validGo n rs xs [])) else none
 | _ => some .non
def fixOk (n : Int) (rs : List Trip) (b : Str) (ss : List Int) : PV → Bool
 | .tup [.str w, .int s] => pairOkB n rs (.tup [.str w, .int s]) && (decide (b.cps.toList < w.cps.toList) && !decide (s ∈ ss))
 | _ => false
def seatOf : PV → Int
 | .tup [_, .int s] => s
 | _ => 0
def fixGo (n : Int) (rs : List Trip) : Nat → Str → List Int → List PV → Option Nat
 | _, _, _, [] => none
 | i, b, ss, x :: xs => if fixOk n rs b ss x = true then fixGo n rs (i + 1) (nmOf x) (ss ++ [seatOf x]) xs else some i
def fixRes (n : Int) (rs : List Trip) : PV → Option PV
 | .tup xs => (fixGo n rs 0 ("" : Str) [] xs).map fun (i : Nat) => PV.int (i : Int)
 | _ => some .non
def KnPl (K : PySem.W.Frag) (x : PV) : Prop := Kn K x ∧ ∀ xs, x = .tup xs → xs.length ≤ 1000 ∧ ∀ y ∈ xs, KnP K y
structure LnG (n : Int) (rs : List Trip) : Prop where
 h1 : 1 ≤ n
 h2 : n ≤ 20
 rw : Rw rs
def NoL (XC : Str → Addr) (x : PV) (Zw : WC) : Prop := (tyN x).isSome = true ∧ Zw (XC ("NotALine" : Str)) [(("value" : Str), x)]
def BadP (K : PySem.W.Frag) (C : Addr) (XC : Str → Addr) (x p : PV) (Zw : WC) : Prop := ∃ n rs y, x = lineP C n rs ∧ LnG n rs ∧ KnPl K p ∧ planRes n rs p = some y ∧ Zw (XC ("InvalidPlan" : Str)) [(("index" : Str), y)]
def GoodP (K : PySem.W.Frag) (C : Addr) (x p : PV) : Prop := ∃ n rs, x = lineP C n rs ∧ LnG n rs ∧ KnPl K p ∧ planRes n rs p = none
def BadS (K : PySem.W.Frag) (XC : Str → Addr) (s e : PV) (Zw : WC) : Prop := Kn K s ∧ ((isStn s = false ∧ Zw (XC ("InvalidStation" : Str)) [(("station" : Str), s)]) ∨ ∃ i : Int, s = .int i ∧ 0 ≤ i ∧ Kn K e ∧ isLat i e = false ∧ Zw (XC ("InvalidStation" : Str)) [(("station" : Str), e)])
def BadF (K : PySem.W.Frag) (C : Addr) (XC : Str → Addr) (x f : PV) (Zw : WC) : Prop := ∃ n rs y, x = lineP C n rs ∧ LnG n rs ∧ KnPl K f ∧ fixRes n rs f = some y ∧ Zw (XC ("InvalidFixed" : Str)) [(("index" : Str), y)]
def sp_check_lineX : PrX8 := fun K C XC args P Zw => ∃ x, args = [x] ∧ ClsT K C ∧ ((∃ n rs, x = lineP C n rs ∧ P .non) ∨ NoL XC x Zw)
def sp_check_planX : PrX8 := fun K C XC args P Zw => ∃ x p, args = [x, p] ∧ ((GoodP K C x p ∧ P .non) ∨ BadP K C XC x p Zw)
def sp_check_bothX : PrX8 := fun K C XC args P Zw => ∃ x p g, args = [x, p, g] ∧ ClsT K C ∧ ((GoodP K C x p ∧ GoodP K C x g ∧ P .non) ∨ NoL XC x Zw ∨ BadP K C XC x p Zw ∨ (GoodP K C x p ∧ BadP K C XC x g Zw))
def sp_check_stationsX : PrX8 := fun K C XC args P Zw => ∃ s e, args = [s, e] ∧ ((∃ i j : Int, s = .int i ∧ e = .int j ∧ 0 ≤ i ∧ i < j ∧ P .non) ∨ BadS K XC s e Zw)
def sp_check_fixedX : PrX8 := fun K C XC args P Zw => ∃ x f, args = [x, f] ∧ ((∃ n rs, x = lineP C n rs ∧ LnG n rs ∧ KnPl K f ∧ fixRes n rs f = none ∧ P .non) ∨ BadF K C XC x f Zw)
def sp_overfullX : PrX8 := fun K C XC args P Zw => ∃ x, args = [x] ∧ ClsT K C ∧ NoL XC x Zw
def sp_number_ofX : PrX8 := fun K C XC args P Zw => ∃ x p, args = [x, p] ∧ ClsT K C ∧ (NoL XC x Zw ∨ BadP K C XC x p Zw)
def sp_routeX : PrX8 := fun K C XC args P Zw => ∃ x p g, args = [x, p, g] ∧ ClsT K C ∧ (NoL XC x Zw ∨ BadP K C XC x p Zw ∨ (GoodP K C x p ∧ BadP K C XC x g Zw))
def sp_itineraryX : PrX8 := fun K C XC args P Zw => ∃ x p s e, args = [x, p, s, e] ∧ ClsT K C ∧ (NoL XC x Zw ∨ BadP K C XC x p Zw ∨ (GoodP K C x p ∧ BadS K XC s e Zw))
def sp_plan_or_obstacleX : PrX8 := fun K C XC args P Zw => ∃ x f, args = [x, f] ∧ ClsT K C ∧ (NoL XC x Zw ∨ BadF K C XC x f Zw)
def sp_certify_plan : PrX8 := sp_overfullX
def sp_certify_route : PrX8 := sp_routeX
def sp_certify_fixed : PrX8 := sp_plan_or_obstacleX
def sp_certify_number : PrX8 := sp_number_ofX
def sp_certify_changes : PrX8 := sp_itineraryX
def rsG : List Trip := [(("a" : Str), 0, 3), (("b" : Str), 2, 5), (("c" : Str), 3, 4)]
def prG (w : Str) (i : Int) : PV := .tup [.str w, .int i]
def plG : List PV := [prG ("a" : Str) 1, prG ("b" : Str) 2, prG ("c" : Str) 1]
def badPl : List (PV × PV) := [(.non, .non), (.int 7, .non), (.lst plG, .non), (.tup [], .int 0), (.tup [prG ("a" : Str) 1, prG ("b" : Str) 2], .int 2), (.tup (plG ++ [prG ("d" : Str) 1]), .int 3), (.str ("abc" : Str), .non),
 (.tup [prG ("a" : Str) 1, prG ("b" : Str) 1, prG ("c" : Str) 1], .int 1), (.tup [prG ("a" : Str) 3, prG ("b" : Str) 2, prG ("c" : Str) 1], .int 0), (.tup [prG ("c" : Str) 1, prG ("b" : Str) 2, prG ("a" : Str) 1], .int 0),
 (.tup [prG ("a" : Str) 1, .tup [.str ("b" : Str), .bl true], prG ("c" : Str) 1], .int 1), (.tup [prG ("a" : Str) 1, prG ("b" : Str) 2, prG ("c" : Str) 2], .int 2), (.dic [], .non),
 (.tup [.lst [.str ("a" : Str), .int 1], prG ("b" : Str) 2, prG ("c" : Str) 1], .int 0), (.tup [prG ("a" : Str) 1, prG ("b" : Str) 2, .non], .int 2), (.tup [.tup [.str ("a" : Str), .lst [.int 1]], prG ("b" : Str) 2, prG ("c" : Str) 1], .int 0)]
def badFx : List (PV × PV) := [(.non, .non), (.lst [prG ("a" : Str) 1], .non), (.tup [prG ("a" : Str) 1, prG ("b" : Str) 1], .int 1), (.tup [prG ("b" : Str) 1, prG ("a" : Str) 2], .int 1), (.tup [prG ("d" : Str) 1], .int 0),
 (.tup [prG ("a" : Str) 0], .int 0), (.tup [prG ("a" : Str) 3], .int 0), (.tup [.tup [.str ("a" : Str), .bl true]], .int 0), (.tup [.tup [.lst [.str ("a" : Str)], .int 1]], .int 0), (.tup [prG ("a" : Str) 1, prG ("a" : Str) 2], .int 1),
 (.tup [prG ("a" : Str) 1, .non], .int 1), (.dic [], .non), (.tup [.tup [.str ("a" : Str), .int 1, .int 1]], .int 0)]
def oddL : List PV := [.non, .str ("0" : Str), .int (-1), .bl true, .bl false, .tup [.int 0], .lst [.int 0], .dic [], .int (0 - 10 ^ 30)]
def strL (C : Addr) : List PV := [.non, .str (textS 2 rsG), .tup [.int 2, rowsP rsG], .int 7, .lst [], .dic [], .bl true, .lst [lineP C 2 rsG], .tup []]
def RowK (C : Addr) (r : PV) : Prop := ∃ k v, k ∈ [("notline" : Str), ("plan" : Str), ("fixed" : Str), ("station" : Str)] ∧ r = .lst [.lst [.str k, v], .lst [.str k, v]] ∧ (v ∈ strL C ∨ v ∈ oddL ∨ v ∈ badPl.map (·.2) ∨ v ∈ badFx.map (·.2) ∨ v = .int 3)
structure CtF (K : PySem.W.Frag) (XC : Str → Addr) (s : Str) (n : Nat) (f : Str) : Prop where
 kd : KindF K XC (XC s) n
 xf : XfN K (XC s) f
 fl : kindFields[n]? = some (some f)
 ex : PySem.W.exmAny K (.ref (XC s)) [.ref (XC ("SeatError" : Str)), .ref (XC ("StateError" : Str)), .ref (XC ("SizeError" : Str))] = some true
structure CeF (K : PySem.W.Frag) (XC : Str → Addr) : Prop where
 ln : CtF K XC ("NotALine" : Str) 12 ("value" : Str)
 pl : CtF K XC ("InvalidPlan" : Str) 5 ("index" : Str)
 fx : CtF K XC ("InvalidFixed" : Str) 6 ("index" : Str)
 st : CtF K XC ("InvalidStation" : Str) 4 ("station" : Str)
def sp_law_bad_plan : PrR := fun K C o args P => Pool o ∧ args = [] ∧ ∀ o' p, Pool o' → p ∈ badPl → P (.tup [p.1, p.2]) o'
def sp_law_bad_fixed : PrR := fun K C o args P => Pool o ∧ args = [] ∧ ∀ o' p, Pool o' → p ∈ badFx → P (.tup [p.1, p.2]) o'
def sp_law_rows_of_plans : PrRX8 := fun K C XC o args P => ∃ x, Pool o ∧ args = [lineP C 2 rsG, x] ∧ ClsT K C ∧ CeF K XC ∧ x ∈ strL C ∧ ∀ o' rows, Pool o' → rows.length ≤ 10 → (∀ r ∈ rows, RowK C r) → P (.lst rows) o'
def sp_law_rows_of_seats : PrRX8 := fun K C XC o args P => ∃ x y, Pool o ∧ args = [lineP C 2 rsG, x, y] ∧ ClsT K C ∧ CeF K XC ∧ x ∈ strL C ∧ y ∈ oddL ∧ ∀ o' rows, Pool o' → rows.length ≤ 10 → (∀ r ∈ rows, RowK C r) → P (.lst rows) o'
def sp_law_right84 : PrRX8 := fun K C XC o args P => Pool o ∧ args = [] ∧ ClsT K C ∧ CeF K XC ∧ ∀ o', Pool o' → P (.bl true) o'
def sp_law84 : PrPX8 := fun K C XC args P => ∃ ns : List Int, args = [.scr ns] ∧ ns.length ≤ 63 ∧ ClsT K C ∧ CeF K XC ∧ P (.bl true)
def ts_check_lineX (K : PySem.W.Frag) (CLine : Addr) (XC : Str → Addr) : TSX := tIfX (tNotP (tBlP (tCBP (rIsI K) (tConsP (tVarP 0) (tConsP (tConP (.raw (.ref CLine))) (tNilP)))))) (tRaiseX (XC ("NotALine" : Str)) ("value" : Str) (tVarP 0)) (tPlX (tNextP))
def ts_check_planX (K : PySem.W.Frag) (CLine : Addr) (XC : Str → Addr) : TSX := tSeqX (tIfX (tNotP (tBlP (tCBP (rIsI K) (tConsP (tVarP 1) (tConsP (tConP (.raw (.ty "tuple"))) (tNilP)))))) (tRaiseX (XC ("InvalidPlan" : Str)) ("index" : Str) (tConP .non)) (tPlX (tNextP))) (tSeqX (tPlX (tSetP 2 (tCallP (sp_valid_pairs K CLine) [] (tConsP (tVarP 0) (tConsP (tVarP 1) (tNilP)))))) (tIfX (tOrP (tBlP (tOpP rLt (tVarP 2) (tCBP rLen (tConsP (tVarP 1) (tNilP))))) (tBlP (tOpP rLt (tVarP 2) (tCBP rLen (tConsP (tPropP CLine (sp_Line_trips K CLine) (tVarP 0)) (tNilP)))))) (tRaiseX (XC ("InvalidPlan" : Str)) ("index" : Str) (tVarP 2)) (tPlX (tNextP))))
def ts_check_bothX (K : PySem.W.Frag) (CLine : Addr) (XC : Str → Addr) : TSX := tSeqX (tExX (tCallX (sp_check_lineX K CLine XC) [] (tConsP (tVarP 0) (tNilP)))) (tSeqX (tExX (tCallX (sp_check_planX K CLine XC) [] (tConsP (tVarP 0) (tConsP (tVarP 1) (tNilP))))) (tExX (tCallX (sp_check_planX K CLine XC) [] (tConsP (tVarP 0) (tConsP (tVarP 2) (tNilP))))))
def ts_check_stationsX (K : PySem.W.Frag) (CLine : Addr) (XC : Str → Addr) : TSX := tSeqX (tIfX (tNotP (tBlP (tCallP (sp_is_station K CLine) [] (tConsP (tVarP 0) (tNilP))))) (tRaiseX (XC ("InvalidStation" : Str)) ("station" : Str) (tVarP 0)) (tPlX (tNextP))) (tIfX (tNotP (tBlP (tCallP (sp_is_later K CLine) [] (tConsP (tVarP 1) (tConsP (tVarP 0) (tNilP)))))) (tRaiseX (XC ("InvalidStation" : Str)) ("station" : Str) (tVarP 1)) (tPlX (tNextP)))
def ts_check_fixedX (K : PySem.W.Frag) (CLine : Addr) (XC : Str → Addr) : TSX := tSeqX (tIfX (tNotP (tBlP (tCBP (rIsI K) (tConsP (tVarP 1) (tConsP (tConP (.raw (.ty "tuple"))) (tNilP)))))) (tRaiseX (XC ("InvalidFixed" : Str)) ("index" : Str) (tConP .non)) (tPlX (tNextP))) (tSeqX (tPlX (tSetP 2 (tConP (.str ("" : Str))))) (tSeqX (tPlX (tSetFP 3 (tLstFP (tNilP)))) (tForX (iEnumP (tVarP 1)) (gTupP 2 (gConsP (gNameP 4) (gConsP (gNameP 5) (gNilP)))) (tSeqX (tIfX (tOrP (tNotP (tBlP (tCallP (sp_names_trip_and_seat K CLine) [] (tConsP (tVarP 0) (tConsP (tVarP 5) (tNilP)))))) (tOrP (tBlP (tOpP rLe (tOpP rIxP (tVarP 5) (tConP (.int 0))) (tVarP 2))) (tBlP (tOpRP (rInL false) (tOpP rIxP (tVarP 5) (tConP (.int 1))) 3)))) (tRaiseX (XC ("InvalidFixed" : Str)) ("index" : Str) (tVarP 4)) (tPlX (tNextP))) (tPlX (tSeqP (tSetP 2 (tOpP rIxP (tVarP 5) (tConP (.int 0)))) (tAppP 3 (tOpP rIxP (tVarP 5) (tConP (.int 1))))))))))
def ts_overfullX (K : PySem.W.Frag) (CLine : Addr) (XC : Str → Addr) : TSX := tSeqX (tExX (tCallX (sp_check_lineX K CLine XC) [] (tConsP (tVarP 0) (tNilP)))) (tPlX tNevP)
def ts_number_ofX (K : PySem.W.Frag) (CLine : Addr) (XC : Str → Addr) : TSX := tSeqX (tExX (tCallX (sp_check_lineX K CLine XC) [] (tConsP (tVarP 0) (tNilP)))) (tSeqX (tExX (tCallX (sp_check_planX K CLine XC) [] (tConsP (tVarP 0) (tConsP (tVarP 1) (tNilP))))) (tPlX tNevP))
def ts_routeX (K : PySem.W.Frag) (CLine : Addr) (XC : Str → Addr) : TSX := tSeqX (tExX (tCallX (sp_check_bothX K CLine XC) [] (tConsP (tVarP 0) (tConsP (tVarP 1) (tConsP (tVarP 2) (tNilP)))))) (tPlX tNevP)
def ts_itineraryX (K : PySem.W.Frag) (CLine : Addr) (XC : Str → Addr) : TSX := tSeqX (tExX (tCallX (sp_check_lineX K CLine XC) [] (tConsP (tVarP 0) (tNilP)))) (tSeqX (tExX (tCallX (sp_check_planX K CLine XC) [] (tConsP (tVarP 0) (tConsP (tVarP 1) (tNilP))))) (tSeqX (tExX (tCallX (sp_check_stationsX K CLine XC) [] (tConsP (tVarP 2) (tConsP (tVarP 3) (tNilP))))) (tPlX tNevP)))
def ts_plan_or_obstacleX (K : PySem.W.Frag) (CLine : Addr) (XC : Str → Addr) : TSX := tSeqX (tExX (tCallX (sp_check_lineX K CLine XC) [] (tConsP (tVarP 0) (tNilP)))) (tSeqX (tExX (tCallX (sp_check_fixedX K CLine XC) [] (tConsP (tVarP 0) (tConsP (tVarP 1) (tNilP))))) (tPlX tNevP))
def ts_certify_plan (K : PySem.W.Frag) (CLine : Addr) (XC : Str → Addr) : TSX := tSeqX (tSetX 1 (tCallX (sp_overfullX K CLine XC) [] (tConsP (tVarP 0) (tNilP)))) (tPlX tNevP)
def ts_certify_route (K : PySem.W.Frag) (CLine : Addr) (XC : Str → Addr) : TSX := tSeqX (tSetX 3 (tCallX (sp_routeX K CLine XC) [] (tConsP (tVarP 0) (tConsP (tVarP 1) (tConsP (tVarP 2) (tNilP)))))) (tPlX tNevP)
def ts_certify_fixed (K : PySem.W.Frag) (CLine : Addr) (XC : Str → Addr) : TSX := tSeqX (tAsgX (tCallX (sp_plan_or_obstacleX K CLine XC) [] (tConsP (tVarP 0) (tConsP (tVarP 1) (tNilP)))) (gTupP 2 (gConsP (gNameP 2) (gConsP (gNameP 3) (gNilP))))) (tPlX tNevP)
def ts_certify_number (K : PySem.W.Frag) (CLine : Addr) (XC : Str → Addr) : TSX := tSeqX (tSetX 2 (tCallX (sp_number_ofX K CLine XC) [] (tConsP (tVarP 0) (tConsP (tVarP 1) (tNilP))))) (tPlX tNevP)
def ts_certify_changes (K : PySem.W.Frag) (CLine : Addr) (XC : Str → Addr) : TSX := tSeqX (tSetX 4 (tCallX (sp_itineraryX K CLine XC) [] (tConsP (tVarP 0) (tConsP (tVarP 1) (tConsP (tVarP 2) (tConsP (tVarP 3) (tNilP))))))) (tPlX tNevP)
def ts_law_bad_plan (K : PySem.W.Frag) (CLine : Addr) : TSp := tSeqP (tSetP 1 (tTupP (tConsP (tTupP (tConsP (tConP (.str ("a" : Str))) (tConsP (tConP (.int 1)) (tNilP)))) (tConsP (tTupP (tConsP (tConP (.str ("b" : Str))) (tConsP (tConP (.int 2)) (tNilP)))) (tConsP (tTupP (tConsP (tConP (.str ("c" : Str))) (tConsP (tConP (.int 1)) (tNilP)))) (tNilP)))))) (tSeqP (tSetFP 2 (tLstFP (tConsP (tTupP (tConsP (tConP .non) (tConsP (tConP .non) (tNilP)))) (tConsP (tTupP (tConsP (tConP (.int 7)) (tConsP (tConP .non) (tNilP)))) (tConsP (tTupP (tConsP (tCBP rList (tConsP (tVarP 1) (tNilP))) (tConsP (tConP .non) (tNilP)))) (tConsP (tTupP (tConsP (tTupP (tNilP)) (tConsP (tConP (.int 0)) (tNilP)))) (tConsP (tTupP (tConsP (tSliceAP (tVarP 1) (tNoPartP) (tPartP (tConP (.int 2)))) (tConsP (tConP (.int 2)) (tNilP)))) (tConsP (tTupP (tConsP (tOpP rAdd (tVarP 1) (tTupP (tConsP (tTupP (tConsP (tConP (.str ("d" : Str))) (tConsP (tConP (.int 1)) (tNilP)))) (tNilP)))) (tConsP (tConP (.int 3)) (tNilP)))) (tNilP))))))))) (tSeqP (tAppP 2 (tTupP (tConsP (tConP (.str ("abc" : Str))) (tConsP (tConP .non) (tNilP))))) (tSeqP (tSetFP 2 (tAddFP (tVarP 2) (tLstP (tConsP (tTupP (tConsP (tTupP (tConsP (tTupP (tConsP (tConP (.str ("a" : Str))) (tConsP (tConP (.int 1)) (tNilP)))) (tConsP (tTupP (tConsP (tConP (.str ("b" : Str))) (tConsP (tConP (.int 1)) (tNilP)))) (tConsP (tTupP (tConsP (tConP (.str ("c" : Str))) (tConsP (tConP (.int 1)) (tNilP)))) (tNilP))))) (tConsP (tConP (.int 1)) (tNilP)))) (tConsP (tTupP (tConsP (tTupP (tConsP (tTupP (tConsP (tConP (.str ("a" : Str))) (tConsP (tConP (.int 3)) (tNilP)))) (tConsP (tTupP (tConsP (tConP (.str ("b" : Str))) (tConsP (tConP (.int 2)) (tNilP)))) (tConsP (tTupP (tConsP (tConP (.str ("c" : Str))) (tConsP (tConP (.int 1)) (tNilP)))) (tNilP))))) (tConsP (tConP (.int 0)) (tNilP)))) (tConsP (tTupP (tConsP (tRevTP (tVarP 1)) (tConsP (tConP (.int 0)) (tNilP)))) (tNilP))))))) (tSeqP (tSetFP 2 (tAddFP (tVarP 2) (tLstP (tConsP (tTupP (tConsP (tTupP (tConsP (tTupP (tConsP (tConP (.str ("a" : Str))) (tConsP (tConP (.int 1)) (tNilP)))) (tConsP (tTupP (tConsP (tConP (.str ("b" : Str))) (tConsP (tConP (.bl true)) (tNilP)))) (tConsP (tTupP (tConsP (tConP (.str ("c" : Str))) (tConsP (tConP (.int 1)) (tNilP)))) (tNilP))))) (tConsP (tConP (.int 1)) (tNilP)))) (tConsP (tTupP (tConsP (tTupP (tConsP (tTupP (tConsP (tConP (.str ("a" : Str))) (tConsP (tConP (.int 1)) (tNilP)))) (tConsP (tTupP (tConsP (tConP (.str ("b" : Str))) (tConsP (tConP (.int 2)) (tNilP)))) (tConsP (tTupP (tConsP (tConP (.str ("c" : Str))) (tConsP (tConP (.int 2)) (tNilP)))) (tNilP))))) (tConsP (tConP (.int 2)) (tNilP)))) (tConsP (tTupP (tConsP (tDic0P) (tConsP (tConP .non) (tNilP)))) (tNilP))))))) (tSeqP (tSetFP 2 (tAddFP (tVarP 2) (tLstP (tConsP (tTupP (tConsP (tTupP (tConsP (tLstP (tConsP (tConP (.str ("a" : Str))) (tConsP (tConP (.int 1)) (tNilP)))) (tConsP (tTupP (tConsP (tConP (.str ("b" : Str))) (tConsP (tConP (.int 2)) (tNilP)))) (tConsP (tTupP (tConsP (tConP (.str ("c" : Str))) (tConsP (tConP (.int 1)) (tNilP)))) (tNilP))))) (tConsP (tConP (.int 0)) (tNilP)))) (tConsP (tTupP (tConsP (tTupP (tConsP (tTupP (tConsP (tConP (.str ("a" : Str))) (tConsP (tConP (.int 1)) (tNilP)))) (tConsP (tTupP (tConsP (tConP (.str ("b" : Str))) (tConsP (tConP (.int 2)) (tNilP)))) (tConsP (tConP .non) (tNilP))))) (tConsP (tConP (.int 2)) (tNilP)))) (tNilP)))))) (tSeqP (tAppP 2 (tTupP (tConsP (tOpP rAdd (tTupP (tConsP (tTupP (tConsP (tConP (.str ("a" : Str))) (tConsP (tLstP (tConsP (tConP (.int 1)) (tNilP))) (tNilP)))) (tNilP))) (tSliceAP (tVarP 1) (tPartP (tConP (.int 1))) (tNoPartP))) (tConsP (tConP (.int 0)) (tNilP))))) (tRetP (tIxOP 2 (tCallRP 0 (sp_law_draw K CLine) (tConsP (tConP (.int 16)) (tNilP)))))))))))
def ts_law_bad_fixed (K : PySem.W.Frag) (CLine : Addr) : TSp := tSeqP (tSetFP 1 (tLstFP (tConsP (tTupP (tConsP (tConP .non) (tConsP (tConP .non) (tNilP)))) (tConsP (tTupP (tConsP (tLstP (tConsP (tTupP (tConsP (tConP (.str ("a" : Str))) (tConsP (tConP (.int 1)) (tNilP)))) (tNilP))) (tConsP (tConP .non) (tNilP)))) (tConsP (tTupP (tConsP (tTupP (tConsP (tTupP (tConsP (tConP (.str ("a" : Str))) (tConsP (tConP (.int 1)) (tNilP)))) (tConsP (tTupP (tConsP (tConP (.str ("b" : Str))) (tConsP (tConP (.int 1)) (tNilP)))) (tNilP)))) (tConsP (tConP (.int 1)) (tNilP)))) (tConsP (tTupP (tConsP (tTupP (tConsP (tTupP (tConsP (tConP (.str ("b" : Str))) (tConsP (tConP (.int 1)) (tNilP)))) (tConsP (tTupP (tConsP (tConP (.str ("a" : Str))) (tConsP (tConP (.int 2)) (tNilP)))) (tNilP)))) (tConsP (tConP (.int 1)) (tNilP)))) (tConsP (tTupP (tConsP (tTupP (tConsP (tTupP (tConsP (tConP (.str ("d" : Str))) (tConsP (tConP (.int 1)) (tNilP)))) (tNilP))) (tConsP (tConP (.int 0)) (tNilP)))) (tNilP)))))))) (tSeqP (tSetFP 1 (tAddFP (tVarP 1) (tLstP (tConsP (tTupP (tConsP (tTupP (tConsP (tTupP (tConsP (tConP (.str ("a" : Str))) (tConsP (tConP (.int 0)) (tNilP)))) (tNilP))) (tConsP (tConP (.int 0)) (tNilP)))) (tConsP (tTupP (tConsP (tTupP (tConsP (tTupP (tConsP (tConP (.str ("a" : Str))) (tConsP (tConP (.int 3)) (tNilP)))) (tNilP))) (tConsP (tConP (.int 0)) (tNilP)))) (tConsP (tTupP (tConsP (tTupP (tConsP (tTupP (tConsP (tConP (.str ("a" : Str))) (tConsP (tConP (.bl true)) (tNilP)))) (tNilP))) (tConsP (tConP (.int 0)) (tNilP)))) (tConsP (tTupP (tConsP (tTupP (tConsP (tTupP (tConsP (tLstP (tConsP (tConP (.str ("a" : Str))) (tNilP))) (tConsP (tConP (.int 1)) (tNilP)))) (tNilP))) (tConsP (tConP (.int 0)) (tNilP)))) (tNilP)))))))) (tSeqP (tAppP 1 (tTupP (tConsP (tTupP (tConsP (tTupP (tConsP (tConP (.str ("a" : Str))) (tConsP (tConP (.int 1)) (tNilP)))) (tConsP (tTupP (tConsP (tConP (.str ("a" : Str))) (tConsP (tConP (.int 2)) (tNilP)))) (tNilP)))) (tConsP (tConP (.int 1)) (tNilP))))) (tRetP (tOpP rIxP (tOpP rAdd (tVarP 1) (tLstP (tConsP (tTupP (tConsP (tTupP (tConsP (tTupP (tConsP (tConP (.str ("a" : Str))) (tConsP (tConP (.int 1)) (tNilP)))) (tConsP (tConP .non) (tNilP)))) (tConsP (tConP (.int 1)) (tNilP)))) (tConsP (tTupP (tConsP (tDic0P) (tConsP (tConP .non) (tNilP)))) (tConsP (tTupP (tConsP (tTupP (tConsP (tTupP (tConsP (tConP (.str ("a" : Str))) (tConsP (tConP (.int 1)) (tConsP (tConP (.int 1)) (tNilP))))) (tNilP))) (tConsP (tConP (.int 0)) (tNilP)))) (tNilP)))))) (tCallRP 0 (sp_law_draw K CLine) (tConsP (tConP (.int 13)) (tNilP)))))))
def ts_law_rows_of_plans (K : PySem.W.Frag) (CLine : Addr) (XC : Str → Addr) : TSp := tSeqP (tParP [3, 4, 5] (tConsV (tTupP (tConsP (tTupP (tConsP (tConP (.str ("a" : Str))) (tConsP (tConP (.int 1)) (tNilP)))) (tConsP (tTupP (tConsP (tConP (.str ("b" : Str))) (tConsP (tConP (.int 2)) (tNilP)))) (tConsP (tTupP (tConsP (tConP (.str ("c" : Str))) (tConsP (tConP (.int 1)) (tNilP)))) (tNilP))))) (tConsV (tCallRP 0 (sp_law_bad_plan K CLine) (tNilP)) (tConsV (tCallRP 0 (sp_law_bad_plan K CLine) (tNilP)) (tNilAr))))) (tSeqP (tSetFP 6 (tLstFP (tConsP (tLstP (tConsP (tCaughtP K [.ref (XC ("SeatError" : Str)), .ref (XC ("StateError" : Str)), .ref (XC ("SizeError" : Str))] ("returned" : Str) (tCallX (sp_certify_plan K CLine XC) [] (tConsP (tVarP 2) (tNilP))) (ts_law_caught K CLine XC)) (tConsP (tLstP (tConsP (tConP (.str ("notline" : Str))) (tConsP (tVarP 2) (tNilP)))) (tNilP)))) (tNilP)))) (tSeqP (tAppP 6 (tLstP (tConsP (tCaughtP K [.ref (XC ("SeatError" : Str)), .ref (XC ("StateError" : Str)), .ref (XC ("SizeError" : Str))] ("returned" : Str) (tCallX (sp_certify_route K CLine XC) [] (tConsP (tVarP 2) (tConsP (tOpP rIxP (tVarP 4) (tConP (.int 0))) (tConsP (tOpP rIxP (tVarP 5) (tConP (.int 0))) (tNilP))))) (ts_law_caught K CLine XC)) (tConsP (tLstP (tConsP (tConP (.str ("notline" : Str))) (tConsP (tVarP 2) (tNilP)))) (tNilP))))) (tSeqP (tAppP 6 (tLstP (tConsP (tCaughtP K [.ref (XC ("SeatError" : Str)), .ref (XC ("StateError" : Str)), .ref (XC ("SizeError" : Str))] ("returned" : Str) (tCallX (sp_certify_route K CLine XC) [] (tConsP (tVarP 1) (tConsP (tOpP rIxP (tVarP 4) (tConP (.int 0))) (tConsP (tOpP rIxP (tVarP 5) (tConP (.int 0))) (tNilP))))) (ts_law_caught K CLine XC)) (tConsP (tLstP (tConsP (tConP (.str ("plan" : Str))) (tConsP (tOpP rIxP (tVarP 4) (tConP (.int 1))) (tNilP)))) (tNilP))))) (tSeqP (tAppP 6 (tLstP (tConsP (tCaughtP K [.ref (XC ("SeatError" : Str)), .ref (XC ("StateError" : Str)), .ref (XC ("SizeError" : Str))] ("returned" : Str) (tCallKX (sp_certify_route K CLine XC) 3 [2, 1, 0] (tConsP (tOpP rIxP (tVarP 5) (tConP (.int 0))) (tConsP (tVarP 3) (tConsP (tVarP 1) (tNilP))))) (ts_law_caught K CLine XC)) (tConsP (tLstP (tConsP (tConP (.str ("plan" : Str))) (tConsP (tOpP rIxP (tVarP 5) (tConP (.int 1))) (tNilP)))) (tNilP))))) (tSeqP (tAppP 6 (tLstP (tConsP (tCaughtP K [.ref (XC ("SeatError" : Str)), .ref (XC ("StateError" : Str)), .ref (XC ("SizeError" : Str))] ("returned" : Str) (tCallX (sp_certify_number K CLine XC) [] (tConsP (tVarP 2) (tConsP (tOpP rIxP (tVarP 4) (tConP (.int 0))) (tNilP)))) (ts_law_caught K CLine XC)) (tConsP (tLstP (tConsP (tConP (.str ("notline" : Str))) (tConsP (tVarP 2) (tNilP)))) (tNilP))))) (tSeqP (tAppP 6 (tLstP (tConsP (tCaughtP K [.ref (XC ("SeatError" : Str)), .ref (XC ("StateError" : Str)), .ref (XC ("SizeError" : Str))] ("returned" : Str) (tCallKX (sp_certify_number K CLine XC) 2 [1, 0] (tConsP (tOpP rIxP (tVarP 4) (tConP (.int 0))) (tConsP (tVarP 1) (tNilP)))) (ts_law_caught K CLine XC)) (tConsP (tLstP (tConsP (tConP (.str ("plan" : Str))) (tConsP (tOpP rIxP (tVarP 4) (tConP (.int 1))) (tNilP)))) (tNilP))))) (tRetP (tVarP 6))))))))
def ts_law_rows_of_seats (K : PySem.W.Frag) (CLine : Addr) (XC : Str → Addr) : TSp := tSeqP (tParP [4, 5, 6] (tConsV (tTupP (tConsP (tTupP (tConsP (tConP (.str ("a" : Str))) (tConsP (tConP (.int 1)) (tNilP)))) (tConsP (tTupP (tConsP (tConP (.str ("b" : Str))) (tConsP (tConP (.int 2)) (tNilP)))) (tConsP (tTupP (tConsP (tConP (.str ("c" : Str))) (tConsP (tConP (.int 1)) (tNilP)))) (tNilP))))) (tConsV (tCallRP 0 (sp_law_bad_plan K CLine) (tNilP)) (tConsV (tCallRP 0 (sp_law_bad_fixed K CLine) (tNilP)) (tNilAr))))) (tSeqP (tSetFP 7 (tLstFP (tConsP (tLstP (tConsP (tCaughtP K [.ref (XC ("SeatError" : Str)), .ref (XC ("StateError" : Str)), .ref (XC ("SizeError" : Str))] ("returned" : Str) (tCallX (sp_certify_fixed K CLine XC) [] (tConsP (tVarP 2) (tConsP (tOpP rIxP (tVarP 6) (tConP (.int 0))) (tNilP)))) (ts_law_caught K CLine XC)) (tConsP (tLstP (tConsP (tConP (.str ("notline" : Str))) (tConsP (tVarP 2) (tNilP)))) (tNilP)))) (tNilP)))) (tSeqP (tAppP 7 (tLstP (tConsP (tCaughtP K [.ref (XC ("SeatError" : Str)), .ref (XC ("StateError" : Str)), .ref (XC ("SizeError" : Str))] ("returned" : Str) (tCallKX (sp_certify_fixed K CLine XC) 2 [1, 0] (tConsP (tOpP rIxP (tVarP 6) (tConP (.int 0))) (tConsP (tVarP 1) (tNilP)))) (ts_law_caught K CLine XC)) (tConsP (tLstP (tConsP (tConP (.str ("fixed" : Str))) (tConsP (tOpP rIxP (tVarP 6) (tConP (.int 1))) (tNilP)))) (tNilP))))) (tSeqP (tAppP 7 (tLstP (tConsP (tCaughtP K [.ref (XC ("SeatError" : Str)), .ref (XC ("StateError" : Str)), .ref (XC ("SizeError" : Str))] ("returned" : Str) (tCallX (sp_certify_changes K CLine XC) [] (tConsP (tVarP 2) (tConsP (tOpP rIxP (tVarP 5) (tConP (.int 0))) (tConsP (tVarP 3) (tConsP (tVarP 3) (tNilP)))))) (ts_law_caught K CLine XC)) (tConsP (tLstP (tConsP (tConP (.str ("notline" : Str))) (tConsP (tVarP 2) (tNilP)))) (tNilP))))) (tSeqP (tAppP 7 (tLstP (tConsP (tCaughtP K [.ref (XC ("SeatError" : Str)), .ref (XC ("StateError" : Str)), .ref (XC ("SizeError" : Str))] ("returned" : Str) (tCallX (sp_certify_changes K CLine XC) [] (tConsP (tVarP 1) (tConsP (tOpP rIxP (tVarP 5) (tConP (.int 0))) (tConsP (tVarP 3) (tConsP (tVarP 3) (tNilP)))))) (ts_law_caught K CLine XC)) (tConsP (tLstP (tConsP (tConP (.str ("plan" : Str))) (tConsP (tOpP rIxP (tVarP 5) (tConP (.int 1))) (tNilP)))) (tNilP))))) (tSeqP (tAppP 7 (tLstP (tConsP (tCaughtP K [.ref (XC ("SeatError" : Str)), .ref (XC ("StateError" : Str)), .ref (XC ("SizeError" : Str))] ("returned" : Str) (tCallX (sp_certify_changes K CLine XC) [] (tConsP (tVarP 1) (tConsP (tVarP 4) (tConsP (tVarP 3) (tConsP (tConP (.int 0)) (tNilP)))))) (ts_law_caught K CLine XC)) (tConsP (tLstP (tConsP (tConP (.str ("station" : Str))) (tConsP (tVarP 3) (tNilP)))) (tNilP))))) (tSeqP (tAppP 7 (tLstP (tConsP (tCaughtP K [.ref (XC ("SeatError" : Str)), .ref (XC ("StateError" : Str)), .ref (XC ("SizeError" : Str))] ("returned" : Str) (tCallKX (sp_certify_changes K CLine XC) 4 [3, 2, 1, 0] (tConsP (tVarP 3) (tConsP (tConP (.int 3)) (tConsP (tVarP 4) (tConsP (tVarP 1) (tNilP)))))) (ts_law_caught K CLine XC)) (tConsP (tLstP (tConsP (tConP (.str ("station" : Str))) (tConsP (tVarP 3) (tNilP)))) (tNilP))))) (tSeqP (tAppP 7 (tLstP (tConsP (tCaughtP K [.ref (XC ("SeatError" : Str)), .ref (XC ("StateError" : Str)), .ref (XC ("SizeError" : Str))] ("returned" : Str) (tCallX (sp_certify_changes K CLine XC) [] (tConsP (tVarP 1) (tConsP (tVarP 4) (tConsP (tConP (.int 3)) (tConsP (tConP (.int 3)) (tNilP)))))) (ts_law_caught K CLine XC)) (tConsP (tLstP (tConsP (tConP (.str ("station" : Str))) (tConsP (tConP (.int 3)) (tNilP)))) (tNilP))))) (tRetP (tVarP 7)))))))))
def ts_law_right84 (K : PySem.W.Frag) (CLine : Addr) (XC : Str → Addr) : TSp := tSeqP (tSetP 1 (tNewP CLine (sp_Line_init K CLine) [] (tConsP (tConP (.int 2)) (tConsP (tTupP (tConsP (tTupP (tConsP (tConP (.str ("a" : Str))) (tConsP (tConP (.int 0)) (tConsP (tConP (.int 3)) (tNilP))))) (tConsP (tTupP (tConsP (tConP (.str ("b" : Str))) (tConsP (tConP (.int 2)) (tConsP (tConP (.int 5)) (tNilP))))) (tConsP (tTupP (tConsP (tConP (.str ("c" : Str))) (tConsP (tConP (.int 3)) (tConsP (tConP (.int 4)) (tNilP))))) (tNilP))))) (tNilP))))) (tSeqP (tForP (iRng1P (tConP (.int 4))) (gNameP 2) (tSeqP (tSetP 3 (tOpP rIxP (tLstP (tConsP (tConP .non) (tConsP (tStrOP CLine (sp_Line_str K CLine) (tConsP (tVarP 1) (tNilP))) (tConsP (tTupP (tConsP (tConP (.int 2)) (tConsP (tPropP CLine (sp_Line_trips K CLine) (tVarP 1)) (tNilP)))) (tConsP (tConP (.int 7)) (tConsP (tLstP (tNilP)) (tConsP (tDic0P) (tConsP (tConP (.bl true)) (tConsP (tLstP (tConsP (tVarP 1) (tNilP))) (tConsP (tTupP (tNilP)) (tNilP))))))))))) (tCallRP 0 (sp_law_draw K CLine) (tConsP (tConP (.int 9)) (tNilP))))) (tSeqP (tSetP 4 (tOpP rIxP (tLstP (tConsP (tConP .non) (tConsP (tConP (.str ("0" : Str))) (tConsP (tOpP rSub (tConP (.int 0)) (tConP (.int 1))) (tConsP (tConP (.bl true)) (tConsP (tConP (.bl false)) (tConsP (tTupP (tConsP (tConP (.int 0)) (tNilP))) (tConsP (tLstP (tConsP (tConP (.int 0)) (tNilP))) (tConsP (tDic0P) (tConsP (tOpP rSub (tConP (.int 0)) (tOpP rPow (tConP (.int 10)) (tConP (.int 30)))) (tNilP))))))))))) (tCallRP 0 (sp_law_draw K CLine) (tConsP (tConP (.int 9)) (tNilP))))) (tSeqP (tSetP 5 (tOpP rAdd (tCallRP 0 (sp_law_rows_of_plans K CLine XC) (tConsP (tVarP 1) (tConsP (tVarP 3) (tNilP)))) (tCallRP 0 (sp_law_rows_of_seats K CLine XC) (tConsP (tVarP 1) (tConsP (tVarP 3) (tConsP (tVarP 4) (tNilP))))))) (tIfSP (tNotP (tBlP (tCBP rAllP (tConsP (tValP (tLcP (iListP (tVarP 5)) (gNameP 6) (tYesP) (tOpP (rEqI false) (tEitP (tCBP rReprE (tConsP (tOpP rIxP (tVarP 6) (tConP (.int 0))) (tNilP))) (tReprLP CLine (sp_Line_repr K CLine) (tConsP (tOpP rIxP (tVarP 6) (tConP (.int 0))) (tNilP)))) (tEitP (tCBP rReprE (tConsP (tOpP rIxP (tVarP 6) (tConP (.int 1))) (tNilP))) (tReprLP CLine (sp_Line_repr K CLine) (tConsP (tOpP rIxP (tVarP 6) (tConP (.int 1))) (tNilP))))) [6])) (tNilP))))) (tRetP (tConP (.bl false))) (tNextP)))))) (tRetP (tConP (.bl true))))
def ts_law84 (K : PySem.W.Frag) (CLine : Addr) (XC : Str → Addr) : TSp := tRetP (tCBP rAllP (tConsP (tValP (tLcP (iRng1P (tCBP rMax2 (tConsP (tConP (.int 2)) (tConsP (tCBP rMin2 (tConsP (tCBP rLen (tConsP (tVarP 0) (tNilP))) (tConsP (tConP (.int 6)) (tNilP)))) (tNilP))))) (gNameP 1) (tYesP) (tCallRFP (tCallFP (sp_law_pool K CLine) (tConsP (tCallP (sp_law_cell K CLine) [] (tConsP (tVarP 0) (tConsP (tVarP 1) (tNilP)))) (tNilP))) (sp_law_right84 K CLine XC) (tNilP)) [1])) (tNilP)))
section
variable {K : PySem.W.Frag} {C : Addr} {XC : Str → Addr} {args : List PV} {P : PV → Prop} {PR : PV → Ow → Prop} {o : Ow} {Zw : WC}
theorem len_check_lineX (h : sp_check_lineX K C XC args P Zw) : args.length = 1 := by obtain ⟨_, rfl, _⟩ := h; rfl
theorem len_check_planX (h : sp_check_planX K C XC args P Zw) : args.length = 2 := by obtain ⟨_, _, rfl, _⟩ := h; rfl
theorem len_check_bothX (h : sp_check_bothX K C XC args P Zw) : args.length = 3 := by obtain ⟨_, _, _, rfl, _⟩ := h; rfl
theorem len_check_stationsX (h : sp_check_stationsX K C XC args P Zw) : args.length = 2 := by obtain ⟨_, _, rfl, _⟩ := h; rfl
theorem len_check_fixedX (h : sp_check_fixedX K C XC args P Zw) : args.length = 2 := by obtain ⟨_, _, rfl, _⟩ := h; rfl
theorem len_overfullX (h : sp_overfullX K C XC args P Zw) : args.length = 1 := by obtain ⟨_, rfl, _⟩ := h; rfl
theorem len_number_ofX (h : sp_number_ofX K C XC args P Zw) : args.length = 2 := by obtain ⟨_, _, rfl, _⟩ := h; rfl
theorem len_routeX (h : sp_routeX K C XC args P Zw) : args.length = 3 := by obtain ⟨_, _, _, rfl, _⟩ := h; rfl
theorem len_itineraryX (h : sp_itineraryX K C XC args P Zw) : args.length = 4 := by obtain ⟨_, _, _, _, rfl, _⟩ := h; rfl
theorem len_plan_or_obstacleX (h : sp_plan_or_obstacleX K C XC args P Zw) : args.length = 2 := by obtain ⟨_, _, rfl, _⟩ := h; rfl
theorem len_certify_plan (h : sp_certify_plan K C XC args P Zw) : args.length = 1 := len_overfullX h
theorem len_certify_route (h : sp_certify_route K C XC args P Zw) : args.length = 3 := len_routeX h
theorem len_certify_fixed (h : sp_certify_fixed K C XC args P Zw) : args.length = 2 := len_plan_or_obstacleX h
theorem len_certify_number (h : sp_certify_number K C XC args P Zw) : args.length = 2 := len_number_ofX h
theorem len_certify_changes (h : sp_certify_changes K C XC args P Zw) : args.length = 4 := len_itineraryX h
theorem len_law_bad_plan (h : sp_law_bad_plan K C o args PR) : args.length = 0 := by obtain ⟨_, rfl, _⟩ := h; rfl
theorem len_law_bad_fixed (h : sp_law_bad_fixed K C o args PR) : args.length = 0 := by obtain ⟨_, rfl, _⟩ := h; rfl
theorem len_law_rows_of_plans (h : sp_law_rows_of_plans K C XC o args PR) : args.length = 2 := by obtain ⟨_, _, rfl, _⟩ := h; rfl
theorem len_law_rows_of_seats (h : sp_law_rows_of_seats K C XC o args PR) : args.length = 3 := by obtain ⟨_, _, _, rfl, _⟩ := h; rfl
theorem len_law_right84 (h : sp_law_right84 K C XC o args PR) : args.length = 0 := by obtain ⟨_, rfl, _⟩ := h; rfl
theorem len_law84 (h : sp_law84 K C XC args P) : args.length = 1 := by obtain ⟨_, rfl, _⟩ := h; rfl
end
theorem q_inI8 {x : Int} {ws : List Int} {Q : PV → Prop} (h : Q (.bl (decide (x ∈ ws)))) : rInL false (.int x) (.lst (ws.map .int)) Q := ⟨_, _, _, rfl, rfl, flVs_ints ws, by rw [if_neg Bool.false_ne_true, inV_ints]; exact h⟩
theorem q_leS8 {a b : Str} {Q : PV → Prop} (h : Q (.bl (!decide (b.cps.toList < a.cps.toList)))) : rLe (.str a) (.str b) Q := h
theorem w_opR8 {r : R2p} {ti : TEp} {i : Nat} {η : EP'} {P : PV → EP' → Prop} (h : ti η fun x η1 => ∃ o, η1[i]? = some (Sl.ow o) ∧ r x (frz o) fun z => ∃ b, z = .bl b ∧ P (.bl b) η1) : tOpRP r ti i η P := h
theorem w_setX8 {i : Nat} {te : TXp} {D : EndsP} {Zw : WZ} {η : EP'} (h : te η (fun x η1 => D.nx (η1.set i (.va x))) Zw) : tSetX i te D Zw η := h
theorem w_asgX8 {te : TXp} {g : TGp} {D : EndsP} {Zw : WZ} {η : EP'} (h : te η (fun x η1 => g x η1 D.nx) Zw) : tAsgX te g D Zw η := h
theorem w_forX8 {ti : TIp} {g : TGp} {tb : TSX} {D : EndsP} {Zw : WZ} {η : EP'} (h : ti η fun xs η1 => ∃ Inv : Nat → EP' → Prop, Inv 0 η1 ∧
 (∀ i x η2, xs[i]? = some x → Inv i η2 → g x η2 fun η3 => tb { D with nx := Inv (i + 1), ct := Inv (i + 1), bk := D.nx } Zw η3) ∧ ∀ η2, Inv xs.length η2 → D.nx η2) : tForX ti g tb D Zw η := h
theorem isi_line8 {K : PySem.W.Frag} {C : Addr} {n : Int} {rs : List Trip} {Q : PV → Prop} (hC : ClsT K C) (h : Q (.bl true)) : rIsI K [lineP C n rs, .raw (.ref C)] Q := ⟨rfl, hC, h⟩
theorem isi_no8 {K : PySem.W.Frag} {C : Addr} {x : PV} {Q : PV → Prop} (hC : ClsT K C) (hx : (tyN x).isSome = true) (h : Q (.bl false)) : rIsI K [x, .raw (.ref C)] Q := by
 cases x <;> first | exact ⟨hC, by simp, h⟩ | cases hx
theorem fixGo_none {n : Int} {rs : List Trip} {i : Nat} {b : Str} {ss : List Int} : fixGo n rs i b ss [] = none := by unfold fixGo; rfl
theorem fixGo_cons {n : Int} {rs : List Trip} {i : Nat} {b : Str} {ss : List Int} {x : PV} {xs : List PV} : fixGo n rs i b ss (x :: xs) = if fixOk n rs b ss x = true then fixGo n rs (i + 1) (nmOf x) (ss ++ [seatOf x]) xs else some i := rfl
theorem fix_pair {n : Int} {rs : List Trip} {b : Str} {ss : List Int} {x : PV} (h : pairOkB n rs x = true) : ∃ w s, x = .tup [.str w, .int s] := by
 unfold pairOkB at h
 split at h
 ·rename_i a b
  obtain ⟨h1, h2⟩ := Bool.and_eq_true_iff.mp h
  cases a <;> (try cases h1)
  cases b <;> (try cases h2)
  exact ⟨_, _, rfl⟩
 ·cases h
theorem fixOk_no {n : Int} {rs : List Trip} {b : Str} {ss : List Int} {x : PV} (h : pairOkB n rs x = false) : fixOk n rs b ss x = false := by
 unfold fixOk
 split
 ·rw [h, Bool.false_and]
 ·rfl
section
variable {K : PySem.W.Frag} {C : Addr} {XC : Str → Addr} {args : List PV} {P : PV → Prop} {PR : PV → Ow → Prop} {o : Ow} {Zw : WC}
theorem rd_check_lineX (h : sp_check_lineX K C XC args P Zw) : ts_check_lineX K C XC { nx := fun _ => P .non, rt := fun x _ => P x } (fun C fs _ => Zw C fs) (startP 1 args) := by
 obtain ⟨x, rfl, hC, h⟩ := h
 have e : startP 1 [x] = [.va x] := rfl
 rw [e]
 refine w_ifX1 (w_not (w_bl (w_cb (w_cons (w_var (x := x) rfl (w_cons (w_con (w_nil ?_))))))))
 rcases h with ⟨n, rs, rfl, hp⟩ | ⟨hx, hz⟩
 ·exact isi_line8 hC (q_iteF (w_plX1 (w_next hp)))
 ·exact isi_no8 hC hx (q_iteT (w_raiseX1 (w_var (x := x) rfl hz)))
theorem rd_check_planX (h : sp_check_planX K C XC args P Zw) : ts_check_planX K C XC { nx := fun _ => P .non, rt := fun x _ => P x } (fun C fs _ => Zw C fs) (startP 3 args) := by
 obtain ⟨x, p, rfl, h⟩ := h
 obtain ⟨n, rs, rfl, ⟨n1, n2, hw⟩, ⟨kp, kx⟩, h1, h2⟩ : ∃ n rs, x = lineP C n rs ∧ LnG n rs ∧ KnPl K p ∧ (planRes n rs p = none → P .non) ∧ ∀ y, planRes n rs p = some y → Zw (XC ("InvalidPlan" : Str)) [(("index" : Str), y)] := by
  rcases h with ⟨⟨n, rs, e, g, k, z⟩, hp⟩ | ⟨n, rs, y, e, g, k, z, hp⟩
  ·exact ⟨n, rs, e, g, k, fun _ => hp, fun y q => by rw [z] at q; cases q⟩
  ·exact ⟨n, rs, e, g, k, fun q => by (rw [z] at q; cases q), fun y' q => by rw [z] at q; cases q; exact hp⟩
 have e : startP 3 [lineP C n rs, p] = [.va (lineP C n rs), .va p, .no] := rfl
 rw [e]
 refine w_seqX1 (w_ifX1 (w_not (w_bl (w_cb (w_cons (w_var (x := p) rfl (w_cons (w_con (w_nil (isi_tuple kp ?_))))))))))
 cases p with
 | tup xs =>
  refine q_iteF (w_plX1 (w_next ?_))
  dsimp only
  refine w_seqX1 (w_plX1 (w_set (w_call (w_cons (w_var (x := lineP C n rs) rfl (w_cons (w_var (x := .tup xs) rfl (w_nil ⟨n, rs, xs, rfl, n1, n2, hw, (kx xs rfl).2, ?_⟩))))))))
  simp only [List.set_cons_zero, List.set_cons_succ]
  have hr : planRes n rs (.tup xs) = if validGo n rs xs [] < xs.length ∨ validGo n rs xs [] < rs.length then some (.int (validGo n rs xs [])) else none := rfl
  refine w_ifX1 (w_or (w_bl (w_op (w_var (x := .int (validGo n rs xs [] : Int)) rfl (w_cb (w_cons (w_var (x := .tup xs) rfl (w_nil (q_lenT (q_lt ?_))))))))))
  by_cases c1 : ((validGo n rs xs [] : Nat) : Int) < (xs.length : Int)
  ·rw [decide_eq_true c1]
   rw [if_pos (.inl (by omega))] at hr
   exact q_iteT (q_iteT (w_raiseX1 (w_var (x := .int (validGo n rs xs [] : Int)) rfl (h2 _ hr))))
  rw [decide_eq_false c1]
  refine q_iteF (w_bl (w_op (w_var (x := .int (validGo n rs xs [] : Int)) rfl (w_cb (w_cons (w_prop' (w_var (x := lineP C n rs) rfl ⟨⟨_, rfl⟩, n, rs, rfl, w_nil (q_lenT (q_lt ?_))⟩)))))))
  rw [List.length_map]
  by_cases c2 : ((validGo n rs xs [] : Nat) : Int) < (rs.length : Int)
  ·rw [decide_eq_true c2]
   rw [if_pos (.inr (by omega))] at hr
   exact q_iteT (w_raiseX1 (w_var (x := .int (validGo n rs xs [] : Int)) rfl (h2 _ hr)))
  rw [decide_eq_false c2]
  rw [if_neg (by omega)] at hr
  exact q_iteF (w_plX1 (w_next (h1 hr)))
 | _ => exact q_iteT (w_raiseX1 (w_con (h2 _ rfl)))
theorem rd_check_stationsX (h : sp_check_stationsX K C XC args P Zw) : ts_check_stationsX K C XC { nx := fun _ => P .non, rt := fun x _ => P x } (fun C fs _ => Zw C fs) (startP 2 args) := by
 obtain ⟨s, t, rfl, h⟩ := h
 have e : startP 2 [s, t] = [.va s, .va t] := rfl
 rw [e]
 rcases h with ⟨i, j, rfl, rfl, i0, ij, hp⟩ | ⟨ks, ⟨hs, hz⟩ | ⟨i, rfl, i0, kt, ht, hz⟩⟩
 ·refine w_seqX1 (w_ifX1 (w_not (w_bl (w_call (w_cons (w_var (x := .int i) rfl (w_nil ⟨.int i, rfl, .inl rfl, ?_⟩)))))))
  rw [show isStn (.int i) = true from decide_eq_true i0]
  refine q_iteF (w_plX1 (w_next ?_))
  dsimp only
  refine w_ifX1 (w_not (w_bl (w_call (w_cons (w_var (x := .int j) rfl (w_cons (w_var (x := .int i) rfl (w_nil ⟨.int j, i, rfl, .inl rfl, ?_⟩))))))))
  rw [show isLat i (.int j) = true from decide_eq_true ij]
  exact q_iteF (w_plX1 (w_next hp))
 ·refine w_seqX1 (w_ifX1 (w_not (w_bl (w_call (w_cons (w_var (x := s) rfl (w_nil ⟨s, rfl, ks, ?_⟩)))))))
  rw [hs]
  exact q_iteT (w_raiseX1 (w_var (x := s) rfl hz))
 ·refine w_seqX1 (w_ifX1 (w_not (w_bl (w_call (w_cons (w_var (x := .int i) rfl (w_nil ⟨.int i, rfl, .inl rfl, ?_⟩)))))))
  rw [show isStn (.int i) = true from decide_eq_true i0]
  refine q_iteF (w_plX1 (w_next ?_))
  dsimp only
  refine w_ifX1 (w_not (w_bl (w_call (w_cons (w_var (x := t) rfl (w_cons (w_var (x := .int i) rfl (w_nil ⟨t, i, rfl, kt, ?_⟩))))))))
  rw [ht]
  exact q_iteT (w_raiseX1 (w_var (x := t) rfl hz))
theorem rd_check_fixedX (h : sp_check_fixedX K C XC args P Zw) : ts_check_fixedX K C XC { nx := fun _ => P .non, rt := fun x _ => P x } (fun C fs _ => Zw C fs) (startP 6 args) := by
 obtain ⟨x, p, rfl, h⟩ := h
 obtain ⟨n, rs, rfl, ⟨n1, n2, hw⟩, ⟨kp, kx⟩, h1, h2⟩ : ∃ n rs, x = lineP C n rs ∧ LnG n rs ∧ KnPl K p ∧ (fixRes n rs p = none → P .non) ∧ ∀ y, fixRes n rs p = some y → Zw (XC ("InvalidFixed" : Str)) [(("index" : Str), y)] := by
  rcases h with ⟨n, rs, e, g, k, z, hp⟩ | ⟨n, rs, y, e, g, k, z, hp⟩
  ·exact ⟨n, rs, e, g, k, fun _ => hp, fun y q => by rw [z] at q; cases q⟩
  ·exact ⟨n, rs, e, g, k, fun q => by (rw [z] at q; cases q), fun y' q => by rw [z] at q; cases q; exact hp⟩
 have e : startP 6 [lineP C n rs, p] = [.va (lineP C n rs), .va p, .no, .no, .no, .no] := rfl
 rw [e]
 have sz : 2000 < sizeLine := by decide
 refine w_seqX1 (w_ifX1 (w_not (w_bl (w_cb (w_cons (w_var (x := p) rfl (w_cons (w_con (w_nil (isi_tuple kp ?_))))))))))
 cases p with
 | tup xs =>
  obtain ⟨hl, hk⟩ := kx xs rfl
  have hr : fixRes n rs (.tup xs) = (fixGo n rs 0 ("" : Str) [] xs).map fun (i : Nat) => PV.int (i : Int) := rfl
  refine q_iteF (w_plX1 (w_next ?_))
  dsimp only
  refine w_seqX1 (w_plX1 (w_set (w_con ?_)))
  simp only [List.set_cons_zero, List.set_cons_succ]
  refine w_seqX1 (w_plX1 (w_setF (by decide) (w_lstF (w_nil ⟨by show 0 ≤ sizeLine; omega, by show 3 < 6; decide, ?_⟩))))
  simp only [List.set_cons_zero, List.set_cons_succ]
  refine w_forX8 (w_enumX (w_var (x := .tup xs) rfl ?_))
  refine ⟨fun i η => ∃ (b : Str) (ss : List Int) (s4 s5 : Sl), fixGo n rs i b ss (xs.drop i) = fixGo n rs 0 ("" : Str) [] xs ∧ ss.length = i ∧ η = [.va (lineP C n rs), .va (.tup xs), .va (.str b), .ow (.l (ss.map .int)), s4, s5], ⟨_, [], _, _, rfl, rfl, rfl⟩, ?_, ?_⟩
  ·rintro i y η hi ⟨b, ss, s4, s5, hv, sl, rfl⟩
   obtain ⟨z, hz, rfl⟩ := enumP_get hi
   have hil : i < xs.length := (List.getElem?_eq_some_iff.mp hz).1
   have ex : xs.drop i = z :: xs.drop (i + 1) := by obtain ⟨q1, q2⟩ := List.getElem?_eq_some_iff.mp hz; rw [← q2, List.getElem_cons_drop]
   rw [ex, fixGo_cons] at hv
   have hkz := hk z (List.mem_of_getElem? hz)
   have out : fixOk n rs b ss z = false → Zw (XC ("InvalidFixed" : Str)) [(("index" : Str), .int (i : Int))] := fun q => by
    rw [q, if_neg Bool.false_ne_true] at hv
    exact h2 _ (by rw [hr, ← hv]; rfl)
   refine w_gpS ?_
   simp only [List.set_cons_zero, List.set_cons_succ]
   refine w_seqX1 (w_ifX1 (w_or (w_not (w_bl (w_call (w_cons (w_var (x := lineP C n rs) rfl (w_cons (w_var (x := z) rfl (w_nil ⟨n, rs, z, rfl, hkz, ?_⟩))))))))))
   cases hpo : pairOkB n rs z with
   | false => exact q_iteT (q_iteT (w_raiseX1 (w_var (x := .int (i : Int)) rfl (out (fixOk_no hpo)))))
   | true =>
    obtain ⟨w, s, rfl⟩ := fix_pair (b := b) (ss := ss) hpo
    have hok : fixOk n rs b ss (.tup [.str w, .int s]) = (decide (b.cps.toList < w.cps.toList) && !decide (s ∈ ss)) := by
     show (pairOkB n rs (.tup [.str w, .int s]) && (decide (b.cps.toList < w.cps.toList) && !decide (s ∈ ss))) = _
     rw [hpo, Bool.true_and]
    refine q_iteF (w_or (w_bl (w_op (w_op (w_var (x := .tup [.str w, .int s]) rfl (w_con (q_ixT (x := .str w) rfl (w_var (x := .str b) rfl (q_leS8 ?_)))))))))
    by_cases c1 : b.cps.toList < w.cps.toList
    ·rw [decide_eq_true c1] at hok ⊢
     rw [Bool.true_and] at hok
     refine q_iteF (w_bl (w_opR8 (w_op (w_var (x := .tup [.str w, .int s]) rfl (w_con (q_ixT (x := .int s) rfl ⟨_, rfl, q_inI8 ⟨_, rfl, ?_⟩⟩))))))
     by_cases c2 : s ∈ ss
     ·rw [decide_eq_true c2] at hok ⊢
      exact q_iteT (w_raiseX1 (w_var (x := .int (i : Int)) rfl (out hok)))
     ·rw [decide_eq_false c2] at hok ⊢
      refine q_iteF (w_plX1 (w_next ?_))
      dsimp only
      rw [hok, if_pos (by rfl)] at hv
      refine w_plX1 (w_seq (w_set (w_op (w_var (x := .tup [.str w, .int s]) rfl (w_con (q_ixT (x := .str w) rfl ?_))))))
      simp only [List.set_cons_zero, List.set_cons_succ]
      refine w_app (xs := ss.map .int) rfl (w_op (w_var (x := .tup [.str w, .int s]) rfl (w_con (q_ixT (x := .int s) rfl (q_appM rfl ?_ ?_)))))
      ·rw [List.length_map]; omega
      simp only [List.set_cons_zero, List.set_cons_succ]
      exact ⟨w, ss ++ [s], _, _, hv, by rw [List.length_append, sl]; rfl, by rw [List.map_append]; rfl⟩
    ·rw [decide_eq_false c1] at hok ⊢
     exact q_iteT (q_iteT (w_raiseX1 (w_var (x := .int (i : Int)) rfl (out (by rw [hok]; rfl)))))
  ·rintro η ⟨b, ss, s4, s5, hv, sl, rfl⟩
   dsimp only
   rw [enumX_len, List.drop_length, fixGo_none] at hv
   exact h1 (by rw [hr, ← hv]; rfl)
 | _ => exact q_iteT (w_raiseX1 (w_con (h2 _ rfl)))
theorem BadP.line {x p : PV} (h : BadP K C XC x p Zw) : ∃ n rs, x = lineP C n rs := by obtain ⟨n, rs, _, e, _⟩ := h; exact ⟨n, rs, e⟩
theorem GoodP.line {x p : PV} (h : GoodP K C x p) : ∃ n rs, x = lineP C n rs := by obtain ⟨n, rs, e, _⟩ := h; exact ⟨n, rs, e⟩
theorem BadF.line {x p : PV} (h : BadF K C XC x p Zw) : ∃ n rs, x = lineP C n rs := by obtain ⟨n, rs, _, e, _⟩ := h; exact ⟨n, rs, e⟩
theorem rd_overfullX (h : sp_overfullX K C XC args P Zw) : ts_overfullX K C XC { nx := fun _ => P .non, rt := fun x _ => P x } (fun C fs _ => Zw C fs) (startP 4 args) := by
 obtain ⟨x, rfl, hC, hz⟩ := h
 exact w_seqX1 (w_exX1 (w_callX1 (w_cons (w_var (x := x) rfl (w_nil ⟨x, rfl, hC, .inr hz⟩)))))
theorem rd_number_ofX (h : sp_number_ofX K C XC args P Zw) : ts_number_ofX K C XC { nx := fun _ => P .non, rt := fun x _ => P x } (fun C fs _ => Zw C fs) (startP 8 args) := by
 obtain ⟨x, p, rfl, hC, h⟩ := h
 have e : startP 8 [x, p] = [.va x, .va p, .no, .no, .no, .no, .no, .no] := rfl
 rw [e]
 rcases h with hz | hz
 ·exact w_seqX1 (w_exX1 (w_callX1 (w_cons (w_var (x := x) rfl (w_nil ⟨x, rfl, hC, .inr hz⟩)))))
 ·obtain ⟨n, rs, hl⟩ := hz.line
  refine w_seqX1 (w_exX1 (w_callX1 (w_cons (w_var (x := x) rfl (w_nil ⟨x, rfl, hC, .inl ⟨n, rs, hl, ?_⟩⟩)))))
  dsimp only
  exact w_seqX1 (w_exX1 (w_callX1 (w_cons (w_var (x := x) rfl (w_cons (w_var (x := p) rfl (w_nil ⟨x, p, rfl, .inr hz⟩)))))))
theorem rd_check_bothX (h : sp_check_bothX K C XC args P Zw) : ts_check_bothX K C XC { nx := fun _ => P .non, rt := fun x _ => P x } (fun C fs _ => Zw C fs) (startP 3 args) := by
 obtain ⟨x, p, g, rfl, hC, h⟩ := h
 have e : startP 3 [x, p, g] = [.va x, .va p, .va g] := rfl
 rw [e]
 rcases h with ⟨gp, gg, hp⟩ | hz | hz | ⟨gp, hz⟩
 ·obtain ⟨n, rs, hl⟩ := gp.line
  refine w_seqX1 (w_exX1 (w_callX1 (w_cons (w_var (x := x) rfl (w_nil ⟨x, rfl, hC, .inl ⟨n, rs, hl, ?_⟩⟩)))))
  dsimp only
  refine w_seqX1 (w_exX1 (w_callX1 (w_cons (w_var (x := x) rfl (w_cons (w_var (x := p) rfl (w_nil ⟨x, p, rfl, .inl ⟨gp, ?_⟩⟩)))))))
  dsimp only
  exact w_exX1 (w_callX1 (w_cons (w_var (x := x) rfl (w_cons (w_var (x := g) rfl (w_nil ⟨x, g, rfl, .inl ⟨gg, hp⟩⟩))))))
 ·exact w_seqX1 (w_exX1 (w_callX1 (w_cons (w_var (x := x) rfl (w_nil ⟨x, rfl, hC, .inr hz⟩)))))
 ·obtain ⟨n, rs, hl⟩ := hz.line
  refine w_seqX1 (w_exX1 (w_callX1 (w_cons (w_var (x := x) rfl (w_nil ⟨x, rfl, hC, .inl ⟨n, rs, hl, ?_⟩⟩)))))
  dsimp only
  exact w_seqX1 (w_exX1 (w_callX1 (w_cons (w_var (x := x) rfl (w_cons (w_var (x := p) rfl (w_nil ⟨x, p, rfl, .inr hz⟩)))))))
 ·obtain ⟨n, rs, hl⟩ := gp.line
  refine w_seqX1 (w_exX1 (w_callX1 (w_cons (w_var (x := x) rfl (w_nil ⟨x, rfl, hC, .inl ⟨n, rs, hl, ?_⟩⟩)))))
  dsimp only
  refine w_seqX1 (w_exX1 (w_callX1 (w_cons (w_var (x := x) rfl (w_cons (w_var (x := p) rfl (w_nil ⟨x, p, rfl, .inl ⟨gp, ?_⟩⟩)))))))
  dsimp only
  exact w_exX1 (w_callX1 (w_cons (w_var (x := x) rfl (w_cons (w_var (x := g) rfl (w_nil ⟨x, g, rfl, .inr hz⟩))))))
theorem rd_routeX (h : sp_routeX K C XC args P Zw) : ts_routeX K C XC { nx := fun _ => P .non, rt := fun x _ => P x } (fun C fs _ => Zw C fs) (startP 9 args) := by
 obtain ⟨x, p, g, rfl, hC, h⟩ := h
 have e : startP 9 [x, p, g] = [.va x, .va p, .va g, .no, .no, .no, .no, .no, .no] := rfl
 rw [e]
 exact w_seqX1 (w_exX1 (w_callX1 (w_cons (w_var (x := x) rfl (w_cons (w_var (x := p) rfl (w_cons (w_var (x := g) rfl (w_nil ⟨x, p, g, rfl, hC, .inr h⟩)))))))))
theorem rd_itineraryX (h : sp_itineraryX K C XC args P Zw) : ts_itineraryX K C XC { nx := fun _ => P .non, rt := fun x _ => P x } (fun C fs _ => Zw C fs) (startP 8 args) := by
 obtain ⟨x, p, s, t, rfl, hC, h⟩ := h
 have e : startP 8 [x, p, s, t] = [.va x, .va p, .va s, .va t, .no, .no, .no, .no] := rfl
 rw [e]
 rcases h with hz | hz | ⟨gp, hz⟩
 ·exact w_seqX1 (w_exX1 (w_callX1 (w_cons (w_var (x := x) rfl (w_nil ⟨x, rfl, hC, .inr hz⟩)))))
 ·obtain ⟨n, rs, hl⟩ := hz.line
  refine w_seqX1 (w_exX1 (w_callX1 (w_cons (w_var (x := x) rfl (w_nil ⟨x, rfl, hC, .inl ⟨n, rs, hl, ?_⟩⟩)))))
  dsimp only
  exact w_seqX1 (w_exX1 (w_callX1 (w_cons (w_var (x := x) rfl (w_cons (w_var (x := p) rfl (w_nil ⟨x, p, rfl, .inr hz⟩)))))))
 ·obtain ⟨n, rs, hl⟩ := gp.line
  refine w_seqX1 (w_exX1 (w_callX1 (w_cons (w_var (x := x) rfl (w_nil ⟨x, rfl, hC, .inl ⟨n, rs, hl, ?_⟩⟩)))))
  dsimp only
  refine w_seqX1 (w_exX1 (w_callX1 (w_cons (w_var (x := x) rfl (w_cons (w_var (x := p) rfl (w_nil ⟨x, p, rfl, .inl ⟨gp, ?_⟩⟩)))))))
  dsimp only
  exact w_seqX1 (w_exX1 (w_callX1 (w_cons (w_var (x := s) rfl (w_cons (w_var (x := t) rfl (w_nil ⟨s, t, rfl, .inr hz⟩)))))))
theorem rd_plan_or_obstacleX (h : sp_plan_or_obstacleX K C XC args P Zw) : ts_plan_or_obstacleX K C XC { nx := fun _ => P .non, rt := fun x _ => P x } (fun C fs _ => Zw C fs) (startP 13 args) := by
 obtain ⟨x, p, rfl, hC, h⟩ := h
 have e : startP 13 [x, p] = [.va x, .va p, .no, .no, .no, .no, .no, .no, .no, .no, .no, .no, .no] := rfl
 rw [e]
 rcases h with hz | hz
 ·exact w_seqX1 (w_exX1 (w_callX1 (w_cons (w_var (x := x) rfl (w_nil ⟨x, rfl, hC, .inr hz⟩)))))
 ·obtain ⟨n, rs, hl⟩ := hz.line
  refine w_seqX1 (w_exX1 (w_callX1 (w_cons (w_var (x := x) rfl (w_nil ⟨x, rfl, hC, .inl ⟨n, rs, hl, ?_⟩⟩)))))
  dsimp only
  exact w_seqX1 (w_exX1 (w_callX1 (w_cons (w_var (x := x) rfl (w_cons (w_var (x := p) rfl (w_nil ⟨x, p, rfl, .inr hz⟩)))))))
theorem rd_certify_plan (h : sp_certify_plan K C XC args P Zw) : ts_certify_plan K C XC { nx := fun _ => P .non, rt := fun x _ => P x } (fun C fs _ => Zw C fs) (startP 2 args) := by
 obtain ⟨x, rfl, h⟩ := h
 exact w_seqX1 (w_setX8 (w_callX1 (w_cons (w_var (x := x) rfl (w_nil ⟨x, rfl, h⟩)))))
theorem rd_certify_route (h : sp_certify_route K C XC args P Zw) : ts_certify_route K C XC { nx := fun _ => P .non, rt := fun x _ => P x } (fun C fs _ => Zw C fs) (startP 4 args) := by
 obtain ⟨x, p, g, rfl, h⟩ := h
 have e : startP 4 [x, p, g] = [.va x, .va p, .va g, .no] := rfl
 rw [e]
 exact w_seqX1 (w_setX8 (w_callX1 (w_cons (w_var (x := x) rfl (w_cons (w_var (x := p) rfl (w_cons (w_var (x := g) rfl (w_nil ⟨x, p, g, rfl, h⟩)))))))))
theorem rd_certify_fixed (h : sp_certify_fixed K C XC args P Zw) : ts_certify_fixed K C XC { nx := fun _ => P .non, rt := fun x _ => P x } (fun C fs _ => Zw C fs) (startP 4 args) := by
 obtain ⟨x, p, rfl, h⟩ := h
 have e : startP 4 [x, p] = [.va x, .va p, .no, .no] := rfl
 rw [e]
 exact w_seqX1 (w_asgX8 (w_callX1 (w_cons (w_var (x := x) rfl (w_cons (w_var (x := p) rfl (w_nil ⟨x, p, rfl, h⟩)))))))
theorem rd_certify_number (h : sp_certify_number K C XC args P Zw) : ts_certify_number K C XC { nx := fun _ => P .non, rt := fun x _ => P x } (fun C fs _ => Zw C fs) (startP 3 args) := by
 obtain ⟨x, p, rfl, h⟩ := h
 have e : startP 3 [x, p] = [.va x, .va p, .no] := rfl
 rw [e]
 exact w_seqX1 (w_setX8 (w_callX1 (w_cons (w_var (x := x) rfl (w_cons (w_var (x := p) rfl (w_nil ⟨x, p, rfl, h⟩)))))))
theorem rd_certify_changes (h : sp_certify_changes K C XC args P Zw) : ts_certify_changes K C XC { nx := fun _ => P .non, rt := fun x _ => P x } (fun C fs _ => Zw C fs) (startP 8 args) := by
 obtain ⟨x, p, s, t, rfl, h⟩ := h
 have e : startP 8 [x, p, s, t] = [.va x, .va p, .va s, .va t, .no, .no, .no, .no] := rfl
 rw [e]
 exact w_seqX1 (w_setX8 (w_callX1 (w_cons (w_var (x := x) rfl (w_cons (w_var (x := p) rfl (w_cons (w_var (x := s) rfl (w_cons (w_var (x := t) rfl (w_nil ⟨x, p, s, t, rfl, h⟩)))))))))))
end
theorem len8 {xs : List PV} (h : Nat.ble xs.length 100 = true) : xs.length ≤ sizeLine := by
 have h1 := Nat.le_of_ble_eq_true h
 have : (100 : Nat) ≤ sizeLine := by decide
 omega
theorem len88 {xs ys : List PV} (h : Nat.ble (xs.length + ys.length) 100 = true) : xs.length + ys.length ≤ sizeLine := by
 have h1 := Nat.le_of_ble_eq_true h
 have : (100 : Nat) ≤ sizeLine := by decide
 omega
theorem lt8 {xs : List PV} (h : Nat.ble xs.length 100 = true) : xs.length < sizeLine := by
 have h1 := Nat.le_of_ble_eq_true h
 have : (101 : Nat) ≤ sizeLine := by decide
 omega
theorem w_dic08 {η : EP'} {Q : PV → EP' → Prop} (h : Q (.dic []) η) : tDic0P η Q := h
theorem q_slA8 {xs : List PV} {lo hi : Option Int} {Q : PV → Prop} (h : Q (.tup (cutP xs lo hi))) : rSlA (.tup xs) lo hi Q := h
theorem q_addT8 {xs ys : List PV} {Q : PV → Prop} (h1 : xs ≠ []) (h2 : xs.length + ys.length ≤ sizeLine) (h : Q (.tup (xs ++ ys))) : rAdd (.tup xs) (.tup ys) Q := ⟨h1, h2, h⟩
theorem q_addL8 {xs ys : List PV} {Q : PV → Prop} (h2 : xs.length + ys.length ≤ sizeLine) (h : Q (.lst (xs ++ ys))) : rAdd (.lst xs) (.lst ys) Q := ⟨h2, h⟩
theorem w_ixO8 {o : Ow} {i : Nat} {ti : TEp} {η : EP'} {Q : PV → EP' → Prop} (e : η[i]? = some (.ow o)) (h : ti η fun k η1 => match η1[i]? with
 | some (.ow (.l xs)) => ∃ kk v, k = .int kk ∧ atI xs kk = some v ∧ Q v η1
 | _ => False) : tIxOP i ti η Q := ⟨⟨o, e⟩, h⟩
theorem at_row {l : List (PV × PV)} {k : Int} (h0 : 0 ≤ k) (h1 : k < l.length) : ∃ p ∈ l, atI (l.map fun p => PV.tup [p.1, p.2]) k = some (.tup [p.1, p.2]) := by
 refine ⟨l.getD k.toNat (.non, .non), ?_, at_map (f := fun p : PV × PV => PV.tup [p.1, p.2]) (.non, .non) h0 h1⟩
 rw [List.getD_eq_getElem?_getD, List.getElem?_eq_getElem (by omega)]
 exact List.getElem_mem _
section
variable {K : PySem.W.Frag} {C : Addr} {XC : Str → Addr} {args : List PV} {P : PV → Prop} {PR : PV → Ow → Prop} {o : Ow} {Zw : WC}
theorem rd_law_bad_fixed (h : sp_law_bad_fixed K C o args PR) : ts_law_bad_fixed K C { nx := fun η' => ∃ o', η'[0]? = some (Sl.ow o') ∧ PR .non o', rt := fun x η' => ∃ o', η'[0]? = some (Sl.ow o') ∧ PR x o' } (startR 2 o args) := by
 obtain ⟨po, rfl, hp⟩ := h
 have e : startR 2 o [] = [.ow o, .no] := rfl
 rw [e]
 refine w_seq (w_setF (by decide) (w_lstF ?_))
 repeat (first | with_reducible refine w_cons ?_ | with_reducible refine w_tup ?_ | with_reducible refine w_lst ?_ | with_reducible refine w_con ?_ | with_reducible refine w_nil ?_ | with_reducible refine w_dic08 ?_ | refine ⟨len8 rfl, ?_⟩)
 refine ⟨by show 1 < 2; decide, ?_⟩
 simp only [List.set_cons_zero, List.set_cons_succ]
 refine w_seq (w_setF (by decide) (w_addF (w_varO (o := .l _) rfl (w_lst ?_))))
 repeat (first | with_reducible refine w_cons ?_ | with_reducible refine w_tup ?_ | with_reducible refine w_lst ?_ | with_reducible refine w_con ?_ | with_reducible refine w_nil ?_ | with_reducible refine w_dic08 ?_ | refine ⟨len8 rfl, ?_⟩)
 refine ⟨len88 rfl, by show 1 < 2; decide, ?_⟩
 simp only [List.set_cons_zero, List.set_cons_succ]
 refine w_seq (w_app (xs := _) rfl (w_tup ?_))
 repeat (first | with_reducible refine w_cons ?_ | with_reducible refine w_tup ?_ | with_reducible refine w_lst ?_ | with_reducible refine w_con ?_ | with_reducible refine w_nil ?_ | with_reducible refine w_dic08 ?_ | refine ⟨len8 rfl, ?_⟩)
 refine q_appM rfl (lt8 rfl) ?_
 simp only [List.set_cons_zero, List.set_cons_succ]
 refine w_ret (w_op (w_op (w_varO (o := .l _) rfl (w_lst ?_))))
 repeat (first | with_reducible refine w_cons ?_ | with_reducible refine w_tup ?_ | with_reducible refine w_lst ?_ | with_reducible refine w_con ?_ | with_reducible refine w_nil ?_ | with_reducible refine w_dic08 ?_ | refine ⟨len8 rfl, ?_⟩)
 refine q_addL8 (len88 rfl) ?_
 refine q_draw rfl rfl po (by decide) (by decide) fun o1 k p1 k0 k1 => ?_
 obtain ⟨p, hm, ep⟩ := at_row (l := badFx) k0 k1
 exact q_ix ep ⟨o1, rfl, hp o1 p p1 hm⟩
theorem rd_law_bad_plan (h : sp_law_bad_plan K C o args PR) : ts_law_bad_plan K C { nx := fun η' => ∃ o', η'[0]? = some (Sl.ow o') ∧ PR .non o', rt := fun x η' => ∃ o', η'[0]? = some (Sl.ow o') ∧ PR x o' } (startR 3 o args) := by
 obtain ⟨po, rfl, hp⟩ := h
 have e : startR 3 o [] = [.ow o, .no, .no] := rfl
 rw [e]
 refine w_seq (w_set (w_tup ?_))
 repeat (first | with_reducible refine w_cons ?_ | with_reducible refine w_tup ?_ | with_reducible refine w_lst ?_ | with_reducible refine w_con ?_ | with_reducible refine w_nil ?_ | with_reducible refine w_dic08 ?_ | refine ⟨len8 rfl, ?_⟩)
 simp only [List.set_cons_zero, List.set_cons_succ]
 refine w_seq (w_setF (by decide) (w_lstF ?_))
 repeat (first | with_reducible refine w_cons ?_ | with_reducible refine w_tup ?_ | with_reducible refine w_lst ?_ | with_reducible refine w_con ?_ | with_reducible refine w_nil ?_ | with_reducible refine w_dic08 ?_ | refine ⟨len8 rfl, ?_⟩)
 refine q_addT8 (by simp) (len88 rfl) ?_
 repeat (first | with_reducible refine w_cons ?_ | with_reducible refine w_tup ?_ | with_reducible refine w_lst ?_ | with_reducible refine w_con ?_ | with_reducible refine w_nil ?_ | with_reducible refine w_dic08 ?_ | refine ⟨len8 rfl, ?_⟩)
 refine ⟨by show 2 < 3; decide, ?_⟩
 simp only [List.set_cons_zero, List.set_cons_succ]
 refine w_seq (w_app (xs := _) rfl (w_tup ?_))
 repeat (first | with_reducible refine w_cons ?_ | with_reducible refine w_tup ?_ | with_reducible refine w_lst ?_ | with_reducible refine w_con ?_ | with_reducible refine w_nil ?_ | with_reducible refine w_dic08 ?_ | refine ⟨len8 rfl, ?_⟩)
 refine q_appM rfl (lt8 rfl) ?_
 simp only [List.set_cons_zero, List.set_cons_succ]
 refine w_seq (w_setF (by decide) (w_addF (w_varO (o := .l _) rfl (w_lst ?_))))
 repeat (first | with_reducible refine w_cons ?_ | with_reducible refine w_tup ?_ | with_reducible refine w_lst ?_ | with_reducible refine w_con ?_ | with_reducible refine w_nil ?_ | with_reducible refine w_dic08 ?_ | refine ⟨len8 rfl, ?_⟩)
 refine ⟨len88 rfl, by show 2 < 3; decide, ?_⟩
 simp only [List.set_cons_zero, List.set_cons_succ]
 refine w_seq (w_setF (by decide) (w_addF (w_varO (o := .l _) rfl (w_lst ?_))))
 repeat (first | with_reducible refine w_cons ?_ | with_reducible refine w_tup ?_ | with_reducible refine w_lst ?_ | with_reducible refine w_con ?_ | with_reducible refine w_nil ?_ | with_reducible refine w_dic08 ?_ | refine ⟨len8 rfl, ?_⟩)
 refine ⟨len88 rfl, by show 2 < 3; decide, ?_⟩
 simp only [List.set_cons_zero, List.set_cons_succ]
 refine w_seq (w_setF (by decide) (w_addF (w_varO (o := .l _) rfl (w_lst ?_))))
 repeat (first | with_reducible refine w_cons ?_ | with_reducible refine w_tup ?_ | with_reducible refine w_lst ?_ | with_reducible refine w_con ?_ | with_reducible refine w_nil ?_ | with_reducible refine w_dic08 ?_ | refine ⟨len8 rfl, ?_⟩)
 refine ⟨len88 rfl, by show 2 < 3; decide, ?_⟩
 simp only [List.set_cons_zero, List.set_cons_succ]
 refine w_seq (w_app (xs := _) rfl (w_tup ?_))
 repeat (first | with_reducible refine w_cons ?_ | with_reducible refine w_tup ?_ | with_reducible refine w_lst ?_ | with_reducible refine w_con ?_ | with_reducible refine w_nil ?_ | with_reducible refine w_dic08 ?_ | refine ⟨len8 rfl, ?_⟩)
 refine w_sliceA (w_var (x := .tup plG) rfl (w_part (w_con (w_nop (q_slA8 ?_)))))
 refine q_addT8 (by simp) (len88 rfl) ?_
 repeat (first | with_reducible refine w_cons ?_ | with_reducible refine w_tup ?_ | with_reducible refine w_lst ?_ | with_reducible refine w_con ?_ | with_reducible refine w_nil ?_ | with_reducible refine w_dic08 ?_ | refine ⟨len8 rfl, ?_⟩)
 refine q_appM rfl (lt8 rfl) ?_
 simp only [List.set_cons_zero, List.set_cons_succ]
 refine w_ret (w_ixO8 rfl ?_)
 refine q_draw rfl rfl po (by decide) (by decide) fun o1 k p1 k0 k1 => ?_
 obtain ⟨p, hm, ep⟩ := at_row (l := badPl) k0 k1
 exact ⟨k, _, rfl, ep, o1, rfl, hp o1 p p1 hm⟩
end
def resB : Option PV → PV → Bool
 | some .non, .non => true
 | some (.int i), .int j => decide (i = j)
 | _, _ => false
theorem resB_eq {a : Option PV} {y : PV} (h : resB a y = true) : a = some y := by
 unfold resB at h
 split at h
 ·rfl
 ·rw [of_decide_eq_true h]
 ·cases h
def kpB : PV → Bool
 | .tup [a, b] => (tyN a).isSome && (tyN b).isSome
 | _ => true
def knB (x : PV) : Bool := (tyN x).isSome && match x with
 | .tup xs => decide (xs.length ≤ 1000) && xs.all fun y => (tyN y).isSome && kpB y
 | _ => true
section
variable {K : PySem.W.Frag} {C : Addr} {XC : Str → Addr} {args : List PV} {P : PV → Prop} {PR : PV → Ow → Prop} {o : Ow} {Zw : WC}
theorem knB_ok {x : PV} (h : knB x = true) : KnPl K x := by
 unfold knB at h
 obtain ⟨h1, h2⟩ := Bool.and_eq_true_iff.mp h
 refine ⟨.inl h1, fun xs e => ?_⟩
 subst e
 obtain ⟨h3, h4⟩ := Bool.and_eq_true_iff.mp h2
 refine ⟨of_decide_eq_true h3, fun y hy => ?_⟩
 obtain ⟨h5, h6⟩ := Bool.and_eq_true_iff.mp (List.all_eq_true.mp h4 y hy)
 refine ⟨.inl h5, fun a b e => ?_⟩
 subst e
 obtain ⟨h7, h8⟩ := Bool.and_eq_true_iff.mp h6
 exact ⟨.inl h7, .inl h8⟩
theorem lnG : LnG 2 rsG := ⟨by decide, by decide, by
 refine ⟨by decide, fun r hr => ?_, ?_⟩
 ·have all : rsG.all (fun r => isNm (.str r.1) && (decide (0 ≤ r.2.1) && decide (r.2.1 < r.2.2))) = true := by decide +kernel
  have := List.all_eq_true.mp all r hr
  obtain ⟨h1, h2⟩ := Bool.and_eq_true_iff.mp this
  obtain ⟨h3, h4⟩ := Bool.and_eq_true_iff.mp h2
  exact ⟨h1, of_decide_eq_true h3, of_decide_eq_true h4⟩
 ·have : (rsG.map fun r => r.1.cps.toList).Pairwise (· < ·) := by decide +kernel
  exact List.pairwise_map.mp this⟩
theorem badPl_ok : ∀ p ∈ badPl, KnPl K p.1 ∧ planRes 2 rsG p.1 = some p.2 := fun p hp => by
 have all : badPl.all (fun p => knB p.1 && resB (planRes 2 rsG p.1) p.2) = true := by decide +kernel
 obtain ⟨h1, h2⟩ := Bool.and_eq_true_iff.mp (List.all_eq_true.mp all p hp)
 exact ⟨knB_ok h1, resB_eq h2⟩
theorem badFx_ok : ∀ p ∈ badFx, KnPl K p.1 ∧ fixRes 2 rsG p.1 = some p.2 := fun p hp => by
 have all : badFx.all (fun p => knB p.1 && resB (fixRes 2 rsG p.1) p.2) = true := by decide +kernel
 obtain ⟨h1, h2⟩ := Bool.and_eq_true_iff.mp (List.all_eq_true.mp all p hp)
 exact ⟨knB_ok h1, resB_eq h2⟩
theorem fine_ok : GoodP K C (lineP C 2 rsG) (.tup plG) := by
 refine ⟨2, rsG, rfl, lnG, knB_ok (by decide +kernel), ?_⟩
 have : (planRes 2 rsG (.tup plG)).isNone = true := by decide +kernel
 exact Option.isNone_iff_eq_none.mp this
theorem odd_ok : ∀ y ∈ oddL, (tyN y).isSome = true ∧ isStn y = false ∧ isLat 3 y = false := fun y hy => by
 have all : oddL.all (fun y => (tyN y).isSome && (!isStn y && !isLat 3 y)) = true := by decide +kernel
 obtain ⟨h1, h2⟩ := Bool.and_eq_true_iff.mp (List.all_eq_true.mp all y hy)
 obtain ⟨h3, h4⟩ := Bool.and_eq_true_iff.mp h2
 exact ⟨h1, by simpa using h3, by simpa using h4⟩
theorem str_ok : ∀ x ∈ strL C, (tyN x).isSome = true := fun x hx => by
 simp only [strL, List.mem_cons, List.not_mem_nil, or_false] at hx
 rcases hx with rfl | rfl | rfl | rfl | rfl | rfl | rfl | rfl | rfl <;> rfl
theorem badP_of {p : PV × PV} (hp : p ∈ badPl) (hz : Zw (XC ("InvalidPlan" : Str)) [(("index" : Str), p.2)]) : BadP K C XC (lineP C 2 rsG) p.1 Zw := ⟨2, rsG, p.2, rfl, lnG, (badPl_ok (K := K) p hp).1, (badPl_ok (K := K) p hp).2, hz⟩
theorem badF_of {p : PV × PV} (hp : p ∈ badFx) (hz : Zw (XC ("InvalidFixed" : Str)) [(("index" : Str), p.2)]) : BadF K C XC (lineP C 2 rsG) p.1 Zw := ⟨2, rsG, p.2, rfl, lnG, (badFx_ok (K := K) p hp).1, (badFx_ok (K := K) p hp).2, hz⟩
theorem row_ln {x : PV} (hx : x ∈ strL C) : RowK C (.lst [.lst [.str ("notline" : Str), x], .lst [.str ("notline" : Str), x]]) := ⟨_, _, by simp, rfl, .inl hx⟩
theorem row_pl {p : PV × PV} (hp : p ∈ badPl) : RowK C (.lst [.lst [.str ("plan" : Str), p.2], .lst [.str ("plan" : Str), p.2]]) := ⟨_, _, by simp, rfl, .inr (.inr (.inl (List.mem_map_of_mem (f := fun q : PV × PV => q.2) hp)))⟩
theorem row_fx {p : PV × PV} (hp : p ∈ badFx) : RowK C (.lst [.lst [.str ("fixed" : Str), p.2], .lst [.str ("fixed" : Str), p.2]]) := ⟨_, _, by simp, rfl, .inr (.inr (.inr (.inl (List.mem_map_of_mem (f := fun q : PV × PV => q.2) hp))))⟩
theorem row_st {y : PV} (hy : y ∈ oddL) : RowK C (.lst [.lst [.str ("station" : Str), y], .lst [.str ("station" : Str), y]]) := ⟨_, _, by simp, rfl, .inr (.inl hy)⟩
theorem row_3 : RowK C (.lst [.lst [.str ("station" : Str), .int 3], .lst [.str ("station" : Str), .int 3]]) := ⟨_, _, by simp, rfl, .inr (.inr (.inr (.inr rfl)))⟩
theorem rows_one {r : PV} (hr : RowK C r) : ∀ q ∈ [r], RowK C q := fun q hq => by rw [List.mem_singleton.mp hq]; exact hr
theorem rows_snoc {rows : List PV} {r : PV} (h : ∀ q ∈ rows, RowK C q) (hr : RowK C r) : ∀ q ∈ rows ++ [r], RowK C q := fun q hq => by
 rcases List.mem_append.mp hq with hq | hq
 ·exact h q hq
 ·rw [List.mem_singleton.mp hq]; exact hr
theorem w_callR8 {i : Nat} {sr : SpR} {η : EP'} {Q : PV → EP' → Prop} {o : Ow} (e : η[i]? = some (Sl.ow o)) (h : sr o [] fun z o' => Q z (η.set i (.ow o'))) : tCallRP i sr tNilP η Q := ⟨⟨o, e⟩, by
 show (match η[i]? with
  | some (Sl.ow o) => sr o [] fun z o' => Q z (η.set i (.ow o'))
  | _ => False)
 rw [e]
 exact h⟩
theorem w_callKX8 {sp : SpX} {nk : Nat} {is : List Nat} {tk : TAp} {η : EP'} {Q : PV → EP' → Prop} {Zw : WZ} (h : tk η fun zs η1 => zs.length = nk ∧ sp (pick is zs) (fun z => Q z η1) fun C fs => Zw C fs η1) : tCallKX sp nk is tk η Q Zw := h
theorem w_row8 {te : TXp} {tv : TEp} {η : EP'} {Q : PV → EP' → Prop} {y : PV} {s f k : Str} {n : Nat} (ct : CtF K XC s n f) (hk : kindW n = k) (h1 : ∀ (Pn : PV → EP' → Prop) (Zn : WZ), (∀ η', Zn (XC s) [(f, y)] η') → te (noOwn η) Pn Zn) (h2 : ∀ R : PV → EP' → Prop, R y η → tv η R) (h : Q (.lst [.lst [.str k, y], .lst [.str k, y]]) η) :
  tLstP (tConsP (tCaughtP K [.ref (XC ("SeatError" : Str)), .ref (XC ("StateError" : Str)), .ref (XC ("SizeError" : Str))] ("returned" : Str) te (ts_law_caught K C XC)) (tConsP (tLstP (tConsP (tConP (.str k)) (tConsP tv tNilP))) tNilP)) η Q := by
 subst hk
 have sz : 100 < sizeLine := by decide
 refine w_lst (w_cons ?_)
 refine h1 _ _ fun η' => ⟨ct.ex, fun f' a d hd => caught_ok ct.kd (.inl ⟨f, y, ct.fl, rfl, rfl, ct.xf, hd.resolve_left (by simp)⟩) (by show 1 ≤ 1000; decide) fun _ => ?_⟩
 dsimp only
 refine w_cons (w_lst (w_cons (w_con (w_cons (h2 _ (w_nil ⟨by show 2 ≤ sizeLine; omega, w_nil ⟨by show 2 ≤ sizeLine; omega, h⟩⟩))))))
theorem rd_law_rows_of_plans (h : sp_law_rows_of_plans K C XC o args PR) : ts_law_rows_of_plans K C XC { nx := fun η' => ∃ o', η'[0]? = some (Sl.ow o') ∧ PR .non o', rt := fun x η' => ∃ o', η'[0]? = some (Sl.ow o') ∧ PR x o' } (startR 7 o args) := by
 obtain ⟨x, po, rfl, hC, ce, hx, hp⟩ := h
 have e : startR 7 o [lineP C 2 rsG, x] = [.ow o, .va (lineP C 2 rsG), .va x, .no, .no, .no, .no] := rfl
 rw [e]
 have sz : 100 < sizeLine := by decide
 have nx := str_ok x hx
 refine w_seq (w_par (w_arV (w_tup ?_)))
 repeat (first | with_reducible refine w_cons ?_ | with_reducible refine w_tup ?_ | with_reducible refine w_con ?_ | with_reducible refine w_nil ?_ | refine ⟨len8 rfl, ?_⟩)
 refine w_arV (w_callR8 rfl ⟨po, rfl, fun o1 p p1 hpm => ?_⟩)
 refine w_arV (w_callR8 rfl ⟨p1, rfl, fun o2 q p2 hqm => ?_⟩)
 refine w_arN ⟨rfl, trivial, ?_⟩
 simp only [storesP, List.set_cons_zero, List.set_cons_succ]
 refine w_seq (w_setF (by decide) (w_lstF (w_cons ?_)))
 refine w_row8 (y := x) ce.ln rfl (fun Pn Zn hz => w_callX1 (w_cons (w_var (x := x) rfl (w_nil ⟨x, rfl, hC, nx, hz _⟩)))) (fun R hr => w_var (x := x) rfl hr) (w_nil ⟨by show 1 ≤ sizeLine; omega, by show 6 < 7; decide, ?_⟩)
 simp only [List.set_cons_zero, List.set_cons_succ]
 refine w_seq (w_app (xs := _) rfl (w_row8 (y := x) ce.ln rfl (fun Pn Zn hz => w_callX1 (w_cons (w_var (x := x) rfl (w_cons (w_op (w_var (x := .tup [p.1, p.2]) rfl (w_con (q_ixT (x := p.1) rfl (w_cons (w_op (w_var (x := .tup [q.1, q.2]) rfl (w_con (q_ixT (x := q.1) rfl (w_nil ⟨x, p.1, q.1, rfl, hC, .inl ⟨nx, hz _⟩⟩)))))))))))))) (fun R hr => w_var (x := x) rfl hr) (q_appM rfl (lt8 rfl) ?_)))
 simp only [List.set_cons_zero, List.set_cons_succ]
 refine w_seq (w_app (xs := _) rfl (w_row8 (y := p.2) ce.pl rfl (fun Pn Zn hz => w_callX1 (w_cons (w_var (x := lineP C 2 rsG) rfl (w_cons (w_op (w_var (x := .tup [p.1, p.2]) rfl (w_con (q_ixT (x := p.1) rfl (w_cons (w_op (w_var (x := .tup [q.1, q.2]) rfl (w_con (q_ixT (x := q.1) rfl (w_nil ⟨_, p.1, q.1, rfl, hC, .inr (.inl (badP_of hpm (hz _)))⟩)))))))))))))) (fun R hr => w_op (w_var (x := .tup [p.1, p.2]) rfl (w_con (q_ixT (x := p.2) rfl hr)))) (q_appM rfl (lt8 rfl) ?_)))
 simp only [List.set_cons_zero, List.set_cons_succ]
 refine w_seq (w_app (xs := _) rfl (w_row8 (y := q.2) ce.pl rfl (fun Pn Zn hz => w_callKX8 (w_cons (w_op (w_var (x := .tup [q.1, q.2]) rfl (w_con (q_ixT (x := q.1) rfl (w_cons (w_var (x := .tup plG) rfl (w_cons (w_var (x := lineP C 2 rsG) rfl (w_nil ⟨rfl, _, _, q.1, rfl, hC, .inr (.inr ⟨fine_ok, badP_of hqm (hz _)⟩)⟩))))))))))) (fun R hr => w_op (w_var (x := .tup [q.1, q.2]) rfl (w_con (q_ixT (x := q.2) rfl hr)))) (q_appM rfl (lt8 rfl) ?_)))
 simp only [List.set_cons_zero, List.set_cons_succ]
 refine w_seq (w_app (xs := _) rfl (w_row8 (y := x) ce.ln rfl (fun Pn Zn hz => w_callX1 (w_cons (w_var (x := x) rfl (w_cons (w_op (w_var (x := .tup [p.1, p.2]) rfl (w_con (q_ixT (x := p.1) rfl (w_nil ⟨x, p.1, rfl, hC, .inl ⟨nx, hz _⟩⟩))))))))) (fun R hr => w_var (x := x) rfl hr) (q_appM rfl (lt8 rfl) ?_)))
 simp only [List.set_cons_zero, List.set_cons_succ]
 refine w_seq (w_app (xs := _) rfl (w_row8 (y := p.2) ce.pl rfl (fun Pn Zn hz => w_callKX8 (w_cons (w_op (w_var (x := .tup [p.1, p.2]) rfl (w_con (q_ixT (x := p.1) rfl (w_cons (w_var (x := lineP C 2 rsG) rfl (w_nil ⟨rfl, _, p.1, rfl, hC, .inr (badP_of hpm (hz _))⟩))))))))) (fun R hr => w_op (w_var (x := .tup [p.1, p.2]) rfl (w_con (q_ixT (x := p.2) rfl hr)))) (q_appM rfl (lt8 rfl) ?_)))
 simp only [List.set_cons_zero, List.set_cons_succ]
 refine w_ret (w_varO (o := .l _) rfl ⟨o2, rfl, hp o2 _ p2 (Nat.le_of_ble_eq_true rfl) ?_⟩)
 exact rows_snoc (rows_snoc (rows_snoc (rows_snoc (rows_snoc (rows_one (row_ln hx)) (row_ln hx)) (row_pl hpm)) (row_pl hqm)) (row_ln hx)) (row_pl hpm)
theorem badS_of {y : PV} (hy : y ∈ oddL) (hz : Zw (XC ("InvalidStation" : Str)) [(("station" : Str), y)]) {t : PV} : BadS K XC y t Zw := ⟨.inl (odd_ok y hy).1, .inl ⟨(odd_ok y hy).2.1, hz⟩⟩
theorem badS_3 {y : PV} (h1 : (tyN y).isSome = true) (h2 : isLat 3 y = false) (hz : Zw (XC ("InvalidStation" : Str)) [(("station" : Str), y)]) : BadS K XC (.int 3) y Zw := ⟨.inl rfl, .inr ⟨3, rfl, by decide, .inl h1, h2, hz⟩⟩
theorem rd_law_rows_of_seats (h : sp_law_rows_of_seats K C XC o args PR) : ts_law_rows_of_seats K C XC { nx := fun η' => ∃ o', η'[0]? = some (Sl.ow o') ∧ PR .non o', rt := fun x η' => ∃ o', η'[0]? = some (Sl.ow o') ∧ PR x o' } (startR 8 o args) := by
 obtain ⟨x, y, po, rfl, hC, ce, hx, hy, hp⟩ := h
 have e : startR 8 o [lineP C 2 rsG, x, y] = [.ow o, .va (lineP C 2 rsG), .va x, .va y, .no, .no, .no, .no] := rfl
 rw [e]
 have sz : 100 < sizeLine := by decide
 have nx := str_ok x hx
 refine w_seq (w_par (w_arV (w_tup ?_)))
 repeat (first | with_reducible refine w_cons ?_ | with_reducible refine w_tup ?_ | with_reducible refine w_con ?_ | with_reducible refine w_nil ?_ | refine ⟨len8 rfl, ?_⟩)
 refine w_arV (w_callR8 rfl ⟨po, rfl, fun o1 p p1 hpm => ?_⟩)
 refine w_arV (w_callR8 rfl ⟨p1, rfl, fun o2 q p2 hqm => ?_⟩)
 refine w_arN ⟨rfl, trivial, ?_⟩
 simp only [storesP, List.set_cons_zero, List.set_cons_succ]
 refine w_seq (w_setF (by decide) (w_lstF (w_cons ?_)))
 refine w_row8 (y := x) ce.ln rfl (fun Pn Zn hz => w_callX1 (w_cons (w_var (x := x) rfl (w_cons (w_op (w_var (x := .tup [q.1, q.2]) rfl (w_con (q_ixT (x := q.1) rfl (w_nil ⟨x, q.1, rfl, hC, .inl ⟨nx, hz _⟩⟩))))))))) (fun R hr => w_var (x := x) rfl hr) (w_nil ⟨by show 1 ≤ sizeLine; omega, by show 7 < 8; decide, ?_⟩)
 simp only [List.set_cons_zero, List.set_cons_succ]
 refine w_seq (w_app (xs := _) rfl (w_row8 (y := q.2) ce.fx rfl (fun Pn Zn hz => w_callKX8 (w_cons (w_op (w_var (x := .tup [q.1, q.2]) rfl (w_con (q_ixT (x := q.1) rfl (w_cons (w_var (x := lineP C 2 rsG) rfl (w_nil ⟨rfl, _, q.1, rfl, hC, .inr (badF_of hqm (hz _))⟩))))))))) (fun R hr => w_op (w_var (x := .tup [q.1, q.2]) rfl (w_con (q_ixT (x := q.2) rfl hr)))) (q_appM rfl (lt8 rfl) ?_)))
 simp only [List.set_cons_zero, List.set_cons_succ]
 refine w_seq (w_app (xs := _) rfl (w_row8 (y := x) ce.ln rfl (fun Pn Zn hz => w_callX1 (w_cons (w_var (x := x) rfl (w_cons (w_op (w_var (x := .tup [p.1, p.2]) rfl (w_con (q_ixT (x := p.1) rfl (w_cons (w_var (x := y) rfl (w_cons (w_var (x := y) rfl (w_nil ⟨x, p.1, y, y, rfl, hC, .inl ⟨nx, hz _⟩⟩))))))))))))) (fun R hr => w_var (x := x) rfl hr) (q_appM rfl (lt8 rfl) ?_)))
 simp only [List.set_cons_zero, List.set_cons_succ]
 refine w_seq (w_app (xs := _) rfl (w_row8 (y := p.2) ce.pl rfl (fun Pn Zn hz => w_callX1 (w_cons (w_var (x := lineP C 2 rsG) rfl (w_cons (w_op (w_var (x := .tup [p.1, p.2]) rfl (w_con (q_ixT (x := p.1) rfl (w_cons (w_var (x := y) rfl (w_cons (w_var (x := y) rfl (w_nil ⟨_, p.1, y, y, rfl, hC, .inr (.inl (badP_of hpm (hz _)))⟩))))))))))))) (fun R hr => w_op (w_var (x := .tup [p.1, p.2]) rfl (w_con (q_ixT (x := p.2) rfl hr)))) (q_appM rfl (lt8 rfl) ?_)))
 simp only [List.set_cons_zero, List.set_cons_succ]
 refine w_seq (w_app (xs := _) rfl (w_row8 (y := y) ce.st rfl (fun Pn Zn hz => w_callX1 (w_cons (w_var (x := lineP C 2 rsG) rfl (w_cons (w_var (x := .tup plG) rfl (w_cons (w_var (x := y) rfl (w_cons (w_con (w_nil ⟨_, _, y, .int 0, rfl, hC, .inr (.inr ⟨fine_ok, badS_of hy (hz _)⟩)⟩)))))))))) (fun R hr => w_var (x := y) rfl hr) (q_appM rfl (lt8 rfl) ?_)))
 simp only [List.set_cons_zero, List.set_cons_succ]
 refine w_seq (w_app (xs := _) rfl (w_row8 (y := y) ce.st rfl (fun Pn Zn hz => w_callKX8 (w_cons (w_var (x := y) rfl (w_cons (w_con (w_cons (w_var (x := .tup plG) rfl (w_cons (w_var (x := lineP C 2 rsG) rfl (w_nil ⟨rfl, _, _, .int 3, y, rfl, hC, .inr (.inr ⟨fine_ok, badS_3 (odd_ok y hy).1 (odd_ok y hy).2.2 (hz _)⟩)⟩)))))))))) (fun R hr => w_var (x := y) rfl hr) (q_appM rfl (lt8 rfl) ?_)))
 simp only [List.set_cons_zero, List.set_cons_succ]
 refine w_seq (w_app (xs := _) rfl (w_row8 (y := .int 3) ce.st rfl (fun Pn Zn hz => w_callX1 (w_cons (w_var (x := lineP C 2 rsG) rfl (w_cons (w_var (x := .tup plG) rfl (w_cons (w_con (w_cons (w_con (w_nil ⟨_, _, .int 3, .int 3, rfl, hC, .inr (.inr ⟨fine_ok, badS_3 rfl rfl (hz _)⟩)⟩)))))))))) (fun R hr => w_con hr) (q_appM rfl (lt8 rfl) ?_)))
 simp only [List.set_cons_zero, List.set_cons_succ]
 refine w_ret (w_varO (o := .l _) rfl ⟨o2, rfl, hp o2 _ p2 (Nat.le_of_ble_eq_true rfl) ?_⟩)
 exact rows_snoc (rows_snoc (rows_snoc (rows_snoc (rows_snoc (rows_snoc (rows_one (row_ln hx)) (row_fx hqm)) (row_ln hx)) (row_pl hpm)) (row_st hy)) (row_st hy)) row_3
end
theorem w_eit81 {t1 t2 : TEp} {η : EP'} {P : PV → EP' → Prop} (h : t1 η P) : tEitP t1 t2 η P := .inl h
theorem w_eit82 {t1 t2 : TEp} {η : EP'} {P : PV → EP' → Prop} (h : t2 η P) : tEitP t1 t2 η P := .inr h
def shB (x : PV) : Bool := match toE x with
 | some d => d.showable && (d.leavesShort 61 && (decide (d.bulk ≤ 1000) && decide (d.depth ≤ 10)))
 | none => false
theorem shB_ok {x : PV} (h : shB x = true) : ShE x 1000 10 := by
 unfold shB at h
 split at h
 ·rename_i d hd
  obtain ⟨h1, h⟩ := Bool.and_eq_true_iff.mp h
  obtain ⟨h2, h⟩ := Bool.and_eq_true_iff.mp h
  obtain ⟨h3, h4⟩ := Bool.and_eq_true_iff.mp h
  exact ⟨d, hd, h1, h2, of_decide_eq_true h3, of_decide_eq_true h4⟩
 ·cases h
def strL0 : List PV := [.non, .str (textS 2 rsG), .tup [.int 2, rowsP rsG], .int 7, .lst [], .dic [], .bl true, .tup []]
def kinds4 : List Str := [("notline" : Str), ("plan" : Str), ("fixed" : Str), ("station" : Str)]
theorem shown_all : kinds4.all (fun k => (strL0 ++ oddL ++ badPl.map (fun p => p.2) ++ badFx.map (fun p => p.2) ++ [PV.int 3]).all fun v => shB (.lst [.str k, v])) = true := by decide +kernel
theorem own_all : kinds4.all (fun k => decide ((reprText k).length ≤ 1000) && decide ((listOwnT k (reprS 2 rsG)).length ≤ 1000)) = true := by decide +kernel
theorem near_G : Near rsG := fun r hr => by
 have all : rsG.all (fun r => decide (r.2.2 < 10 ^ 60)) = true := by decide +kernel
 exact of_decide_eq_true (List.all_eq_true.mp all r hr)
section
variable {K : PySem.W.Frag} {C : Addr}
theorem row_show {r : PV} (h : RowK C r) : ∃ x s, r = .lst [x, x] ∧ ∀ {t : TAp} {η : EP'} {Q : PV → EP' → Prop}, (∀ R : List PV → EP' → Prop, R [x] η → t η R) → Q (.str s) η → tEitP (tCBP rReprE t) (tReprLP C (sp_Line_repr K C) t) η Q := by
 obtain ⟨k, v, hk, rfl, hv⟩ := h
 have sz : 1000 < sizeLine := by decide
 have cl : v ∈ strL0 ++ oddL ++ badPl.map (fun p => p.2) ++ badFx.map (fun p => p.2) ++ [PV.int 3] ∨ v = .lst [lineP C 2 rsG] := by
  rcases hv with hv | hv | hv | hv | rfl
  ·simp only [strL, List.mem_cons, List.not_mem_nil, or_false] at hv
   rcases hv with rfl | rfl | rfl | rfl | rfl | rfl | rfl | rfl | rfl <;> first | exact .inr rfl | exact .inl (by simp [strL0])
  ·exact .inl (by simp [hv])
  ·exact .inl (List.mem_append_left _ (List.mem_append_left _ (List.mem_append_right _ hv)))
  ·exact .inl (List.mem_append_left _ (List.mem_append_right _ hv))
  ·exact .inl (List.mem_append_right _ (List.mem_singleton.mpr rfl))
 rcases cl with hv | rfl
 ·have sh := shB_ok (List.all_eq_true.mp (List.all_eq_true.mp shown_all k hk) v hv)
  obtain ⟨d, hd, _⟩ := sh.ex
  refine ⟨_, d.shown, rfl, fun {t η Q} ht hq => w_eit81 (w_cb (ht _ (q_reprE sh (by decide) (by decide) fun d' hd' => ?_)))⟩
  rw [hd] at hd'
  cases hd'
  exact hq
 ·obtain ⟨h1, h2⟩ := Bool.and_eq_true_iff.mp (List.all_eq_true.mp own_all k hk)
  have h1 := of_decide_eq_true h1
  have h2 := of_decide_eq_true h2
  exact ⟨_, listOwnT k (reprS 2 rsG), rfl, fun {t η Q} ht hq => w_eit82 (ht _ ⟨k, _, reprS 2 rsG, rfl, by omega, by omega, ⟨2, rsG, rfl, by decide, by decide, lnG.rw, near_G, rfl⟩, hq⟩)⟩
end
theorem q_eqS8 {a b : Str} {Q : PV → Prop} (h : Q (.bl (decide (a = b)))) : rEqI false (.str a) (.str b) Q := h
theorem w_gn8 {i : Nat} {x : PV} {η : EP'} {R : EP' → Prop} (h : R (η.set i (.va x))) : gNameP i x η R := h
theorem all_true8 : ∀ n : Nat, blsOf (List.replicate n (.bl true)) = some (List.replicate n true)
 | 0 => rfl
 | n + 1 => by rw [List.replicate_succ, List.replicate_succ, blsOf, all_true8 n]; rfl
section
variable {K : PySem.W.Frag} {C : Addr} {XC : Str → Addr} {args : List PV} {P : PV → Prop} {PR : PV → Ow → Prop} {o : Ow} {Zw : WC}
theorem w_strO8 {sp : SpP} {t : TAp} {η : EP'} {Q : PV → EP' → Prop} (h : t η fun xs η1 => ∃ fs, xs = [.ins C fs] ∧ sp [.ins C fs] fun z => (∃ y, z = .str y) ∧ Q z η1) : tStrOP C sp t η Q := h
theorem w_new8 {sr : SpR} {dps : List PV} {t : TAp} {η : EP'} {Q : PV → EP' → Prop} (h : t η fun args η1 => sr (.o C []) (args ++ dps) fun r o' => r = .non ∧ ∃ fs, o' = .o C fs ∧ Q (.ins C fs) η1) : tNewP C sr dps t η Q := h
theorem w_callRF8 {tf : TFp} {sr : SpR} {t : TAp} {η : EP'} {Q : PV → EP' → Prop} (h : tf η fun xs η1 => t η1 fun args η2 => sr (.l xs) args fun z _ => Q z η2) : tCallRFP tf sr t η Q := h
theorem w_callF8 {sp : SpF} {t : TAp} {η : EP'} {Q : List PV → EP' → Prop} (h : t η fun args η1 => sp args fun xs => Q xs η1) : tCallFP sp t η Q := h
theorem w_callRA8 {i : Nat} {sr : SpR} {t : TAp} {η : EP'} {Q : PV → EP' → Prop} {o : Ow} (e : η[i]? = some (Sl.ow o)) (h : t η fun args η1 => match η1[i]? with
 | some (.ow o) => sr o args fun z o' => Q z (η1.set i (.ow o'))
 | _ => False) : tCallRP i sr t η Q := ⟨⟨o, e⟩, h⟩
theorem rd_law_right84 (h : sp_law_right84 K C XC o args PR) : ts_law_right84 K C XC { nx := fun η' => ∃ o', η'[0]? = some (Sl.ow o') ∧ PR .non o', rt := fun x η' => ∃ o', η'[0]? = some (Sl.ow o') ∧ PR x o' } (startR 7 o args) := by
 obtain ⟨po, rfl, hC, ce, hp⟩ := h
 have e : startR 7 o [] = [.ow o, .no, .no, .no, .no, .no, .no] := rfl
 rw [e]
 have sz : 1000 < sizeLine := by decide
 refine w_seq (w_set (w_new8 (w_cons (w_con (w_cons (w_tup ?_))))))
 repeat (first | with_reducible refine w_cons ?_ | with_reducible refine w_tup ?_ | with_reducible refine w_con ?_ | with_reducible refine w_nil ?_ | refine ⟨len8 rfl, ?_⟩)
 refine ⟨2, rsG, rfl, rfl, by decide, by decide, lnG.rw, rfl, _, rfl, ?_⟩
 simp only [List.set_cons_zero, List.set_cons_succ]
 refine w_seq (w_for (w_rng1 (w_con ⟨by decide, by omega, ?_⟩)))
 show ∃ Inv : Nat → EP' → Prop, _
 refine ⟨fun i η => ∃ (o' : Ow) (s2 s3 s4 s5 s6 : Sl), Pool o' ∧ η = [.ow o', .va (lineP C 2 rsG), s2, s3, s4, s5, s6], ⟨o, _, _, _, _, _, po, rfl⟩, ?_, ?_⟩
 ·rintro i x η hi ⟨o', s2, s3, s4, s5, s6, p', rfl⟩
  obtain ⟨hn, rfl⟩ := rangeP_get hi
  refine w_gn8 ?_
  simp only [List.set_cons_zero, List.set_cons_succ]
  refine w_seq (w_set (w_op (w_lst (w_cons (w_con (w_cons ?_))))))
  refine w_strO8 (w_cons (w_var (x := lineP C 2 rsG) rfl (w_nil ⟨_, rfl, 2, rsG, rfl, by decide, by decide, lnG.rw, near_G, ⟨_, rfl⟩, ?_⟩)))
  refine w_cons (w_tup (w_cons (w_con (w_cons ?_))))
  refine w_prop' (w_var (x := lineP C 2 rsG) rfl ⟨⟨_, rfl⟩, 2, rsG, rfl, w_nil ⟨len8 rfl, ?_⟩⟩)
  refine w_cons (w_con (w_cons (w_lst (w_nil ⟨len8 rfl, ?_⟩))))
  refine w_cons (w_dic08 (w_cons (w_con (w_cons (w_lst (w_cons ?_))))))
  refine w_var (x := lineP C 2 rsG) rfl (w_nil ⟨len8 rfl, ?_⟩)
  refine w_cons (w_tup (w_nil ⟨len8 rfl, w_nil ⟨len8 rfl, ?_⟩⟩))
  refine q_draw rfl rfl p' (by decide) (by decide) fun o1 k p1 k0 k1 => ?_
  obtain ⟨x, ex, ix⟩ := atI_in (xs := strL C) k0 k1
  have hx : x ∈ strL C := List.mem_of_getElem? ix
  refine q_ix ex ?_
  simp only [List.set_cons_zero, List.set_cons_succ]
  refine w_seq (w_set (w_op (w_lst (w_cons (w_con (w_cons (w_con (w_cons (w_op (w_con (w_con (q_sub ?_))))))))))))
  refine w_cons (w_con (w_cons (w_con (w_cons (w_tup (w_cons (w_con (w_nil ⟨len8 rfl, ?_⟩))))))))
  refine w_cons (w_lst (w_cons (w_con (w_nil ⟨len8 rfl, ?_⟩))))
  refine w_cons (w_dic08 ?_)
  refine w_cons (w_op (w_con (w_op (w_con (w_con (q_pow ⟨by decide, by decide, by decide⟩ ?_))))))
  refine q_sub (w_nil ⟨len8 rfl, ?_⟩)
  refine q_draw rfl rfl p1 (by decide) (by decide) fun o2 k2 p2 k20 k21 => ?_
  obtain ⟨y, ey, iy⟩ := atI_in (xs := oddL) k20 k21
  have hy : y ∈ oddL := List.mem_of_getElem? iy
  refine q_ix ey ?_
  simp only [List.set_cons_zero, List.set_cons_succ]
  refine w_seq (w_set (w_op (w_callRA8 rfl (w_cons (w_var (x := lineP C 2 rsG) rfl (w_cons (w_var (x := x) rfl (w_nil ⟨x, p2, rfl, hC, ce, hx, fun o3 rows p3 l3 h3 => ?_⟩))))))))
  refine w_callRA8 rfl (w_cons (w_var (x := lineP C 2 rsG) rfl (w_cons (w_var (x := x) rfl (w_cons (w_var (x := y) rfl (w_nil ⟨x, y, p3, rfl, hC, ce, hx, hy, fun o4 rows4 p4 l4 h4 => ?_⟩)))))))
  refine q_addL8 (by omega) ?_
  simp only [List.set_cons_zero, List.set_cons_succ]
  have hrow : ∀ r ∈ rows ++ rows4, RowK C r := fun r hr => (List.mem_append.mp hr).elim (h3 r) (h4 r)
  have lrow : (rows ++ rows4).length ≤ 20 := by rw [List.length_append]; omega
  generalize rows ++ rows4 = R at hrow lrow
  refine w_if (w_not (w_bl (w_cb (w_cons (w_val (w_lc (w_lstP (w_var (x := .lst R) rfl ?_))))))))
  show ∃ Inv : Nat → List PV → EP' → Prop, _
  refine ⟨fun i acc η => acc = List.replicate i (.bl true) ∧ ∃ s2 s6 : Sl, η = [.ow o4, .va (lineP C 2 rsG), s2, .va x, .va y, .va (.lst R), s6], ⟨rfl, _, _, rfl⟩, ?_, ?_⟩
  ·rintro j z acc η hj ⟨rfl, s2, s6, rfl⟩
   have jl := (List.getElem?_eq_some_iff.mp hj).1
   obtain ⟨v, s, rfl, rs⟩ := row_show (K := K) (hrow z (List.mem_of_getElem? hj))
   refine w_gname (w_yes (q_iteT (w_op ?_)))
   refine rs (fun R hR => w_cons (w_op (w_var (x := .lst [v, v]) rfl (w_con (q_ix (x := v) rfl (w_nil hR)))))) ?_
   refine rs (fun R hR => w_cons (w_op (w_var (x := .lst [v, v]) rfl (w_con (q_ix (x := v) rfl (w_nil hR)))))) ?_
   refine q_eqS8 ?_
   rw [decide_eq_true rfl]
   exact ⟨by rw [List.length_replicate]; omega, by rw [List.replicate_succ'], _, _, rfl⟩
  rintro acc η ⟨rfl, s2, s6, rfl⟩
  refine w_nil (q_all (all_true8 _) ?_)
  rw [show ∀ n : Nat, (List.replicate n true).all id = true from fun n => by simp]
  refine q_iteF (w_next ?_)
  exact ⟨o4, _, _, _, _, _, p4, rfl⟩
 ·rintro η ⟨o', s2, s3, s4, s5, s6, p', rfl⟩
  dsimp only
  exact w_ret (w_con ⟨o', rfl, hp o' p'⟩)
theorem rd_law84 (h : sp_law84 K C XC args P) : ts_law84 K C XC { nx := fun _ => P .non, rt := fun x _ => P x } (startP 2 args) := by
 obtain ⟨ns, rfl, hns, hC, ce, hp⟩ := h
 have e : startP 2 [.scr ns] = [.va (.scr ns), .no] := rfl
 rw [e]
 have sz : 1000 < sizeLine := by decide
 refine w_ret (w_cb (w_cons (w_val (w_lc (w_rng1 (w_cb (w_cons (w_con (w_cons (w_cb (w_cons (w_cb (w_cons (w_var (x := .scr ns) rfl (w_nil (q_lenC (w_cons (w_con (w_nil (q_min ?_))))))))))))))))))))
 refine w_nil (q_max ?_)
 obtain ⟨N, hN, N0, N6⟩ : ∃ N : Int, (if (if (6 : Int) < (ns.length : Int) then (6 : Int) else (ns.length : Int)) > 2 then (if (6 : Int) < (ns.length : Int) then (6 : Int) else (ns.length : Int)) else 2) = N ∧ 0 ≤ N ∧ N ≤ 6 := ⟨_, rfl, by split <;> (first | split | skip) <;> omega, by split <;> (first | split | skip) <;> omega⟩
 rw [hN]
 refine ⟨by omega, by omega, fun i acc η => acc = List.replicate i (.bl true) ∧ η = [.va (.scr ns), .no], ⟨rfl, rfl⟩, ?_, ?_⟩
 ·rintro i x acc η hi ⟨rfl, rfl⟩
  obtain ⟨hn, rfl⟩ := rangeP_get hi
  refine w_gname (w_yes (q_iteT ?_))
  refine w_callRF8 (w_callF8 (w_cons (w_call (w_cons (w_var (x := .scr ns) rfl (w_cons (w_var rfl (w_nil ⟨ns, _, rfl, by omega, by omega, fun c => ?_⟩))))))))
  refine w_nil ⟨c, rfl, fun s d s0 s1 d0 => w_nil ⟨⟨s, d, 0, rfl, s0, s1, d0⟩, rfl, hC, ce, fun o' p' => ?_⟩⟩
  exact ⟨by rw [List.length_replicate]; omega, by rw [List.replicate_succ'], rfl⟩
 ·rintro acc η ⟨rfl, rfl⟩
  rw [rangeP_len]
  refine w_nil (q_all (all_true8 _) ?_)
  rw [show ∀ n : Nat, (List.replicate n true).all id = true from fun n => by simp]
  exact hp
end
end Z
set_option maxHeartbeats 4000000
namespace ZK
open PySem PySem.Spec L2 Z
open PyProof.Rows hiding St
def top (i : Nat) : Stmt := PySem.Challenge.pw_seatchains_k84_errors_of_certificates.main.body.getD i (.Pass ⟨0, 0, 0, 0⟩)
abbrev s_law_cell : Stmt := top 97
abbrev N_law_cell : List Str := [("_law_script" : Str), ("_law_k" : Str), ("_law_state" : Str), ("_law_cell_here" : Str)]
theorem sc_law_cell : FnScope N_law_cell [("_law_script" : Str), ("_law_k" : Str)] (defScope s_law_cell) := ⟨rfl, rfl, rfl, by decide +kernel, rfl, by decide +kernel, by decide +kernel⟩
abbrev s_law_pool : Stmt := top 98
abbrev N_law_pool : List Str := [("_law_cell_here" : Str), ("_law_digits" : Str)]
theorem sc_law_pool : FnScope N_law_pool [("_law_cell_here" : Str)] (defScope s_law_pool) := ⟨rfl, rfl, rfl, by decide +kernel, rfl, by decide +kernel, by decide +kernel⟩
abbrev s_is_integer : Stmt := top 31
abbrev N_is_integer : List Str := [("thing" : Str)]
theorem sc_is_integer : FnScope N_is_integer [("thing" : Str)] (defScope s_is_integer) := ⟨rfl, rfl, rfl, by decide +kernel, rfl, by decide +kernel, by decide +kernel⟩
abbrev s_check_seats : Stmt := top 43
abbrev N_check_seats : List Str := [("seats" : Str)]
theorem sc_check_seats : FnScope N_check_seats [("seats" : Str)] (defScope s_check_seats) := ⟨rfl, rfl, rfl, by decide +kernel, rfl, by decide +kernel, by decide +kernel⟩
abbrev s_is_later : Stmt := top 33
abbrev N_is_later : List Str := [("thing" : Str), ("start" : Str)]
theorem sc_is_later : FnScope N_is_later [("thing" : Str), ("start" : Str)] (defScope s_is_later) := ⟨rfl, rfl, rfl, by decide +kernel, rfl, by decide +kernel, by decide +kernel⟩
abbrev s_is_station : Stmt := top 32
abbrev N_is_station : List Str := [("thing" : Str)]
theorem sc_is_station : FnScope N_is_station [("thing" : Str)] (defScope s_is_station) := ⟨rfl, rfl, rfl, by decide +kernel, rfl, by decide +kernel, by decide +kernel⟩
abbrev s_is_trip_name : Stmt := top 34
abbrev N_is_trip_name : List Str := [("thing" : Str), ("letter" : Str)]
theorem sc_is_trip_name : FnScope N_is_trip_name [("thing" : Str)] (defScope s_is_trip_name) := ⟨rfl, rfl, rfl, by decide +kernel, rfl, by decide +kernel, by decide +kernel⟩
abbrev s_is_trip : Stmt := top 35
abbrev N_is_trip : List Str := [("thing" : Str), ("name" : Str), ("start" : Str), ("end" : Str)]
theorem sc_is_trip : FnScope N_is_trip [("thing" : Str)] (defScope s_is_trip) := ⟨rfl, rfl, rfl, by decide +kernel, rfl, by decide +kernel, by decide +kernel⟩
abbrev s_valid_beginning : Stmt := top 45
abbrev N_valid_beginning : List Str := [("trips" : Str), ("before" : Str), ("at" : Str), ("thing" : Str)]
theorem sc_valid_beginning : FnScope N_valid_beginning [("trips" : Str)] (defScope s_valid_beginning) := ⟨rfl, rfl, rfl, by decide +kernel, rfl, by decide +kernel, by decide +kernel⟩
abbrev s_Line_init : Stmt := inClass (top 42) 2
abbrev N_Line_init : List Str := [("self" : Str), ("seats" : Str), ("trips" : Str), ("valid" : Str)]
theorem sc_Line_init : FnScope N_Line_init [("self" : Str), ("seats" : Str), ("trips" : Str)] (defScope s_Line_init) := ⟨rfl, rfl, rfl, by decide +kernel, rfl, by decide +kernel, by decide +kernel⟩
abbrev s_Line_len : Stmt := inClass (top 42) 4
abbrev s_Line_eq : Stmt := inClass (top 42) 3
abbrev s_Line_str : Stmt := inClass (top 42) 5
abbrev N_Line_str : List Str := [("self" : Str), ("words" : Str), ("name" : Str), ("start" : Str), ("end" : Str)]
theorem sc_Line_str : FnScope N_Line_str [("self" : Str)] (defScope s_Line_str) := ⟨rfl, rfl, rfl, by decide +kernel, rfl, by decide +kernel, by decide +kernel⟩
abbrev s_Line_repr : Stmt := inClass (top 42) 6
abbrev N_Line_repr : List Str := [("self" : Str)]
theorem sc_Line_repr : FnScope N_Line_repr [("self" : Str)] (defScope s_Line_repr) := ⟨rfl, rfl, rfl, by decide +kernel, rfl, by decide +kernel, by decide +kernel⟩
abbrev s_Line_trips : Stmt := inClass (top 42) 11
abbrev N_Line_trips : List Str := [("self" : Str)]
theorem sc_Line_trips : FnScope N_Line_trips [("self" : Str)] (defScope s_Line_trips) := ⟨rfl, rfl, rfl, by decide +kernel, rfl, by decide +kernel, by decide +kernel⟩
abbrev s_law_draw : Stmt := top 99
abbrev N_law_draw : List Str := [("_law_pool_here" : Str), ("_law_many" : Str), ("_law_state" : Str), ("_law_digit" : Str)]
theorem sc_law_draw : FnScope N_law_draw [("_law_pool_here" : Str), ("_law_many" : Str)] (defScope s_law_draw) := ⟨rfl, rfl, rfl, by decide +kernel, rfl, by decide +kernel, by decide +kernel⟩
abbrev s_law_bad_plan : Stmt := top 104
abbrev N_law_bad_plan : List Str := [("_law_pool_here" : Str), ("_law_good" : Str), ("_law_some" : Str)]
theorem sc_law_bad_plan : FnScope N_law_bad_plan [("_law_pool_here" : Str)] (defScope s_law_bad_plan) := ⟨rfl, rfl, rfl, by decide +kernel, rfl, by decide +kernel, by decide +kernel⟩
abbrev s_check_lineX : Stmt := top 55
abbrev N_check_lineX : List Str := [("line" : Str)]
theorem sc_check_lineX : FnScope N_check_lineX [("line" : Str)] (defScope s_check_lineX) := ⟨rfl, rfl, rfl, by decide +kernel, rfl, by decide +kernel, by decide +kernel⟩
abbrev s_Line_capacity : Stmt := inClass (top 42) 10
abbrev N_Line_capacity : List Str := [("self" : Str)]
theorem sc_Line_capacity : FnScope N_Line_capacity [("self" : Str)] (defScope s_Line_capacity) := ⟨rfl, rfl, rfl, by decide +kernel, rfl, by decide +kernel, by decide +kernel⟩
abbrev s_is_pair : Stmt := top 38
abbrev N_is_pair : List Str := [("thing" : Str)]
theorem sc_is_pair : FnScope N_is_pair [("thing" : Str)] (defScope s_is_pair) := ⟨rfl, rfl, rfl, by decide +kernel, rfl, by decide +kernel, by decide +kernel⟩
abbrev s_is_seat : Stmt := top 37
abbrev N_is_seat : List Str := [("thing" : Str), ("seats" : Str)]
theorem sc_is_seat : FnScope N_is_seat [("thing" : Str), ("seats" : Str)] (defScope s_is_seat) := ⟨rfl, rfl, rfl, by decide +kernel, rfl, by decide +kernel, by decide +kernel⟩
abbrev s_trip_named : Stmt := top 47
abbrev N_trip_named : List Str := [("trips" : Str), ("name" : Str), ("row" : Str)]
theorem sc_trip_named : FnScope N_trip_named [("trips" : Str), ("name" : Str)] (defScope s_trip_named) := ⟨rfl, rfl, rfl, by decide +kernel, rfl, by decide +kernel, by decide +kernel⟩
abbrev s_names_trip_and_seat : Stmt := top 58
abbrev N_names_trip_and_seat : List Str := [("line" : Str), ("thing" : Str), ("name" : Str), ("seat" : Str)]
theorem sc_names_trip_and_seat : FnScope N_names_trip_and_seat [("line" : Str), ("thing" : Str)] (defScope s_names_trip_and_seat) := ⟨rfl, rfl, rfl, by decide +kernel, rfl, by decide +kernel, by decide +kernel⟩
abbrev s_meet : Stmt := top 50
abbrev N_meet : List Str := [("trip" : Str), ("other" : Str)]
theorem sc_meet : FnScope N_meet [("trip" : Str), ("other" : Str)] (defScope s_meet) := ⟨rfl, rfl, rfl, by decide +kernel, rfl, by decide +kernel, by decide +kernel⟩
abbrev s_seats_left : Stmt := top 51
abbrev N_seats_left : List Str := [("seats" : Str), ("trip" : Str), ("seated" : Str), ("taken" : Str), ("other" : Str), ("seat" : Str)]
theorem sc_seats_left : FnScope N_seats_left [("seats" : Str), ("trip" : Str), ("seated" : Str)] (defScope s_seats_left) := ⟨rfl, rfl, rfl, by decide +kernel, rfl, by decide +kernel, by decide +kernel⟩
abbrev s_valid_pairs : Stmt := top 57
abbrev N_valid_pairs : List Str := [("line" : Str), ("things" : Str), ("seated" : Str), ("trip" : Str), ("thing" : Str)]
theorem sc_valid_pairs : FnScope N_valid_pairs [("line" : Str), ("things" : Str)] (defScope s_valid_pairs) := ⟨rfl, rfl, rfl, by decide +kernel, rfl, by decide +kernel, by decide +kernel⟩
abbrev s_check_planX : Stmt := top 56
abbrev N_check_planX : List Str := [("line" : Str), ("plan" : Str), ("valid" : Str)]
theorem sc_check_planX : FnScope N_check_planX [("line" : Str), ("plan" : Str)] (defScope s_check_planX) := ⟨rfl, rfl, rfl, by decide +kernel, rfl, by decide +kernel, by decide +kernel⟩
abbrev s_number_ofX : Stmt := top 62
abbrev N_number_ofX : List Str := [("line" : Str), ("plan" : Str), ("seats" : Str), ("seated" : Str), ("number" : Str), ("trip" : Str), ("left" : Str), ("seat" : Str)]
theorem sc_number_ofX : FnScope N_number_ofX [("line" : Str), ("plan" : Str)] (defScope s_number_ofX) := ⟨rfl, rfl, rfl, by decide +kernel, rfl, by decide +kernel, by decide +kernel⟩
abbrev s_certify_number : Stmt := top 94
abbrev N_certify_number : List Str := [("line" : Str), ("plan" : Str), ("number" : Str)]
theorem sc_certify_number : FnScope N_certify_number [("line" : Str), ("plan" : Str)] (defScope s_certify_number) := ⟨rfl, rfl, rfl, by decide +kernel, rfl, by decide +kernel, by decide +kernel⟩
abbrev s_overfullX : Stmt := top 60
abbrev N_overfullX : List Str := [("line" : Str), ("name" : Str), ("start" : Str), ("end" : Str)]
theorem sc_overfullX : FnScope N_overfullX [("line" : Str)] (defScope s_overfullX) := ⟨rfl, rfl, rfl, by decide +kernel, rfl, by decide +kernel, by decide +kernel⟩
abbrev s_certify_plan : Stmt := top 91
abbrev N_certify_plan : List Str := [("line" : Str), ("station" : Str)]
theorem sc_certify_plan : FnScope N_certify_plan [("line" : Str)] (defScope s_certify_plan) := ⟨rfl, rfl, rfl, by decide +kernel, rfl, by decide +kernel, by decide +kernel⟩
abbrev s_check_bothX : Stmt := top 68
abbrev N_check_bothX : List Str := [("line" : Str), ("plan" : Str), ("goal" : Str)]
theorem sc_check_bothX : FnScope N_check_bothX [("line" : Str), ("plan" : Str), ("goal" : Str)] (defScope s_check_bothX) := ⟨rfl, rfl, rfl, by decide +kernel, rfl, by decide +kernel, by decide +kernel⟩
abbrev s_routeX : Stmt := top 67
abbrev N_routeX : List Str := [("line" : Str), ("plan" : Str), ("goal" : Str), ("neighbours" : Str), ("wanted" : Str), ("present" : Str), ("exchanges" : Str), ("name" : Str), ("seat" : Str)]
theorem sc_routeX : FnScope N_routeX [("line" : Str), ("plan" : Str), ("goal" : Str)] (defScope s_routeX) := ⟨rfl, rfl, rfl, by decide +kernel, rfl, by decide +kernel, by decide +kernel⟩
abbrev s_certify_route : Stmt := top 92
abbrev N_certify_route : List Str := [("line" : Str), ("plan" : Str), ("goal" : Str), ("exchanges" : Str)]
theorem sc_certify_route : FnScope N_certify_route [("line" : Str), ("plan" : Str), ("goal" : Str)] (defScope s_certify_route) := ⟨rfl, rfl, rfl, by decide +kernel, rfl, by decide +kernel, by decide +kernel⟩
abbrev s_law_bad_fixed : Stmt := top 105
abbrev N_law_bad_fixed : List Str := [("_law_pool_here" : Str), ("_law_some" : Str)]
theorem sc_law_bad_fixed : FnScope N_law_bad_fixed [("_law_pool_here" : Str)] (defScope s_law_bad_fixed) := ⟨rfl, rfl, rfl, by decide +kernel, rfl, by decide +kernel, by decide +kernel⟩
abbrev s_check_stationsX : Stmt := top 44
abbrev N_check_stationsX : List Str := [("start" : Str), ("end" : Str)]
theorem sc_check_stationsX : FnScope N_check_stationsX [("start" : Str), ("end" : Str)] (defScope s_check_stationsX) := ⟨rfl, rfl, rfl, by decide +kernel, rfl, by decide +kernel, by decide +kernel⟩
abbrev s_itineraryX : Stmt := top 74
abbrev N_itineraryX : List Str := [("line" : Str), ("plan" : Str), ("start" : Str), ("end" : Str), ("triples" : Str), ("station" : Str), ("seat" : Str), ("until" : Str)]
theorem sc_itineraryX : FnScope N_itineraryX [("line" : Str), ("plan" : Str), ("start" : Str), ("end" : Str)] (defScope s_itineraryX) := ⟨rfl, rfl, rfl, by decide +kernel, rfl, by decide +kernel, by decide +kernel⟩
abbrev s_certify_changes : Stmt := top 95
abbrev N_certify_changes : List Str := [("line" : Str), ("plan" : Str), ("start" : Str), ("end" : Str), ("triples" : Str), ("station" : Str), ("changes" : Str), ("pairs" : Str)]
theorem sc_certify_changes : FnScope N_certify_changes [("line" : Str), ("plan" : Str), ("start" : Str), ("end" : Str)] (defScope s_certify_changes) := ⟨rfl, rfl, rfl, by decide +kernel, rfl, by decide +kernel, by decide +kernel⟩
abbrev s_check_fixedX : Stmt := top 86
abbrev N_check_fixedX : List Str := [("line" : Str), ("fixed" : Str), ("before" : Str), ("seats" : Str), ("at" : Str), ("thing" : Str)]
theorem sc_check_fixedX : FnScope N_check_fixedX [("line" : Str), ("fixed" : Str)] (defScope s_check_fixedX) := ⟨rfl, rfl, rfl, by decide +kernel, rfl, by decide +kernel, by decide +kernel⟩
abbrev s_plan_or_obstacleX : Stmt := top 85
abbrev N_plan_or_obstacleX : List Str := [("line" : Str), ("fixed" : Str), ("station" : Str), ("stops" : Str), ("trips" : Str), ("arcs" : Str), ("goals" : Str), ("flow" : Str), ("goal" : Str), ("came" : Str), ("row" : Str), ("name" : Str), ("seat" : Str)]
theorem sc_plan_or_obstacleX : FnScope N_plan_or_obstacleX [("line" : Str), ("fixed" : Str)] (defScope s_plan_or_obstacleX) := ⟨rfl, rfl, rfl, by decide +kernel, rfl, by decide +kernel, by decide +kernel⟩
abbrev s_certify_fixed : Stmt := top 93
abbrev N_certify_fixed : List Str := [("line" : Str), ("fixed" : Str), ("plan" : Str), ("obstacle" : Str)]
theorem sc_certify_fixed : FnScope N_certify_fixed [("line" : Str), ("fixed" : Str)] (defScope s_certify_fixed) := ⟨rfl, rfl, rfl, by decide +kernel, rfl, by decide +kernel, by decide +kernel⟩
abbrev s_law_other_fields : Stmt := top 102
abbrev N_law_other_fields : List Str := [("_law_e" : Str)]
theorem sc_law_other_fields : FnScope N_law_other_fields [("_law_e" : Str)] (defScope s_law_other_fields) := ⟨rfl, rfl, rfl, by decide +kernel, rfl, by decide +kernel, by decide +kernel⟩
abbrev s_law_fields : Stmt := top 101
abbrev N_law_fields : List Str := [("_law_e" : Str)]
theorem sc_law_fields : FnScope N_law_fields [("_law_e" : Str)] (defScope s_law_fields) := ⟨rfl, rfl, rfl, by decide +kernel, rfl, by decide +kernel, by decide +kernel⟩
abbrev s_law_kind : Stmt := top 100
abbrev N_law_kind : List Str := [("_law_e" : Str), ("_law_kinds" : Str), ("_law_bases" : Str), ("_law_own" : Str), ("_law_at" : Str), ("_law_words" : Str)]
theorem sc_law_kind : FnScope N_law_kind [("_law_e" : Str)] (defScope s_law_kind) := ⟨rfl, rfl, rfl, by decide +kernel, rfl, by decide +kernel, by decide +kernel⟩
abbrev s_law_caught : Stmt := top 103
abbrev N_law_caught : List Str := [("_law_call" : Str), ("_law_e" : Str)]
theorem sc_law_caught : FnScope N_law_caught [("_law_call" : Str)] (defScope s_law_caught) := ⟨rfl, rfl, rfl, by decide +kernel, rfl, by decide +kernel, by decide +kernel⟩
abbrev s_law_rows_of_plans : Stmt := top 106
abbrev N_law_rows_of_plans : List Str := [("_law_pool_here" : Str), ("_law_good" : Str), ("_law_strange" : Str), ("_law_fine" : Str), ("_law_bad" : Str), ("_law_worse" : Str), ("_law_rows" : Str)]
theorem sc_law_rows_of_plans : FnScope N_law_rows_of_plans [("_law_pool_here" : Str), ("_law_good" : Str), ("_law_strange" : Str)] (defScope s_law_rows_of_plans) := ⟨rfl, rfl, rfl, by decide +kernel, rfl, by decide +kernel, by decide +kernel⟩
abbrev s_law_rows_of_seats : Stmt := top 107
abbrev N_law_rows_of_seats : List Str := [("_law_pool_here" : Str), ("_law_good" : Str), ("_law_strange" : Str), ("_law_odd" : Str), ("_law_fine" : Str), ("_law_bad" : Str), ("_law_keep" : Str), ("_law_rows" : Str)]
theorem sc_law_rows_of_seats : FnScope N_law_rows_of_seats [("_law_pool_here" : Str), ("_law_good" : Str), ("_law_strange" : Str), ("_law_odd" : Str)] (defScope s_law_rows_of_seats) := ⟨rfl, rfl, rfl, by decide +kernel, rfl, by decide +kernel, by decide +kernel⟩
abbrev s_law_right84 : Stmt := top 108
abbrev N_law_right84 : List Str := [("_law_pool_here" : Str), ("_law_good" : Str), ("_law_turn" : Str), ("_law_strange" : Str), ("_law_odd" : Str), ("_law_rows" : Str), ("_law_row" : Str)]
theorem sc_law_right84 : FnScope N_law_right84 [("_law_pool_here" : Str)] (defScope s_law_right84) := ⟨rfl, rfl, rfl, by decide +kernel, rfl, by decide +kernel, by decide +kernel⟩
abbrev s_law84 : Stmt := top 109
abbrev N_law84 : List Str := [("_law_script" : Str), ("_law_k" : Str)]
theorem sc_law84 : FnScope N_law84 [("_law_script" : Str)] (defScope s_law84) := ⟨rfl, rfl, rfl, by decide +kernel, rfl, by decide +kernel, by decide +kernel⟩
abbrev x_InvalidFixed : Stmt := inClass (top 9) 0
theorem xt_InvalidFixed : XTxt x_InvalidFixed "InvalidFixed.__init__" "index" where
 ex := ⟨_, _, _, _, _, _, _, _, _, _, _, _, _, rfl, rfl, rfl, fun _ _ _ _ => rfl, fun _ _ _ _ => ⟨_, rfl⟩, fun _ _ _ _ => rfl, fun _ _ _ _ => rfl⟩
 n1 := rfl
 n2 := rfl
 n3 := rfl
 n4 := rfl
 n5 := rfl
 n6 := rfl
 n7 := rfl
 n8 := by decide +kernel
 b := fun _ _ _ _ _ _ _ _ _ => rfl
abbrev x_InvalidPlan : Stmt := inClass (top 8) 0
theorem xt_InvalidPlan : XTxt x_InvalidPlan "InvalidPlan.__init__" "index" where
 ex := ⟨_, _, _, _, _, _, _, _, _, _, _, _, _, rfl, rfl, rfl, fun _ _ _ _ => rfl, fun _ _ _ _ => ⟨_, rfl⟩, fun _ _ _ _ => rfl, fun _ _ _ _ => rfl⟩
 n1 := rfl
 n2 := rfl
 n3 := rfl
 n4 := rfl
 n5 := rfl
 n6 := rfl
 n7 := rfl
 n8 := by decide +kernel
 b := fun _ _ _ _ _ _ _ _ _ => rfl
abbrev x_InvalidStation : Stmt := inClass (top 7) 0
theorem xt_InvalidStation : XTxt x_InvalidStation "InvalidStation.__init__" "station" where
 ex := ⟨_, _, _, _, _, _, _, _, _, _, _, _, _, rfl, rfl, rfl, fun _ _ _ _ => rfl, fun _ _ _ _ => ⟨_, rfl⟩, fun _ _ _ _ => rfl, fun _ _ _ _ => rfl⟩
 n1 := rfl
 n2 := rfl
 n3 := rfl
 n4 := rfl
 n5 := rfl
 n6 := rfl
 n7 := rfl
 n8 := by decide +kernel
 b := fun _ _ _ _ _ _ _ _ _ => rfl
abbrev x_NotALine : Stmt := inClass (top 15) 0
theorem xt_NotALine : XTxt x_NotALine "NotALine.__init__" "value" where
 ex := ⟨_, _, _, _, _, _, _, _, _, _, _, _, _, rfl, rfl, rfl, fun _ _ _ _ => rfl, fun _ _ _ _ => ⟨_, rfl⟩, fun _ _ _ _ => rfl, fun _ _ _ _ => rfl⟩
 n1 := rfl
 n2 := rfl
 n3 := rfl
 n4 := rfl
 n5 := rfl
 n6 := rfl
 n7 := rfl
 n8 := by decide +kernel
 b := fun _ _ _ _ _ _ _ _ _ => rfl
structure Ad where
 CLine : Addr
 cL : Addr
 tL : Addr
 eL : Addr
 mL : Value
 XC : Str → Addr
 pS : Addr
 qT : Addr
 qC : Addr
 cT : Addr
 tT : Addr
 cT3 : Addr
 tT3 : Addr
 f_law_cell : Addr
 d_law_cell : FuncData
 f_law_pool : Addr
 d_law_pool : FuncData
 f_is_integer : Addr
 d_is_integer : FuncData
 f_check_seats : Addr
 d_check_seats : FuncData
 f_is_later : Addr
 d_is_later : FuncData
 f_is_station : Addr
 d_is_station : FuncData
 f_is_trip_name : Addr
 d_is_trip_name : FuncData
 f_is_trip : Addr
 d_is_trip : FuncData
 f_valid_beginning : Addr
 d_valid_beginning : FuncData
 f_Line_init : Addr
 d_Line_init : FuncData
 f_Line_len : Addr
 d_Line_len : FuncData
 f_Line_eq : Addr
 d_Line_eq : FuncData
 f_Line_str : Addr
 d_Line_str : FuncData
 f_Line_repr : Addr
 d_Line_repr : FuncData
 f_Line_trips : Addr
 d_Line_trips : FuncData
 f_law_draw : Addr
 d_law_draw : FuncData
 f_law_bad_plan : Addr
 d_law_bad_plan : FuncData
 f_check_lineX : Addr
 d_check_lineX : FuncData
 f_Line_capacity : Addr
 d_Line_capacity : FuncData
 f_is_pair : Addr
 d_is_pair : FuncData
 f_is_seat : Addr
 d_is_seat : FuncData
 f_trip_named : Addr
 d_trip_named : FuncData
 f_names_trip_and_seat : Addr
 d_names_trip_and_seat : FuncData
 f_meet : Addr
 d_meet : FuncData
 f_seats_left : Addr
 d_seats_left : FuncData
 f_valid_pairs : Addr
 d_valid_pairs : FuncData
 f_check_planX : Addr
 d_check_planX : FuncData
 f_number_ofX : Addr
 d_number_ofX : FuncData
 f_certify_number : Addr
 d_certify_number : FuncData
 f_overfullX : Addr
 d_overfullX : FuncData
 f_certify_plan : Addr
 d_certify_plan : FuncData
 f_check_bothX : Addr
 d_check_bothX : FuncData
 f_routeX : Addr
 d_routeX : FuncData
 f_certify_route : Addr
 d_certify_route : FuncData
 f_law_bad_fixed : Addr
 d_law_bad_fixed : FuncData
 f_check_stationsX : Addr
 d_check_stationsX : FuncData
 f_itineraryX : Addr
 d_itineraryX : FuncData
 f_certify_changes : Addr
 d_certify_changes : FuncData
 f_check_fixedX : Addr
 d_check_fixedX : FuncData
 f_plan_or_obstacleX : Addr
 d_plan_or_obstacleX : FuncData
 f_certify_fixed : Addr
 d_certify_fixed : FuncData
 f_law_other_fields : Addr
 d_law_other_fields : FuncData
 f_law_fields : Addr
 d_law_fields : FuncData
 f_law_kind : Addr
 d_law_kind : FuncData
 f_law_caught : Addr
 d_law_caught : FuncData
 f_law_rows_of_plans : Addr
 d_law_rows_of_plans : FuncData
 f_law_rows_of_seats : Addr
 d_law_rows_of_seats : FuncData
 f_law_right84 : Addr
 d_law_right84 : FuncData
 f_law84 : Addr
 d_law84 : FuncData
structure Tx (P : Program) (w : World) (K : PySem.W.Frag) (mg : Str → Option Value) (a : Ad) : Prop where
 cl : Cls K a.CLine
 clt : ClsT K a.CLine
 g_Line : mg "Line" = some (.ref a.CLine)
 mkL : Mk K a.CLine a.f_Line_init
 dfl : ∀ {O H}, Reps K O H [.tup []] [.ref a.eL]
 tne01 : a.tL ≠ a.tT
 tne02 : a.tL ≠ a.tT3
 tne12 : a.tT ≠ a.tT3
 p_trips : PropOf K a.CLine "trips" a.qT a.f_Line_trips
 p_capacity : PropOf K a.CLine "capacity" a.qC a.f_Line_capacity
 rp : PySem.W.findIn K (.ref a.CLine) "__repr__" = some (some (.ref a.f_Line_repr))
 rpf : PySem.W.isFn K (.ref a.f_Line_repr) = true
 ow : OwnC K a.CLine a.f_Line_eq a.f_Line_len a.f_Line_str
 g_Busy : mg "Busy" = some (.ref (a.XC "Busy"))
 g_Full : mg "Full" = some (.ref (a.XC "Full"))
 g_InvalidAction : mg "InvalidAction" = some (.ref (a.XC "InvalidAction"))
 g_InvalidCommand : mg "InvalidCommand" = some (.ref (a.XC "InvalidCommand"))
 g_InvalidExchange : mg "InvalidExchange" = some (.ref (a.XC "InvalidExchange"))
 g_InvalidFixed : mg "InvalidFixed" = some (.ref (a.XC "InvalidFixed"))
 g_InvalidName : mg "InvalidName" = some (.ref (a.XC "InvalidName"))
 g_InvalidNumber : mg "InvalidNumber" = some (.ref (a.XC "InvalidNumber"))
 g_InvalidPlan : mg "InvalidPlan" = some (.ref (a.XC "InvalidPlan"))
 g_InvalidSeat : mg "InvalidSeat" = some (.ref (a.XC "InvalidSeat"))
 g_InvalidSeats : mg "InvalidSeats" = some (.ref (a.XC "InvalidSeats"))
 g_InvalidStation : mg "InvalidStation" = some (.ref (a.XC "InvalidStation"))
 g_InvalidText : mg "InvalidText" = some (.ref (a.XC "InvalidText"))
 g_InvalidTrips : mg "InvalidTrips" = some (.ref (a.XC "InvalidTrips"))
 g_NameTaken : mg "NameTaken" = some (.ref (a.XC "NameTaken"))
 g_NotALine : mg "NotALine" = some (.ref (a.XC "NotALine"))
 g_NotFree : mg "NotFree" = some (.ref (a.XC "NotFree"))
 g_NothingToUndo : mg "NothingToUndo" = some (.ref (a.XC "NothingToUndo"))
 g_Overfull : mg "Overfull" = some (.ref (a.XC "Overfull"))
 g_SeatError : mg "SeatError" = some (.ref (a.XC "SeatError"))
 g_SizeError : mg "SizeError" = some (.ref (a.XC "SizeError"))
 g_StateError : mg "StateError" = some (.ref (a.XC "StateError"))
 g_TooManyEntries : mg "TooManyEntries" = some (.ref (a.XC "TooManyEntries"))
 g_TooManyPlans : mg "TooManyPlans" = some (.ref (a.XC "TooManyPlans"))
 g_TooManyTrips : mg "TooManyTrips" = some (.ref (a.XC "TooManyTrips"))
 xa_InvalidFixed : XAll P K mg "InvalidFixed" (a.XC "InvalidFixed") "index"
 xa_InvalidPlan : XAll P K mg "InvalidPlan" (a.XC "InvalidPlan") "index"
 xa_InvalidStation : XAll P K mg "InvalidStation" (a.XC "InvalidStation") "station"
 xa_NotALine : XAll P K mg "NotALine" (a.XC "NotALine") "value"
 n_seat_count : NoAttr K a.CLine "seat_count"
 n_rows : NoAttr K a.CLine "rows"
 n_queue : NoAttr K a.CLine "queue"
 F_law_cell : Fun K "_law_cell" "_law_cell" s_law_cell a.f_law_cell a.d_law_cell
 g__law_cell : mg "_law_cell" = some (.ref a.f_law_cell)
 k__law_cell : PySem.W.keepIn K (.ref a.f_law_cell) = true
 F_law_pool : Fun K "_law_pool" "_law_pool" s_law_pool a.f_law_pool a.d_law_pool
 g__law_pool : mg "_law_pool" = some (.ref a.f_law_pool)
 k__law_pool : PySem.W.keepIn K (.ref a.f_law_pool) = true
 F_is_integer : Fun K "is_integer" "is_integer" s_is_integer a.f_is_integer a.d_is_integer
 g_is_integer : mg "is_integer" = some (.ref a.f_is_integer)
 k_is_integer : PySem.W.keepIn K (.ref a.f_is_integer) = true
 F_check_seats : Fun K "check_seats" "check_seats" s_check_seats a.f_check_seats a.d_check_seats
 g_check_seats : mg "check_seats" = some (.ref a.f_check_seats)
 k_check_seats : PySem.W.keepIn K (.ref a.f_check_seats) = true
 F_is_later : Fun K "is_later" "is_later" s_is_later a.f_is_later a.d_is_later
 g_is_later : mg "is_later" = some (.ref a.f_is_later)
 k_is_later : PySem.W.keepIn K (.ref a.f_is_later) = true
 F_is_station : Fun K "is_station" "is_station" s_is_station a.f_is_station a.d_is_station
 g_is_station : mg "is_station" = some (.ref a.f_is_station)
 k_is_station : PySem.W.keepIn K (.ref a.f_is_station) = true
 F_is_trip_name : Fun K "is_trip_name" "is_trip_name" s_is_trip_name a.f_is_trip_name a.d_is_trip_name
 g_is_trip_name : mg "is_trip_name" = some (.ref a.f_is_trip_name)
 k_is_trip_name : PySem.W.keepIn K (.ref a.f_is_trip_name) = true
 F_is_trip : Fun K "is_trip" "is_trip" s_is_trip a.f_is_trip a.d_is_trip
 g_is_trip : mg "is_trip" = some (.ref a.f_is_trip)
 k_is_trip : PySem.W.keepIn K (.ref a.f_is_trip) = true
 F_valid_beginning : Fun K "valid_beginning" "valid_beginning" s_valid_beginning a.f_valid_beginning a.d_valid_beginning
 g_valid_beginning : mg "valid_beginning" = some (.ref a.f_valid_beginning)
 k_valid_beginning : PySem.W.keepIn K (.ref a.f_valid_beginning) = true
 F_Line_init : FunX K "__init__" "Line.__init__" s_Line_init [.ref a.eL] a.cL a.f_Line_init a.d_Line_init
 F_Line_len : Fun K "__len__" "Line.__len__" s_Line_len a.f_Line_len a.d_Line_len
 F_Line_eq : Fun K "__eq__" "Line.__eq__" s_Line_eq a.f_Line_eq a.d_Line_eq
 F_Line_str : Fun K "__str__" "Line.__str__" s_Line_str a.f_Line_str a.d_Line_str
 F_Line_repr : Fun K "__repr__" "Line.__repr__" s_Line_repr a.f_Line_repr a.d_Line_repr
 F_Line_trips : Fun K "trips" "Line.trips" s_Line_trips a.f_Line_trips a.d_Line_trips
 F_law_draw : Fun K "_law_draw" "_law_draw" s_law_draw a.f_law_draw a.d_law_draw
 g__law_draw : mg "_law_draw" = some (.ref a.f_law_draw)
 k__law_draw : PySem.W.keepIn K (.ref a.f_law_draw) = true
 F_law_bad_plan : Fun K "_law_bad_plan" "_law_bad_plan" s_law_bad_plan a.f_law_bad_plan a.d_law_bad_plan
 g__law_bad_plan : mg "_law_bad_plan" = some (.ref a.f_law_bad_plan)
 k__law_bad_plan : PySem.W.keepIn K (.ref a.f_law_bad_plan) = true
 F_check_lineX : Fun K "check_line" "check_line" s_check_lineX a.f_check_lineX a.d_check_lineX
 g_check_line : mg "check_line" = some (.ref a.f_check_lineX)
 k_check_line : PySem.W.keepIn K (.ref a.f_check_lineX) = true
 F_Line_capacity : Fun K "capacity" "Line.capacity" s_Line_capacity a.f_Line_capacity a.d_Line_capacity
 F_is_pair : Fun K "is_pair" "is_pair" s_is_pair a.f_is_pair a.d_is_pair
 g_is_pair : mg "is_pair" = some (.ref a.f_is_pair)
 k_is_pair : PySem.W.keepIn K (.ref a.f_is_pair) = true
 F_is_seat : Fun K "is_seat" "is_seat" s_is_seat a.f_is_seat a.d_is_seat
 g_is_seat : mg "is_seat" = some (.ref a.f_is_seat)
 k_is_seat : PySem.W.keepIn K (.ref a.f_is_seat) = true
 F_trip_named : Fun K "trip_named" "trip_named" s_trip_named a.f_trip_named a.d_trip_named
 g_trip_named : mg "trip_named" = some (.ref a.f_trip_named)
 k_trip_named : PySem.W.keepIn K (.ref a.f_trip_named) = true
 F_names_trip_and_seat : Fun K "names_trip_and_seat" "names_trip_and_seat" s_names_trip_and_seat a.f_names_trip_and_seat a.d_names_trip_and_seat
 g_names_trip_and_seat : mg "names_trip_and_seat" = some (.ref a.f_names_trip_and_seat)
 k_names_trip_and_seat : PySem.W.keepIn K (.ref a.f_names_trip_and_seat) = true
 F_meet : Fun K "meet" "meet" s_meet a.f_meet a.d_meet
 g_meet : mg "meet" = some (.ref a.f_meet)
 k_meet : PySem.W.keepIn K (.ref a.f_meet) = true
 F_seats_left : Fun K "seats_left" "seats_left" s_seats_left a.f_seats_left a.d_seats_left
 g_seats_left : mg "seats_left" = some (.ref a.f_seats_left)
 k_seats_left : PySem.W.keepIn K (.ref a.f_seats_left) = true
 F_valid_pairs : Fun K "valid_pairs" "valid_pairs" s_valid_pairs a.f_valid_pairs a.d_valid_pairs
 g_valid_pairs : mg "valid_pairs" = some (.ref a.f_valid_pairs)
 k_valid_pairs : PySem.W.keepIn K (.ref a.f_valid_pairs) = true
 F_check_planX : Fun K "check_plan" "check_plan" s_check_planX a.f_check_planX a.d_check_planX
 g_check_plan : mg "check_plan" = some (.ref a.f_check_planX)
 k_check_plan : PySem.W.keepIn K (.ref a.f_check_planX) = true
 F_number_ofX : Fun K "number_of" "number_of" s_number_ofX a.f_number_ofX a.d_number_ofX
 g_number_of : mg "number_of" = some (.ref a.f_number_ofX)
 k_number_of : PySem.W.keepIn K (.ref a.f_number_ofX) = true
 F_certify_number : Fun K "certify_number" "certify_number" s_certify_number a.f_certify_number a.d_certify_number
 g_certify_number : mg "certify_number" = some (.ref a.f_certify_number)
 k_certify_number : PySem.W.keepIn K (.ref a.f_certify_number) = true
 F_overfullX : Fun K "overfull" "overfull" s_overfullX a.f_overfullX a.d_overfullX
 g_overfull : mg "overfull" = some (.ref a.f_overfullX)
 k_overfull : PySem.W.keepIn K (.ref a.f_overfullX) = true
 F_certify_plan : Fun K "certify_plan" "certify_plan" s_certify_plan a.f_certify_plan a.d_certify_plan
 g_certify_plan : mg "certify_plan" = some (.ref a.f_certify_plan)
 k_certify_plan : PySem.W.keepIn K (.ref a.f_certify_plan) = true
 F_check_bothX : Fun K "check_both" "check_both" s_check_bothX a.f_check_bothX a.d_check_bothX
 g_check_both : mg "check_both" = some (.ref a.f_check_bothX)
 k_check_both : PySem.W.keepIn K (.ref a.f_check_bothX) = true
 F_routeX : Fun K "route" "route" s_routeX a.f_routeX a.d_routeX
 g_route : mg "route" = some (.ref a.f_routeX)
 k_route : PySem.W.keepIn K (.ref a.f_routeX) = true
 F_certify_route : Fun K "certify_route" "certify_route" s_certify_route a.f_certify_route a.d_certify_route
 g_certify_route : mg "certify_route" = some (.ref a.f_certify_route)
 k_certify_route : PySem.W.keepIn K (.ref a.f_certify_route) = true
 F_law_bad_fixed : Fun K "_law_bad_fixed" "_law_bad_fixed" s_law_bad_fixed a.f_law_bad_fixed a.d_law_bad_fixed
 g__law_bad_fixed : mg "_law_bad_fixed" = some (.ref a.f_law_bad_fixed)
 k__law_bad_fixed : PySem.W.keepIn K (.ref a.f_law_bad_fixed) = true
 F_check_stationsX : Fun K "check_stations" "check_stations" s_check_stationsX a.f_check_stationsX a.d_check_stationsX
 g_check_stations : mg "check_stations" = some (.ref a.f_check_stationsX)
 k_check_stations : PySem.W.keepIn K (.ref a.f_check_stationsX) = true
 F_itineraryX : Fun K "itinerary" "itinerary" s_itineraryX a.f_itineraryX a.d_itineraryX
 g_itinerary : mg "itinerary" = some (.ref a.f_itineraryX)
 k_itinerary : PySem.W.keepIn K (.ref a.f_itineraryX) = true
 F_certify_changes : Fun K "certify_changes" "certify_changes" s_certify_changes a.f_certify_changes a.d_certify_changes
 g_certify_changes : mg "certify_changes" = some (.ref a.f_certify_changes)
 k_certify_changes : PySem.W.keepIn K (.ref a.f_certify_changes) = true
 F_check_fixedX : Fun K "check_fixed" "check_fixed" s_check_fixedX a.f_check_fixedX a.d_check_fixedX
 g_check_fixed : mg "check_fixed" = some (.ref a.f_check_fixedX)
 k_check_fixed : PySem.W.keepIn K (.ref a.f_check_fixedX) = true
 F_plan_or_obstacleX : Fun K "plan_or_obstacle" "plan_or_obstacle" s_plan_or_obstacleX a.f_plan_or_obstacleX a.d_plan_or_obstacleX
 g_plan_or_obstacle : mg "plan_or_obstacle" = some (.ref a.f_plan_or_obstacleX)
 k_plan_or_obstacle : PySem.W.keepIn K (.ref a.f_plan_or_obstacleX) = true
 F_certify_fixed : Fun K "certify_fixed" "certify_fixed" s_certify_fixed a.f_certify_fixed a.d_certify_fixed
 g_certify_fixed : mg "certify_fixed" = some (.ref a.f_certify_fixed)
 k_certify_fixed : PySem.W.keepIn K (.ref a.f_certify_fixed) = true
 F_law_other_fields : Fun K "_law_other_fields" "_law_other_fields" s_law_other_fields a.f_law_other_fields a.d_law_other_fields
 g__law_other_fields : mg "_law_other_fields" = some (.ref a.f_law_other_fields)
 k__law_other_fields : PySem.W.keepIn K (.ref a.f_law_other_fields) = true
 F_law_fields : Fun K "_law_fields" "_law_fields" s_law_fields a.f_law_fields a.d_law_fields
 g__law_fields : mg "_law_fields" = some (.ref a.f_law_fields)
 k__law_fields : PySem.W.keepIn K (.ref a.f_law_fields) = true
 F_law_kind : Fun K "_law_kind" "_law_kind" s_law_kind a.f_law_kind a.d_law_kind
 g__law_kind : mg "_law_kind" = some (.ref a.f_law_kind)
 k__law_kind : PySem.W.keepIn K (.ref a.f_law_kind) = true
 F_law_caught : Fun K "_law_caught" "_law_caught" s_law_caught a.f_law_caught a.d_law_caught
 g__law_caught : mg "_law_caught" = some (.ref a.f_law_caught)
 k__law_caught : PySem.W.keepIn K (.ref a.f_law_caught) = true
 F_law_rows_of_plans : FunC K "_law_rows_of_plans" "_law_rows_of_plans" s_law_rows_of_plans a.cT a.f_law_rows_of_plans a.d_law_rows_of_plans
 g__law_rows_of_plans : mg "_law_rows_of_plans" = some (.ref a.f_law_rows_of_plans)
 k__law_rows_of_plans : PySem.W.keepIn K (.ref a.f_law_rows_of_plans) = true
 F_law_rows_of_seats : FunC K "_law_rows_of_seats" "_law_rows_of_seats" s_law_rows_of_seats a.cT3 a.f_law_rows_of_seats a.d_law_rows_of_seats
 g__law_rows_of_seats : mg "_law_rows_of_seats" = some (.ref a.f_law_rows_of_seats)
 k__law_rows_of_seats : PySem.W.keepIn K (.ref a.f_law_rows_of_seats) = true
 F_law_right84 : Fun K "_law_right" "_law_right" s_law_right84 a.f_law_right84 a.d_law_right84
 g__law_right : mg "_law_right" = some (.ref a.f_law_right84)
 k__law_right : PySem.W.keepIn K (.ref a.f_law_right84) = true
 F_law84 : Fun K "law" "law" s_law84 a.f_law84 a.d_law84
 g_law : mg "law" = some (.ref a.f_law84)
 k_law : PySem.W.keepIn K (.ref a.f_law84) = true
 b_ArithmeticError : mg "ArithmeticError" = none
 v_LETTERS : ∃ u, mg "LETTERS" = some u ∧ RelV (.str ("abcdefghijklmnopqrstuvwxyz" : Str)) u
 v_LONGEST_NAME : ∃ u, mg "LONGEST_NAME" = some u ∧ RelV (.int 8) u
 b_LookupError : mg "LookupError" = none
 v_MAX_SEATS : ∃ u, mg "MAX_SEATS" = some u ∧ RelV (.int 20) u
 v_MAX_TRIPS : ∃ u, mg "MAX_TRIPS" = some u ∧ RelV (.int 24) u
 b_ValueError : mg "ValueError" = none
 b_abs : mg "abs" = none
 b_all : mg "all" = none
 b_bool : mg "bool" = none
 b_divmod : mg "divmod" = none
 b_enumerate : mg "enumerate" = none
 b_int : mg "int" = none
 b_isinstance : mg "isinstance" = none
 b_len : mg "len" = none
 b_list : mg "list" = none
 b_max : mg "max" = none
 b_min : mg "min" = none
 b_range : mg "range" = none
 b_repr : mg "repr" = none
 b_sorted : mg "sorted" = none
 b_str : mg "str" = none
 b_super : mg "super" = none
 b_tuple : mg "tuple" = none
 b_zip : mg "zip" = none
section
variable {P : Program} {w : World} {K : PySem.W.Frag} {mg : Str → Option Value} {base : Heap} {a : Ad}
abbrev TT (a : Ad) : List (Addr × Str) := [(a.tL, ("Line.__init__.<locals>.<lambda>" : Str)), (a.tT, ("_law_rows_of_plans.<locals>.<lambda>" : Str)), (a.tT3, ("_law_rows_of_seats.<locals>.<lambda>" : Str))]
structure TB2 (base : Heap) (mg : Str → Option Value) (a : Ad) : Prop where
 t1 : LamX.TabB base mg a.cL a.tL
 t2 : LamX.TabB base mg a.cT a.tT
 t3 : LamX.TabB base mg a.cT3 a.tT3
theorem TT_mem_t1 (a : Ad) : (a.tL, ("Line.__init__.<locals>.<lambda>" : Str)) ∈ TT a := List.mem_cons_self
theorem TT_one_t1 (t : Tx P w K mg a) : ∀ q ∈ TT a, q.1 = a.tL → q.2 = ("Line.__init__.<locals>.<lambda>" : Str) := fun q hq e => by
 simp only [TT, List.mem_cons, List.not_mem_nil, or_false] at hq
 rcases hq with rfl | rfl | rfl
 ·rfl
 ·exact absurd e.symm t.tne01
 ·exact absurd e.symm t.tne02
theorem TT_mem_t2 (a : Ad) : (a.tT, ("_law_rows_of_plans.<locals>.<lambda>" : Str)) ∈ TT a := List.mem_cons_of_mem _ (List.mem_cons_self)
theorem TT_one_t2 (t : Tx P w K mg a) : ∀ q ∈ TT a, q.1 = a.tT → q.2 = ("_law_rows_of_plans.<locals>.<lambda>" : Str) := fun q hq e => by
 simp only [TT, List.mem_cons, List.not_mem_nil, or_false] at hq
 rcases hq with rfl | rfl | rfl
 ·exact absurd e t.tne01
 ·rfl
 ·exact absurd e.symm t.tne12
theorem TT_mem_t3 (a : Ad) : (a.tT3, ("_law_rows_of_seats.<locals>.<lambda>" : Str)) ∈ TT a := List.mem_cons_of_mem _ (List.mem_cons_of_mem _ (List.mem_cons_self))
theorem TT_one_t3 (t : Tx P w K mg a) : ∀ q ∈ TT a, q.1 = a.tT3 → q.2 = ("_law_rows_of_seats.<locals>.<lambda>" : Str) := fun q hq e => by
 simp only [TT, List.mem_cons, List.not_mem_nil, or_false] at hq
 rcases hq with rfl | rfl | rfl
 ·exact absurd e t.tne02
 ·exact absurd e t.tne12
 ·rfl
theorem bd_law_cell (t : Tx P w K mg a) : Binds K a.d_law_cell [("_law_script" : Str), ("_law_k" : Str)] [] := t.F_law_cell.binds fun _ _ _ _ _ _ us hl => match us, hl with | [_, _], _ => rfl
theorem ok_law_cell (t : Tx P w K mg a) (tb : TB2 base mg a) : FnOk P w K mg base CX0 1 a.f_law_cell a.d_law_cell [("_law_script" : Str), ("_law_k" : Str)] (upSp K (TT a) (sp_law_cell K a.CLine)) :=
 okP t.F_law_cell sc_law_cell (fun _ _ h => len_law_cell h) (by decide) fun cdv A outer s H E hr => ⟨ts_law_cell K a.CLine, zs_cons (z_if (zt_cmp zo_lt (zv 1) (z_callB zc_len (by rfl) t.b_len (by decide +kernel) (za_cons (zv 0) (za_nil)))) (zs_one (z_ret (z_ix (zv 0) (zv 1)))) (zs_nil)) (zs_cons (z_set (i := 2) sc_law_cell.nd rfl (Or.inl rfl) (z_op zo_mod (z_op zo_mulA (z_int) (z_op zo_add (z_op zo_add (z_op zo_mulA (zv 1) (zv 1)) (z_op zo_mulA (z_int) (zv 1))) (z_int))) (z_int))) (zs_cons (z_for PassesOwn.never rfl (zi_list (z_slice (zv 0) (zp_none) (zp_some (z_int)))) (zg_name (i := 3) sc_law_cell.nd rfl (Or.inl rfl)) (zs_one (z_set (i := 2) sc_law_cell.nd rfl (Or.inl rfl) (z_op zo_mod (z_op zo_add (z_op zo_mulA (zv 2) (z_int)) (zv 3)) (z_int))))) (zs_one (z_ret (zv 2))))), fun _ _ h => rd_law_cell h⟩
theorem bd_law_pool (t : Tx P w K mg a) : Binds K a.d_law_pool [("_law_cell_here" : Str)] [] := t.F_law_pool.binds fun _ _ _ _ _ _ us hl => match us, hl with | [_], _ => rfl
theorem ok_law_pool (t : Tx P w K mg a) (tb : TB2 base mg a) : FnOk P w K mg base CX0 1 a.f_law_pool a.d_law_pool [("_law_cell_here" : Str)] (upSpF K (TT a) (sp_law_pool K a.CLine)) :=
 okF t.F_law_pool sc_law_pool (fun _ _ h => len_law_pool h) (by decide) fun cdv A outer s H E hr => ⟨ts_law_pool K a.CLine, zsf_cons (z_set (i := 1) sc_law_pool.nd rfl (Or.inl rfl) (z_int)) (zsf_cons (z_if ((zw_or (zt_cmp zo_lt (zv 0) (z_int)) (zw_or1 (zt_cmp zo_ge (zv 0) (z_op zo_pow (z_int) (z_int))))).pt) (zs_one (z_set (i := 1) sc_law_pool.nd rfl (Or.inl rfl) (z_callB zc_abs (by rfl) t.b_abs (by decide +kernel) (za_cons (zv 0) (za_nil))))) (zs_nil)) (zsf_ret (zf_lst (za_cons (z_op zo_mod (zv 0) (z_int)) (za_cons (zv 1) (za_cons (z_int) (za_nil))))))), fun _ _ h => rd_law_pool h⟩
theorem bd_is_integer (t : Tx P w K mg a) : Binds K a.d_is_integer [("thing" : Str)] [] := t.F_is_integer.binds fun _ _ _ _ _ _ us hl => match us, hl with | [_], _ => rfl
theorem ok_is_integer (t : Tx P w K mg a) (tb : TB2 base mg a) : FnOk P w K mg base CX0 1 a.f_is_integer a.d_is_integer [("thing" : Str)] (upSp K (TT a) (sp_is_integer K a.CLine)) :=
 okP t.F_is_integer sc_is_integer (fun _ _ h => len_is_integer h) (by decide) fun cdv A outer s H E hr => ⟨ts_is_integer K a.CLine, zs_one (z_ret (z_and (z_callB zc_isi (by rfl) t.b_isinstance (by decide +kernel) (za_cons (zv 0) (za_cons (z_ty (by rfl) t.b_int (by decide +kernel)) (za_nil)))) (z_one (z_not (z_callB zc_isi (by rfl) t.b_isinstance (by decide +kernel) (za_cons (zv 0) (za_cons (z_ty (by rfl) t.b_bool (by decide +kernel)) (za_nil)))))))), fun _ _ h => rd_is_integer h⟩
theorem bd_check_seats (t : Tx P w K mg a) : Binds K a.d_check_seats [("seats" : Str)] [] := t.F_check_seats.binds fun _ _ _ _ _ _ us hl => match us, hl with | [_], _ => rfl
theorem ok_check_seats (t : Tx P w K mg a) (tb : TB2 base mg a) : FnOk P w K mg base CX0 2 a.f_check_seats a.d_check_seats [("seats" : Str)] (upSp K (TT a) (sp_check_seats K a.CLine)) :=
 okP t.F_check_seats sc_check_seats (fun _ _ h => len_check_seats h) (by decide) fun cdv A outer s H E hr => ⟨ts_check_seats K a.CLine, zs_one (z_if ((zw_or (zt_not (zt_val (z_call (ok_is_integer t tb) (hr.mono (by decide)) (by rfl) t.g_is_integer t.k_is_integer (bd_is_integer t) .nil (fun _ _ => .nil) (za_cons (zv 0) (za_nil))))) (zw_or1 (zt_not (zt_chain zo_le zo_le (z_int) (zv 0) (z_gi (by rfl) t.v_MAX_SEATS))))).pt) (zs_one (z_never)) (zs_nil)), fun _ _ h => rd_check_seats h⟩
theorem bd_is_later (t : Tx P w K mg a) : Binds K a.d_is_later [("thing" : Str), ("start" : Str)] [] := t.F_is_later.binds fun _ _ _ _ _ _ us hl => match us, hl with | [_, _], _ => rfl
theorem ok_is_later (t : Tx P w K mg a) (tb : TB2 base mg a) : FnOk P w K mg base CX0 2 a.f_is_later a.d_is_later [("thing" : Str), ("start" : Str)] (upSp K (TT a) (sp_is_later K a.CLine)) :=
 okP t.F_is_later sc_is_later (fun _ _ h => len_is_later h) (by decide) fun cdv A outer s H E hr => ⟨ts_is_later K a.CLine, zs_one (z_ret (z_and (z_call (ok_is_integer t tb) (hr.mono (by decide)) (by rfl) t.g_is_integer t.k_is_integer (bd_is_integer t) .nil (fun _ _ => .nil) (za_cons (zv 0) (za_nil))) (z_one (z_cmp zo_gt (zv 0) (zv 1))))), fun _ _ h => rd_is_later h⟩
theorem bd_is_station (t : Tx P w K mg a) : Binds K a.d_is_station [("thing" : Str)] [] := t.F_is_station.binds fun _ _ _ _ _ _ us hl => match us, hl with | [_], _ => rfl
theorem ok_is_station (t : Tx P w K mg a) (tb : TB2 base mg a) : FnOk P w K mg base CX0 2 a.f_is_station a.d_is_station [("thing" : Str)] (upSp K (TT a) (sp_is_station K a.CLine)) :=
 okP t.F_is_station sc_is_station (fun _ _ h => len_is_station h) (by decide) fun cdv A outer s H E hr => ⟨ts_is_station K a.CLine, zs_one (z_ret (z_and (z_call (ok_is_integer t tb) (hr.mono (by decide)) (by rfl) t.g_is_integer t.k_is_integer (bd_is_integer t) .nil (fun _ _ => .nil) (za_cons (zv 0) (za_nil))) (z_one (z_cmp zo_ge (zv 0) (z_int))))), fun _ _ h => rd_is_station h⟩
theorem bd_is_trip_name (t : Tx P w K mg a) : Binds K a.d_is_trip_name [("thing" : Str)] [] := t.F_is_trip_name.binds fun _ _ _ _ _ _ us hl => match us, hl with | [_], _ => rfl
theorem ok_is_trip_name (t : Tx P w K mg a) (tb : TB2 base mg a) : FnOk P w K mg base CX0 1 a.f_is_trip_name a.d_is_trip_name [("thing" : Str)] (upSp K (TT a) (sp_is_trip_name K a.CLine)) :=
 okP t.F_is_trip_name sc_is_trip_name (fun _ _ h => len_is_trip_name h) (by decide) fun cdv A outer s H E hr => ⟨ts_is_trip_name K a.CLine, zs_cons (z_if ((zw_or (zt_not (zt_val (z_callB zc_isi (by rfl) t.b_isinstance (by decide +kernel) (za_cons (zv 0) (za_cons (z_ty (by rfl) t.b_str (by decide +kernel)) (za_nil)))))) (zw_or1 (zt_not (zt_chain zo_le zo_le (z_int) (z_callB zc_len (by rfl) t.b_len (by decide +kernel) (za_cons (zv 0) (za_nil))) (z_gi (by rfl) t.v_LONGEST_NAME))))).pt) (zs_one (z_ret (z_bl))) (zs_nil)) (zs_one (z_ret (z_callB (zc_all rfl) (by rfl) t.b_all (by decide +kernel) (za_cons (z_val (zf_lc (own := [(("letter" : Str), 1)]) (pe_lc (own := [(("letter" : Str), 1)]) rfl sc_is_trip_name.nd (zi_str (zv 0)) (blkOk_by (own := [(("letter" : Str), 1)]) (N := N_is_trip_name) (sc := defScope s_is_trip_name) (by decide +kernel)) (fun _ _ _ _ _ => zgw_name (by decide) (pg_name (i := 1) sc_is_trip_name.nd rfl (Or.inl rfl))) (fun _ _ _ _ _ => zts_nil) (fun _ _ _ _ _ => z_cmp zo_in (zv 1) (z_gs (by rfl) t.v_LETTERS))))) (za_nil))))), fun _ _ h => rd_is_trip_name h⟩
theorem bd_is_trip (t : Tx P w K mg a) : Binds K a.d_is_trip [("thing" : Str)] [] := t.F_is_trip.binds fun _ _ _ _ _ _ us hl => match us, hl with | [_], _ => rfl
theorem ok_is_trip (t : Tx P w K mg a) (tb : TB2 base mg a) : FnOk P w K mg base CX0 3 a.f_is_trip a.d_is_trip [("thing" : Str)] (upSp K (TT a) (sp_is_trip K a.CLine)) :=
 okP t.F_is_trip sc_is_trip (fun _ _ h => len_is_trip h) (by decide) fun cdv A outer s H E hr => ⟨ts_is_trip K a.CLine, zs_cons (z_if ((zw_or (zt_not (zt_val (z_callB zc_isi (by rfl) t.b_isinstance (by decide +kernel) (za_cons (zv 0) (za_cons (z_ty (by rfl) t.b_tuple (by decide +kernel)) (za_nil)))))) (zw_or1 (zt_cmp (zo_ne hr.units) (z_callB zc_len (by rfl) t.b_len (by decide +kernel) (za_cons (zv 0) (za_nil))) (z_int)))).pt) (zs_one (z_ret (z_bl))) (zs_nil)) (zs_cons (z_asg (zv 0) (zg_tup (pg_tup rfl (zgs_cons1 (zg_name (i := 1) sc_is_trip.nd rfl (Or.inl rfl)) (zgs_cons1 (zg_name (i := 2) sc_is_trip.nd rfl (Or.inl rfl)) (zgs_cons1 (zg_name (i := 3) sc_is_trip.nd rfl (Or.inl rfl)) (zgs_nil))))))) (zs_one (z_ret (z_and (z_call (ok_is_trip_name t tb) (hr.mono (by decide)) (by rfl) t.g_is_trip_name t.k_is_trip_name (bd_is_trip_name t) .nil (fun _ _ => .nil) (za_cons (zv 1) (za_nil))) (z_and (z_call (ok_is_station t tb) (hr.mono (by decide)) (by rfl) t.g_is_station t.k_is_station (bd_is_station t) .nil (fun _ _ => .nil) (za_cons (zv 2) (za_nil))) (z_one (z_call (ok_is_later t tb) (hr.mono (by decide)) (by rfl) t.g_is_later t.k_is_later (bd_is_later t) .nil (fun _ _ => .nil) (za_cons (zv 3) (za_cons (zv 2) (za_nil)))))))))), fun _ _ h => rd_is_trip h⟩
theorem bd_valid_beginning (t : Tx P w K mg a) : Binds K a.d_valid_beginning [("trips" : Str)] [] := t.F_valid_beginning.binds fun _ _ _ _ _ _ us hl => match us, hl with | [_], _ => rfl
theorem ok_valid_beginning (t : Tx P w K mg a) (tb : TB2 base mg a) : FnOk P w K mg base CX0 4 a.f_valid_beginning a.d_valid_beginning [("trips" : Str)] (upSp K (TT a) (sp_valid_beginning K a.CLine)) :=
 okP t.F_valid_beginning sc_valid_beginning (fun _ _ h => len_valid_beginning h) (by decide) fun cdv A outer s H E hr => ⟨ts_valid_beginning K a.CLine, zs_cons (z_set (i := 1) sc_valid_beginning.nd rfl (Or.inl rfl) (z_str)) (zs_cons (z_for PassesOwn.never rfl (zi_enum1 (by rfl) t.b_enumerate (zv 0)) (zg_tup (pg_tup rfl (zgs_cons1 (zg_name (i := 2) sc_valid_beginning.nd rfl (Or.inl rfl)) (zgs_cons1 (zg_name (i := 3) sc_valid_beginning.nd rfl (Or.inl rfl)) (zgs_nil))))) (zs_cons (z_if ((zw_or (zt_cmp (zo_eq hr.units) (zv 2) (z_gi (by rfl) t.v_MAX_TRIPS)) (zw_or (zt_not (zt_val (z_call (ok_is_trip t tb) (hr.mono (by decide)) (by rfl) t.g_is_trip t.k_is_trip (bd_is_trip t) .nil (fun _ _ => .nil) (za_cons (zv 3) (za_nil))))) (zw_or1 (zt_cmp zo_le (z_ix (zv 3) (z_int)) (zv 1))))).pt) (zs_one (z_ret (zv 2))) (zs_nil)) (zs_one (z_set (i := 1) sc_valid_beginning.nd rfl (Or.inl rfl) (z_ix (zv 3) (z_int)))))) (zs_one (z_ret (z_callB zc_len (by rfl) t.b_len (by decide +kernel) (za_cons (zv 0) (za_nil)))))), fun _ _ h => rd_valid_beginning h⟩
theorem bd_Line_init (t : Tx P w K mg a) : Binds K a.d_Line_init [("self" : Str), ("seats" : Str), ("trips" : Str)] [] := t.F_Line_init.b0 (by simp) fun T kV doc pm an cdv ct us its h1 h2 => match us, its, h1, h2 with | [_, _, _], [_], _, _ => ⟨_, rfl, rfl⟩
theorem ok_Line_init (t : Tx P w K mg a) (tb : TB2 base mg a) : FnOk P w K mg base CX0 5 a.f_Line_init a.d_Line_init [("self" : Str), ("seats" : Str), ("trips" : Str)] (upSpR K (TT a) (sp_Line_init K a.CLine)) :=
 okRX (nm := ("self" : Str)) (N := [("seats" : Str), ("trips" : Str), ("valid" : Str)]) (ps := [("seats" : Str), ("trips" : Str)]) t.F_Line_init sc_Line_init (fun _ _ _ h => len_Line_init h) (by decide) fun A outer s H E hr => ⟨ts_Line_init K a.CLine, zs_cons (z_expr (z_call (ok_check_seats t tb) (hr.mono (by decide)) (by rfl) t.g_check_seats t.k_check_seats (bd_check_seats t) .nil (fun _ _ => .nil) (za_cons (zv 1) (za_nil)))) (zs_cons (z_if (zt_not (zt_val (z_callB zc_isi (by rfl) t.b_isinstance (by decide +kernel) (za_cons (zv 2) (za_cons (z_ty (by rfl) t.b_tuple (by decide +kernel)) (za_nil)))))) (zs_one (z_never)) (zs_nil)) (zs_cons (z_set (i := 3) sc_Line_init.nd rfl (Or.inl rfl) (z_call (ok_valid_beginning t tb) (hr.mono (by decide)) (by rfl) t.g_valid_beginning t.k_valid_beginning (bd_valid_beginning t) .nil (fun _ _ => .nil) (za_cons (zv 2) (za_nil)))) (zs_cons (z_if (zt_cmp zo_lt (zv 3) (z_callB zc_len (by rfl) t.b_len (by decide +kernel) (za_cons (zv 2) (za_nil)))) (zs_one (z_never)) (zs_nil)) (zs_cons (z_fldS t.cl t.n_seat_count (pv 0) (zv 1)) (zs_cons (z_fldS t.cl t.n_rows (pv 0) (zv 2)) (zs_one (z_fldS t.cl t.n_queue (pv 0) (z_callTy zc_tuple (by rfl) t.b_tuple (by decide +kernel) (za_cons (z_sortL (x := Str.empty) (i := 1) (j := 0) (nm := ("row" : Str)) (by rfl) t.b_sorted (zv 2) hr ⟨rfl, rfl, rfl, rfl, by decide +kernel⟩ rfl tb.t1 rfl (TT_mem_t1 a) (TT_one_t1 t) (by decide +kernel) rfl (fun _ _ _ _ _ => rfl) ⟨by decide, by decide⟩ ⟨by decide, by decide⟩ (by decide)) (za_nil)))))))))), fun _ _ _ h => rd_Line_init h⟩
theorem bd_Line_str (t : Tx P w K mg a) : Binds K a.d_Line_str [("self" : Str)] [] := t.F_Line_str.binds fun _ _ _ _ _ _ us hl => match us, hl with | [_], _ => rfl
theorem ok_Line_str (t : Tx P w K mg a) (tb : TB2 base mg a) : FnOk P w K mg base CX0 1 a.f_Line_str a.d_Line_str [("self" : Str)] (upSp K (TT a) (sp_Line_str K a.CLine)) :=
 okP t.F_Line_str sc_Line_str (fun _ _ h => len_Line_str h) (by decide) fun cdv A outer s H E hr => ⟨ts_Line_str K a.CLine, zs_cons (z_setLc (own := [(("name" : Str), 2), (("start" : Str), 3), (("end" : Str), 4)]) (i := 1) (ps_setLc (own := [(("name" : Str), 2), (("start" : Str), 3), (("end" : Str), 4)]) rfl sc_Line_str.nd (i := 1) rfl rfl rfl (zi_tup (z_fld t.cl t.n_rows (zv 0))) (blkOk_by (own := [(("name" : Str), 2), (("start" : Str), 3), (("end" : Str), 4)]) (N := N_Line_str) (sc := defScope s_Line_str) (by decide +kernel)) (fun _ _ _ _ _ => zgw_tup (pg_tup rfl (zgsw_cons (pgs_cons (zgw_name (by decide) (pg_name (i := 2) sc_Line_str.nd rfl (Or.inl rfl))) (zgsw_cons (pgs_cons (zgw_name (by decide) (pg_name (i := 3) sc_Line_str.nd rfl (Or.inl rfl))) (zgsw_cons (pgs_cons (zgw_name (by decide) (pg_name (i := 4) sc_Line_str.nd rfl (Or.inl rfl))) (zgsw_nil))))))))) (fun _ _ _ _ _ => zts_nil) (fun _ _ _ _ _ => z_js (ts := [tFmtP (tVarP 2), tConP (.str (":" : Str)), tFmtP (tVarP 3), tConP (.str ("-" : Str)), tFmtP (tVarP 4)]) (.cons (z_fmt (zv 2)) (.cons (z_str) (.cons (z_fmt (zv 3)) (.cons (z_str) (.cons (z_fmt (zv 4)) (.nil))))))))) (zs_one (z_ret (z_join rfl (pe_join (z_str) (z_lst (za_cons (z_callTy zc_str (by rfl) t.b_str (by decide +kernel) (za_cons (z_fld t.cl t.n_seat_count (zv 0)) (za_nil))) (za_star (zv 1) (za_nil)))))))), fun _ _ h => rd_Line_str h⟩
theorem bd_Line_repr (t : Tx P w K mg a) : Binds K a.d_Line_repr [("self" : Str)] [] := t.F_Line_repr.binds fun _ _ _ _ _ _ us hl => match us, hl with | [_], _ => rfl
theorem ok_Line_repr (t : Tx P w K mg a) (tb : TB2 base mg a) : FnOk P w K mg base CX0 5 a.f_Line_repr a.d_Line_repr [("self" : Str)] (upSp K (TT a) (sp_Line_repr K a.CLine)) :=
 okP t.F_Line_repr sc_Line_repr (fun _ _ h => len_Line_repr h) (by decide) fun cdv A outer s H E hr => ⟨ts_Line_repr K a.CLine, zs_one (z_ret (z_js (ts := [tConP (.str ("Line('" : Str)), tFmtP (tStrOP a.CLine (sp_Line_str K a.CLine) (tConsP (tVarP 0) (tNilP))), tConP (.str ("')" : Str))]) (.cons (z_str) (.cons (z_fmt (z_strO t.ow (call_strO (ok_Line_str t tb) (hr.mono (by decide)) t.ow (bd_Line_str t)) (by rfl) t.b_str (by decide +kernel) (za_cons (zv 0) (za_nil)))) (.cons (z_str) (.nil)))))), fun _ _ h => rd_Line_repr h⟩
theorem bd_Line_trips (t : Tx P w K mg a) : Binds K a.d_Line_trips [("self" : Str)] [] := t.F_Line_trips.binds fun _ _ _ _ _ _ us hl => match us, hl with | [_], _ => rfl
theorem ok_Line_trips (t : Tx P w K mg a) (tb : TB2 base mg a) : FnOk P w K mg base CX0 1 a.f_Line_trips a.d_Line_trips [("self" : Str)] (upSp K (TT a) (sp_Line_trips K a.CLine)) :=
 okP t.F_Line_trips sc_Line_trips (fun _ _ h => len_Line_trips h) (by decide) fun cdv A outer s H E hr => ⟨ts_Line_trips K a.CLine, zs_one (z_ret (z_fld t.cl t.n_rows (zv 0))), fun _ _ h => rd_Line_trips h⟩
theorem bd_law_draw (t : Tx P w K mg a) : Binds K a.d_law_draw [("_law_pool_here" : Str), ("_law_many" : Str)] [] := t.F_law_draw.binds fun _ _ _ _ _ _ us hl => match us, hl with | [_, _], _ => rfl
theorem ok_law_draw (t : Tx P w K mg a) (tb : TB2 base mg a) : FnOk P w K mg base CX0 1 a.f_law_draw a.d_law_draw [("_law_pool_here" : Str), ("_law_many" : Str)] (upSpR K (TT a) (sp_law_draw K a.CLine)) :=
 okR (nm := ("_law_pool_here" : Str)) (N := [("_law_many" : Str), ("_law_state" : Str), ("_law_digit" : Str)]) (ps := [("_law_many" : Str)]) t.F_law_draw sc_law_draw (fun _ _ _ h => len_law_draw h) (by decide) fun cdv A outer s H E hr => ⟨ts_law_draw K a.CLine, zs_cons (z_asg (z_op zo_add (z_ixO (pv 0) (z_int)) (z_int)) (zg_sub (pv 0) (z_int) (pg_sub (pv 0) (z_int) set_list))) (zs_cons (z_set (i := 2) sc_law_draw.nd rfl (Or.inl rfl) (z_ixO (pv 0) (z_int))) (zs_cons (z_asg (z_op zo_mod (z_op zo_add (z_op zo_add (z_op zo_mulA (zv 2) (z_op zo_add (z_op zo_mod (zv 2) (z_int)) (z_int))) (z_op zo_mulA (z_int) (z_ixO (pv 0) (z_int)))) (z_int)) (z_int)) (zg_sub (pv 0) (z_int) (pg_sub (pv 0) (z_int) set_list))) (zs_cons (z_if (zt_cmp zo_gt (z_ixO (pv 0) (z_int)) (z_int)) (zs_cons (z_asg (z_callB zc_divmodW (by rfl) t.b_divmod (by decide +kernel) (za_cons (z_ixO (pv 0) (z_int)) (za_cons (zv 1) (za_nil)))) (zg_tup (pg_tup rfl (zgs_cons1 (zg_sub (pv 0) (z_int) (pg_sub (pv 0) (z_int) set_list)) (zgs_cons1 (zg_name (i := 3) sc_law_draw.nd rfl (Or.inl rfl)) (zgs_nil)))))) (zs_one (z_ret (zv 3)))) (zs_nil)) (zs_one (z_ret (z_op zo_mod (z_op zo_div (z_ixO (pv 0) (z_int)) (z_int)) (zv 1))))))), fun _ _ _ h => rd_law_draw h⟩
theorem bd_law_bad_plan (t : Tx P w K mg a) : Binds K a.d_law_bad_plan [("_law_pool_here" : Str)] [] := t.F_law_bad_plan.binds fun _ _ _ _ _ _ us hl => match us, hl with | [_], _ => rfl
theorem ok_law_bad_plan (t : Tx P w K mg a) (tb : TB2 base mg a) : FnOk P w K mg base CX0 2 a.f_law_bad_plan a.d_law_bad_plan [("_law_pool_here" : Str)] (upSpR K (TT a) (sp_law_bad_plan K a.CLine)) :=
 okR (nm := ("_law_pool_here" : Str)) (N := [("_law_good" : Str), ("_law_some" : Str)]) (ps := []) t.F_law_bad_plan sc_law_bad_plan (fun _ _ _ h => len_law_bad_plan h) (by decide) fun cdv A outer s H E hr => ⟨ts_law_bad_plan K a.CLine, zs_cons (z_set (i := 1) sc_law_bad_plan.nd rfl (Or.inl rfl) (z_tup (za_cons (z_tup (za_cons (z_str) (za_cons (z_int) (za_nil)))) (za_cons (z_tup (za_cons (z_str) (za_cons (z_int) (za_nil)))) (za_cons (z_tup (za_cons (z_str) (za_cons (z_int) (za_nil)))) (za_nil)))))) (zs_cons (z_setF (i := 2) sc_law_bad_plan.nd rfl (Or.inl rfl) (zf_lst (za_cons (z_tup (za_cons (z_non) (za_cons (z_non) (za_nil)))) (za_cons (z_tup (za_cons (z_int) (za_cons (z_non) (za_nil)))) (za_cons (z_tup (za_cons (z_callTy zc_list (by rfl) t.b_list (by decide +kernel) (za_cons (zv 1) (za_nil))) (za_cons (z_non) (za_nil)))) (za_cons (z_tup (za_cons (z_tup (za_nil)) (za_cons (z_int) (za_nil)))) (za_cons (z_tup (za_cons (z_sliceA (zv 1) (zp_none) (zp_some (z_int))) (za_cons (z_int) (za_nil)))) (za_cons (z_tup (za_cons (z_op zo_add (zv 1) (z_tup (za_cons (z_tup (za_cons (z_str) (za_cons (z_int) (za_nil)))) (za_nil)))) (za_cons (z_int) (za_nil)))) (za_nil))))))))) (zs_cons (z_app rfl (ps_expr (pe_bm PySem.F.plainAttrs_list PySem.F.slot_list_append PySem.F.type_list_append mt_append (pv 2) (pa_cons (z_tup (za_cons (z_str) (za_cons (z_non) (za_nil)))) pa_nil)))) (zs_cons (z_setF (i := 2) sc_law_bad_plan.nd rfl (Or.inl rfl) (zf_add (zv 2) (z_lst (za_cons (z_tup (za_cons (z_tup (za_cons (z_tup (za_cons (z_str) (za_cons (z_int) (za_nil)))) (za_cons (z_tup (za_cons (z_str) (za_cons (z_int) (za_nil)))) (za_cons (z_tup (za_cons (z_str) (za_cons (z_int) (za_nil)))) (za_nil))))) (za_cons (z_int) (za_nil)))) (za_cons (z_tup (za_cons (z_tup (za_cons (z_tup (za_cons (z_str) (za_cons (z_int) (za_nil)))) (za_cons (z_tup (za_cons (z_str) (za_cons (z_int) (za_nil)))) (za_cons (z_tup (za_cons (z_str) (za_cons (z_int) (za_nil)))) (za_nil))))) (za_cons (z_int) (za_nil)))) (za_cons (z_tup (za_cons (z_revT (zv 1)) (za_cons (z_int) (za_nil)))) (za_nil))))))) (zs_cons (z_setF (i := 2) sc_law_bad_plan.nd rfl (Or.inl rfl) (zf_add (zv 2) (z_lst (za_cons (z_tup (za_cons (z_tup (za_cons (z_tup (za_cons (z_str) (za_cons (z_int) (za_nil)))) (za_cons (z_tup (za_cons (z_str) (za_cons (z_bl) (za_nil)))) (za_cons (z_tup (za_cons (z_str) (za_cons (z_int) (za_nil)))) (za_nil))))) (za_cons (z_int) (za_nil)))) (za_cons (z_tup (za_cons (z_tup (za_cons (z_tup (za_cons (z_str) (za_cons (z_int) (za_nil)))) (za_cons (z_tup (za_cons (z_str) (za_cons (z_int) (za_nil)))) (za_cons (z_tup (za_cons (z_str) (za_cons (z_int) (za_nil)))) (za_nil))))) (za_cons (z_int) (za_nil)))) (za_cons (z_tup (za_cons (z_dic0) (za_cons (z_non) (za_nil)))) (za_nil))))))) (zs_cons (z_setF (i := 2) sc_law_bad_plan.nd rfl (Or.inl rfl) (zf_add (zv 2) (z_lst (za_cons (z_tup (za_cons (z_tup (za_cons (z_lst (za_cons (z_str) (za_cons (z_int) (za_nil)))) (za_cons (z_tup (za_cons (z_str) (za_cons (z_int) (za_nil)))) (za_cons (z_tup (za_cons (z_str) (za_cons (z_int) (za_nil)))) (za_nil))))) (za_cons (z_int) (za_nil)))) (za_cons (z_tup (za_cons (z_tup (za_cons (z_tup (za_cons (z_str) (za_cons (z_int) (za_nil)))) (za_cons (z_tup (za_cons (z_str) (za_cons (z_int) (za_nil)))) (za_cons (z_non) (za_nil))))) (za_cons (z_int) (za_nil)))) (za_nil)))))) (zs_cons (z_app rfl (ps_expr (pe_bm PySem.F.plainAttrs_list PySem.F.slot_list_append PySem.F.type_list_append mt_append (pv 2) (pa_cons (z_tup (za_cons (z_op zo_add (z_tup (za_cons (z_tup (za_cons (z_str) (za_cons (z_lst (za_cons (z_int) (za_nil))) (za_nil)))) (za_nil))) (z_sliceA (zv 1) (zp_some (z_int)) (zp_none))) (za_cons (z_int) (za_nil)))) pa_nil)))) (zs_one (z_ret (z_ixO (pv 2) (z_callR (ok_law_draw t tb) (hr.mono (by decide)) (by rfl) t.g__law_draw t.k__law_draw (bd_law_draw t) (pa_cons (pv 0) (za_cons (z_int) (za_nil))))))))))))), fun _ _ _ h => rd_law_bad_plan h⟩
theorem bd_check_lineX (t : Tx P w K mg a) : Binds K a.d_check_lineX [("line" : Str)] [] := t.F_check_lineX.binds fun _ _ _ _ _ _ us hl => match us, hl with | [_], _ => rfl
theorem okx_check_lineX (t : Tx P w K mg a) (tb : TB2 base mg a) : FnOk P w K mg base (L2N.CX P w) 7 a.f_check_lineX a.d_check_lineX [("line" : Str)] (upSpX K (TT a) (sp_check_lineX K a.CLine a.XC)) :=
 okXP t.F_check_lineX sc_check_lineX (fun _ _ _ h => len_check_lineX h) (by decide) fun cdv A outer s H E hr tk hp => ⟨ts_check_lineX K a.CLine a.XC, zxs_one (zx_if (zt_not (zt_val (z_callB zc_isi (by rfl) t.b_isinstance (by decide +kernel) (za_cons (zv 0) (za_cons (z_gc (by rfl) t.g_Line) (za_nil)))))) (zxs_one (zx_raise t.xa_NotALine.ok t.b_super tk rfl (L2H.roomH_of (hr.mono (by decide))) (by rfl) (zv 0))) (zxs_pl (zs_nil))), fun _ _ _ h => rd_check_lineX h⟩
theorem bd_Line_capacity (t : Tx P w K mg a) : Binds K a.d_Line_capacity [("self" : Str)] [] := t.F_Line_capacity.binds fun _ _ _ _ _ _ us hl => match us, hl with | [_], _ => rfl
theorem ok_Line_capacity (t : Tx P w K mg a) (tb : TB2 base mg a) : FnOk P w K mg base CX0 1 a.f_Line_capacity a.d_Line_capacity [("self" : Str)] (upSp K (TT a) (sp_Line_capacity K a.CLine)) :=
 okP t.F_Line_capacity sc_Line_capacity (fun _ _ h => len_Line_capacity h) (by decide) fun cdv A outer s H E hr => ⟨ts_Line_capacity K a.CLine, zs_one (z_ret (z_fld t.cl t.n_seat_count (zv 0))), fun _ _ h => rd_Line_capacity h⟩
theorem bd_is_pair (t : Tx P w K mg a) : Binds K a.d_is_pair [("thing" : Str)] [] := t.F_is_pair.binds fun _ _ _ _ _ _ us hl => match us, hl with | [_], _ => rfl
theorem ok_is_pair (t : Tx P w K mg a) (tb : TB2 base mg a) : FnOk P w K mg base CX0 1 a.f_is_pair a.d_is_pair [("thing" : Str)] (upSp K (TT a) (sp_is_pair K a.CLine)) :=
 okP t.F_is_pair sc_is_pair (fun _ _ h => len_is_pair h) (by decide) fun cdv A outer s H E hr => ⟨ts_is_pair K a.CLine, zs_one (z_ret (z_and (z_callB zc_isi (by rfl) t.b_isinstance (by decide +kernel) (za_cons (zv 0) (za_cons (z_ty (by rfl) t.b_tuple (by decide +kernel)) (za_nil)))) (z_one (z_cmp zo_eqI (z_callB zc_len (by rfl) t.b_len (by decide +kernel) (za_cons (zv 0) (za_nil))) (z_int))))), fun _ _ h => rd_is_pair h⟩
theorem bd_is_seat (t : Tx P w K mg a) : Binds K a.d_is_seat [("thing" : Str), ("seats" : Str)] [] := t.F_is_seat.binds fun _ _ _ _ _ _ us hl => match us, hl with | [_, _], _ => rfl
theorem ok_is_seat (t : Tx P w K mg a) (tb : TB2 base mg a) : FnOk P w K mg base CX0 2 a.f_is_seat a.d_is_seat [("thing" : Str), ("seats" : Str)] (upSp K (TT a) (sp_is_seat K a.CLine)) :=
 okP t.F_is_seat sc_is_seat (fun _ _ h => len_is_seat h) (by decide) fun cdv A outer s H E hr => ⟨ts_is_seat K a.CLine, zs_one (z_ret (z_and (z_call (ok_is_integer t tb) (hr.mono (by decide)) (by rfl) t.g_is_integer t.k_is_integer (bd_is_integer t) .nil (fun _ _ => .nil) (za_cons (zv 0) (za_nil))) (z_one (z_chain1 zo_le zo_le (z_int) (zv 0) (zv 1))))), fun _ _ h => rd_is_seat h⟩
theorem bd_trip_named (t : Tx P w K mg a) : Binds K a.d_trip_named [("trips" : Str), ("name" : Str)] [] := t.F_trip_named.binds fun _ _ _ _ _ _ us hl => match us, hl with | [_, _], _ => rfl
theorem ok_trip_named (t : Tx P w K mg a) (tb : TB2 base mg a) : FnOk P w K mg base CX0 1 a.f_trip_named a.d_trip_named [("trips" : Str), ("name" : Str)] (upSp K (TT a) (sp_trip_named K a.CLine)) :=
 okP t.F_trip_named sc_trip_named (fun _ _ h => len_trip_named h) (by decide) fun cdv A outer s H E hr => ⟨ts_trip_named K a.CLine, zs_cons (z_if (zt_not (zt_val (z_callB zc_isi (by rfl) t.b_isinstance (by decide +kernel) (za_cons (zv 1) (za_cons (z_ty (by rfl) t.b_str (by decide +kernel)) (za_nil)))))) (zs_one (z_ret (z_non))) (zs_nil)) (zs_cons (z_for PassesOwn.never rfl (zi_tup (zv 0)) (zg_name (i := 2) sc_trip_named.nd rfl (Or.inl rfl)) (zs_one (z_if (zt_cmp zo_eqI (z_ix (zv 2) (z_int)) (zv 1)) (zs_one (z_ret (zv 2))) (zs_nil)))) (zs_one (z_ret (z_non)))), fun _ _ h => rd_trip_named h⟩
theorem bd_names_trip_and_seat (t : Tx P w K mg a) : Binds K a.d_names_trip_and_seat [("line" : Str), ("thing" : Str)] [] := t.F_names_trip_and_seat.binds fun _ _ _ _ _ _ us hl => match us, hl with | [_, _], _ => rfl
theorem ok_names_trip_and_seat (t : Tx P w K mg a) (tb : TB2 base mg a) : FnOk P w K mg base CX0 3 a.f_names_trip_and_seat a.d_names_trip_and_seat [("line" : Str), ("thing" : Str)] (upSp K (TT a) (sp_names_trip_and_seat K a.CLine)) :=
 okP t.F_names_trip_and_seat sc_names_trip_and_seat (fun _ _ h => len_names_trip_and_seat h) (by decide) fun cdv A outer s H E hr => ⟨ts_names_trip_and_seat K a.CLine, zs_cons (z_if (zt_not (zt_val (z_call (ok_is_pair t tb) (hr.mono (by decide)) (by rfl) t.g_is_pair t.k_is_pair (bd_is_pair t) .nil (fun _ _ => .nil) (za_cons (zv 1) (za_nil))))) (zs_one (z_ret (z_bl))) (zs_nil)) (zs_cons (z_asg (zv 1) (zg_tup (pg_tup rfl (zgs_cons1 (zg_name (i := 2) sc_names_trip_and_seat.nd rfl (Or.inl rfl)) (zgs_cons1 (zg_name (i := 3) sc_names_trip_and_seat.nd rfl (Or.inl rfl)) (zgs_nil)))))) (zs_one (z_ret (z_and (z_cmp zo_isnot (z_call (ok_trip_named t tb) (hr.mono (by decide)) (by rfl) t.g_trip_named t.k_trip_named (bd_trip_named t) .nil (fun _ _ => .nil) (za_cons (z_prop (zv 0) t.cl t.p_trips (ok_Line_trips t tb) (hr.mono (by decide)) (bd_Line_trips t)) (za_cons (zv 2) (za_nil)))) (z_non)) (z_one (z_call (ok_is_seat t tb) (hr.mono (by decide)) (by rfl) t.g_is_seat t.k_is_seat (bd_is_seat t) .nil (fun _ _ => .nil) (za_cons (zv 3) (za_cons (z_prop (zv 0) t.cl t.p_capacity (ok_Line_capacity t tb) (hr.mono (by decide)) (bd_Line_capacity t)) (za_nil))))))))), fun _ _ h => rd_names_trip_and_seat h⟩
theorem bd_meet (t : Tx P w K mg a) : Binds K a.d_meet [("trip" : Str), ("other" : Str)] [] := t.F_meet.binds fun _ _ _ _ _ _ us hl => match us, hl with | [_, _], _ => rfl
theorem ok_meet (t : Tx P w K mg a) (tb : TB2 base mg a) : FnOk P w K mg base CX0 1 a.f_meet a.d_meet [("trip" : Str), ("other" : Str)] (upSp K (TT a) (sp_meet K a.CLine)) :=
 okP t.F_meet sc_meet (fun _ _ h => len_meet h) (by decide) fun cdv A outer s H E hr => ⟨ts_meet K a.CLine, zs_one (z_ret (z_and (z_cmp zo_lt (z_ix (zv 0) (z_int)) (z_ix (zv 1) (z_int))) (z_one (z_cmp zo_lt (z_ix (zv 1) (z_int)) (z_ix (zv 0) (z_int)))))), fun _ _ h => rd_meet h⟩
theorem bd_seats_left (t : Tx P w K mg a) : Binds K a.d_seats_left [("seats" : Str), ("trip" : Str), ("seated" : Str)] [] := t.F_seats_left.binds fun _ _ _ _ _ _ us hl => match us, hl with | [_, _, _], _ => rfl
theorem ok_seats_left (t : Tx P w K mg a) (tb : TB2 base mg a) : FnOk P w K mg base CX0 2 a.f_seats_left a.d_seats_left [("seats" : Str), ("trip" : Str), ("seated" : Str)] (upSpF K (TT a) (sp_seats_left K a.CLine)) :=
 okF t.F_seats_left sc_seats_left (fun _ _ h => len_seats_left h) (by decide) fun cdv A outer s H E hr => ⟨ts_seats_left K a.CLine, zsf_cons (z_set (i := 3) sc_seats_left.nd rfl (Or.inr rfl) (z_val (zf_lc (own := [(("other" : Str), 4), (("seat" : Str), 5)]) (pe_lc (own := [(("other" : Str), 4), (("seat" : Str), 5)]) rfl sc_seats_left.nd (zi_list (zv 2)) (blkOk_by (own := [(("other" : Str), 4), (("seat" : Str), 5)]) (N := N_seats_left) (sc := defScope s_seats_left) (by decide +kernel)) (fun _ _ _ _ _ => zgw_tup (pg_tup rfl (zgsw_cons (pgs_cons (zgw_name (by decide) (pg_name (i := 4) sc_seats_left.nd rfl (Or.inl rfl))) (zgsw_cons (pgs_cons (zgw_name (by decide) (pg_name (i := 5) sc_seats_left.nd rfl (Or.inl rfl))) (zgsw_nil))))))) (fun _ _ _ _ _ => zts_one (zt_val (z_call (ok_meet t tb) (hr.mono (by decide)) (by rfl) t.g_meet t.k_meet (bd_meet t) .nil (fun _ _ => .nil) (za_cons (zv 1) (za_cons (zv 4) (za_nil)))))) (fun _ _ _ _ _ => zv 5))))) (zsf_ret (zf_lc (own := [(("seat" : Str), 5)]) (pe_lc (own := [(("seat" : Str), 5)]) rfl sc_seats_left.nd (zi_range2 (by rfl) t.b_range (z_int) (z_op zo_add (zv 0) (z_int)) rfl rfl (pi_range2 (by rfl) t.b_range (pa_cons (z_int) (pa_cons (z_op zo_add (zv 0) (z_int)) pa_nil)))) (blkOk_by (own := [(("seat" : Str), 5)]) (N := N_seats_left) (sc := defScope s_seats_left) (by decide +kernel)) (fun _ _ _ _ _ => zgw_name (by decide) (pg_name (i := 5) sc_seats_left.nd rfl (Or.inl rfl))) (fun _ _ _ _ _ => zts_one (zt_cmp zo_notInL (zv 5) (zv 3))) (fun _ _ _ _ _ => zv 5)))), fun _ _ h => rd_seats_left h⟩
theorem bd_valid_pairs (t : Tx P w K mg a) : Binds K a.d_valid_pairs [("line" : Str), ("things" : Str)] [] := t.F_valid_pairs.binds fun _ _ _ _ _ _ us hl => match us, hl with | [_, _], _ => rfl
theorem ok_valid_pairs (t : Tx P w K mg a) (tb : TB2 base mg a) : FnOk P w K mg base CX0 4 a.f_valid_pairs a.d_valid_pairs [("line" : Str), ("things" : Str)] (upSp K (TT a) (sp_valid_pairs K a.CLine)) :=
 okP t.F_valid_pairs sc_valid_pairs (fun _ _ h => len_valid_pairs h) (by decide) fun cdv A outer s H E hr => ⟨ts_valid_pairs K a.CLine, zs_cons (z_setF (i := 2) sc_valid_pairs.nd rfl (Or.inl rfl) (zf_lst (za_nil))) (zs_cons (z_for PassesOwn.never rfl (zi_zip (by rfl) t.b_zip (za_cons (z_prop (zv 0) t.cl t.p_trips (ok_Line_trips t tb) (hr.mono (by decide)) (bd_Line_trips t)) (za_cons (zv 1) (za_nil)))) (zg_tup (pg_tup rfl (zgs_cons1 (zg_name (i := 3) sc_valid_pairs.nd rfl (Or.inl rfl)) (zgs_cons1 (zg_name (i := 4) sc_valid_pairs.nd rfl (Or.inl rfl)) (zgs_nil))))) (zs_cons (z_if ((zw_or (zt_not (zt_val (z_call (ok_names_trip_and_seat t tb) (hr.mono (by decide)) (by rfl) t.g_names_trip_and_seat t.k_names_trip_and_seat (bd_names_trip_and_seat t) .nil (fun _ _ => .nil) (za_cons (zv 0) (za_cons (zv 4) (za_nil)))))) (zw_or1 (zt_cmp zo_neI (z_ix (zv 4) (z_int)) (z_ix (zv 3) (z_int))))).pt) (zs_one (z_ret (z_callB zc_len (by rfl) t.b_len (by decide +kernel) (za_cons (zv 2) (za_nil))))) (zs_nil)) (zs_cons (z_if (zt_cmp zo_notInL (z_ix (zv 4) (z_int)) (z_val (z_callFO (ok_seats_left t tb) (hr.mono (by decide)) (by rfl) t.g_seats_left t.k_seats_left (bd_seats_left t) (zo_cons (z_prop (zv 0) t.cl t.p_capacity (ok_Line_capacity t tb) (hr.mono (by decide)) (bd_Line_capacity t)) (zo_cons (zv 3) (zo_last (pv 2))))))) (zs_one (z_ret (z_callB zc_len (by rfl) t.b_len (by decide +kernel) (za_cons (zv 2) (za_nil))))) (zs_nil)) (zs_one (z_app rfl (ps_expr (pe_bm PySem.F.plainAttrs_list PySem.F.slot_list_append PySem.F.type_list_append mt_append (pv 2) (pa_cons (z_tup (za_cons (zv 3) (za_cons (z_ix (zv 4) (z_int)) (za_nil)))) pa_nil)))))))) (zs_one (z_ret (z_callB zc_len (by rfl) t.b_len (by decide +kernel) (za_cons (zv 2) (za_nil)))))), fun _ _ h => rd_valid_pairs h⟩
theorem bd_check_planX (t : Tx P w K mg a) : Binds K a.d_check_planX [("line" : Str), ("plan" : Str)] [] := t.F_check_planX.binds fun _ _ _ _ _ _ us hl => match us, hl with | [_, _], _ => rfl
theorem okx_check_planX (t : Tx P w K mg a) (tb : TB2 base mg a) : FnOk P w K mg base (L2N.CX P w) 5 a.f_check_planX a.d_check_planX [("line" : Str), ("plan" : Str)] (upSpX K (TT a) (sp_check_planX K a.CLine a.XC)) :=
 okXP t.F_check_planX sc_check_planX (fun _ _ _ h => len_check_planX h) (by decide) fun cdv A outer s H E hr tk hp => ⟨ts_check_planX K a.CLine a.XC, zxs_cons (zx_if (zt_not (zt_val (z_callB zc_isi (by rfl) t.b_isinstance (by decide +kernel) (za_cons (zv 1) (za_cons (z_ty (by rfl) t.b_tuple (by decide +kernel)) (za_nil)))))) (zxs_one (zx_raise t.xa_InvalidPlan.ok t.b_super tk rfl (L2H.roomH_of (hr.mono (by decide))) (by rfl) (z_non))) (zxs_pl (zs_nil))) (zxs_cons (zx_pl (z_set (i := 2) sc_check_planX.nd rfl (Or.inl rfl) (z_call (ok_valid_pairs t tb) (hr.mono (by decide)) (by rfl) t.g_valid_pairs t.k_valid_pairs (bd_valid_pairs t) .nil (fun _ _ => .nil) (za_cons (zv 0) (za_cons (zv 1) (za_nil)))))) (zxs_one (zx_if ((zw_or (zt_cmp zo_lt (zv 2) (z_callB zc_len (by rfl) t.b_len (by decide +kernel) (za_cons (zv 1) (za_nil)))) (zw_or1 (zt_cmp zo_lt (zv 2) (z_callB zc_len (by rfl) t.b_len (by decide +kernel) (za_cons (z_prop (zv 0) t.cl t.p_trips (ok_Line_trips t tb) (hr.mono (by decide)) (bd_Line_trips t)) (za_nil)))))).pt) (zxs_one (zx_raise t.xa_InvalidPlan.ok t.b_super tk rfl (L2H.roomH_of (hr.mono (by decide))) (by rfl) (zv 2))) (zxs_pl (zs_nil))))), fun _ _ _ h => rd_check_planX h⟩
theorem bd_number_ofX (t : Tx P w K mg a) : Binds K a.d_number_ofX [("line" : Str), ("plan" : Str)] [] := t.F_number_ofX.binds fun _ _ _ _ _ _ us hl => match us, hl with | [_, _], _ => rfl
theorem okx_number_ofX (t : Tx P w K mg a) (tb : TB2 base mg a) : FnOk P w K mg base (L2N.CX P w) 8 a.f_number_ofX a.d_number_ofX [("line" : Str), ("plan" : Str)] (upSpX K (TT a) (sp_number_ofX K a.CLine a.XC)) :=
 okXP t.F_number_ofX sc_number_ofX (fun _ _ _ h => len_number_ofX h) (by decide) fun cdv A outer s H E hr tk hp => ⟨ts_number_ofX K a.CLine a.XC, zxs_cons (zx_expr (zx_call (okx_check_lineX t tb) tk (hr.mono (by decide)) (by rfl) t.g_check_line t.k_check_line (bd_check_lineX t) .nil (fun _ _ => .nil) (za_cons (zv 0) (za_nil)))) (zxs_cons (zx_expr (zx_call (okx_check_planX t tb) tk (hr.mono (by decide)) (by rfl) t.g_check_plan t.k_check_plan (bd_check_planX t) .nil (fun _ _ => .nil) (za_cons (zv 0) (za_cons (zv 1) (za_nil))))) (zxs_pl zs_never)), fun _ _ _ h => rd_number_ofX h⟩
theorem bd_certify_number (t : Tx P w K mg a) : Binds K a.d_certify_number [("line" : Str), ("plan" : Str)] [] := t.F_certify_number.binds fun _ _ _ _ _ _ us hl => match us, hl with | [_, _], _ => rfl
theorem kw_certify_number_0_plan_line (t : Tx P w K mg a) : KwB K a.d_certify_number [("line" : Str), ("plan" : Str)] 0 [("plan" : Str), ("line" : Str)] [1, 0] := by
 obtain ⟨oc, od, kV, doc, pm, an, cdv, ct, osl, e, _, _⟩ := t.F_certify_number.ex
 rw [e]
 exact ⟨fun s us ws _ h1 h2 => match us, ws, h1, h2 with
  | [], [_, _], _, _ => .of_eq rfl, by decide⟩
theorem okx_certify_number (t : Tx P w K mg a) (tb : TB2 base mg a) : FnOk P w K mg base (L2N.CX P w) 9 a.f_certify_number a.d_certify_number [("line" : Str), ("plan" : Str)] (upSpX K (TT a) (sp_certify_number K a.CLine a.XC)) :=
 okXP t.F_certify_number sc_certify_number (fun _ _ _ h => len_certify_number h) (by decide) fun cdv A outer s H E hr tk hp => ⟨ts_certify_number K a.CLine a.XC, zxs_cons (zx_set (i := 2) sc_certify_number.nd rfl (Or.inl rfl) (zx_call (okx_number_ofX t tb) tk (hr.mono (by decide)) (by rfl) t.g_number_of t.k_number_of (bd_number_ofX t) .nil (fun _ _ => .nil) (za_cons (zv 0) (za_cons (zv 1) (za_nil))))) (zxs_pl zs_never), fun _ _ _ h => rd_certify_number h⟩
theorem bd_overfullX (t : Tx P w K mg a) : Binds K a.d_overfullX [("line" : Str)] [] := t.F_overfullX.binds fun _ _ _ _ _ _ us hl => match us, hl with | [_], _ => rfl
theorem okx_overfullX (t : Tx P w K mg a) (tb : TB2 base mg a) : FnOk P w K mg base (L2N.CX P w) 8 a.f_overfullX a.d_overfullX [("line" : Str)] (upSpX K (TT a) (sp_overfullX K a.CLine a.XC)) :=
 okXP t.F_overfullX sc_overfullX (fun _ _ _ h => len_overfullX h) (by decide) fun cdv A outer s H E hr tk hp => ⟨ts_overfullX K a.CLine a.XC, zxs_cons (zx_expr (zx_call (okx_check_lineX t tb) tk (hr.mono (by decide)) (by rfl) t.g_check_line t.k_check_line (bd_check_lineX t) .nil (fun _ _ => .nil) (za_cons (zv 0) (za_nil)))) (zxs_pl zs_never), fun _ _ _ h => rd_overfullX h⟩
theorem bd_certify_plan (t : Tx P w K mg a) : Binds K a.d_certify_plan [("line" : Str)] [] := t.F_certify_plan.binds fun _ _ _ _ _ _ us hl => match us, hl with | [_], _ => rfl
theorem okx_certify_plan (t : Tx P w K mg a) (tb : TB2 base mg a) : FnOk P w K mg base (L2N.CX P w) 9 a.f_certify_plan a.d_certify_plan [("line" : Str)] (upSpX K (TT a) (sp_certify_plan K a.CLine a.XC)) :=
 okXP t.F_certify_plan sc_certify_plan (fun _ _ _ h => len_certify_plan h) (by decide) fun cdv A outer s H E hr tk hp => ⟨ts_certify_plan K a.CLine a.XC, zxs_cons (zx_set (i := 1) sc_certify_plan.nd rfl (Or.inl rfl) (zx_call (okx_overfullX t tb) tk (hr.mono (by decide)) (by rfl) t.g_overfull t.k_overfull (bd_overfullX t) .nil (fun _ _ => .nil) (za_cons (zv 0) (za_nil)))) (zxs_pl zs_never), fun _ _ _ h => rd_certify_plan h⟩
theorem bd_check_bothX (t : Tx P w K mg a) : Binds K a.d_check_bothX [("line" : Str), ("plan" : Str), ("goal" : Str)] [] := t.F_check_bothX.binds fun _ _ _ _ _ _ us hl => match us, hl with | [_, _, _], _ => rfl
theorem okx_check_bothX (t : Tx P w K mg a) (tb : TB2 base mg a) : FnOk P w K mg base (L2N.CX P w) 8 a.f_check_bothX a.d_check_bothX [("line" : Str), ("plan" : Str), ("goal" : Str)] (upSpX K (TT a) (sp_check_bothX K a.CLine a.XC)) :=
 okXP t.F_check_bothX sc_check_bothX (fun _ _ _ h => len_check_bothX h) (by decide) fun cdv A outer s H E hr tk hp => ⟨ts_check_bothX K a.CLine a.XC, zxs_cons (zx_expr (zx_call (okx_check_lineX t tb) tk (hr.mono (by decide)) (by rfl) t.g_check_line t.k_check_line (bd_check_lineX t) .nil (fun _ _ => .nil) (za_cons (zv 0) (za_nil)))) (zxs_cons (zx_expr (zx_call (okx_check_planX t tb) tk (hr.mono (by decide)) (by rfl) t.g_check_plan t.k_check_plan (bd_check_planX t) .nil (fun _ _ => .nil) (za_cons (zv 0) (za_cons (zv 1) (za_nil))))) (zxs_one (zx_expr (zx_call (okx_check_planX t tb) tk (hr.mono (by decide)) (by rfl) t.g_check_plan t.k_check_plan (bd_check_planX t) .nil (fun _ _ => .nil) (za_cons (zv 0) (za_cons (zv 2) (za_nil))))))), fun _ _ _ h => rd_check_bothX h⟩
theorem bd_routeX (t : Tx P w K mg a) : Binds K a.d_routeX [("line" : Str), ("plan" : Str), ("goal" : Str)] [] := t.F_routeX.binds fun _ _ _ _ _ _ us hl => match us, hl with | [_, _, _], _ => rfl
theorem okx_routeX (t : Tx P w K mg a) (tb : TB2 base mg a) : FnOk P w K mg base (L2N.CX P w) 9 a.f_routeX a.d_routeX [("line" : Str), ("plan" : Str), ("goal" : Str)] (upSpX K (TT a) (sp_routeX K a.CLine a.XC)) :=
 okXP t.F_routeX sc_routeX (fun _ _ _ h => len_routeX h) (by decide) fun cdv A outer s H E hr tk hp => ⟨ts_routeX K a.CLine a.XC, zxs_cons (zx_expr (zx_call (okx_check_bothX t tb) tk (hr.mono (by decide)) (by rfl) t.g_check_both t.k_check_both (bd_check_bothX t) .nil (fun _ _ => .nil) (za_cons (zv 0) (za_cons (zv 1) (za_cons (zv 2) (za_nil)))))) (zxs_pl zs_never), fun _ _ _ h => rd_routeX h⟩
theorem bd_certify_route (t : Tx P w K mg a) : Binds K a.d_certify_route [("line" : Str), ("plan" : Str), ("goal" : Str)] [] := t.F_certify_route.binds fun _ _ _ _ _ _ us hl => match us, hl with | [_, _, _], _ => rfl
theorem kw_certify_route_0_goal_plan_line (t : Tx P w K mg a) : KwB K a.d_certify_route [("line" : Str), ("plan" : Str), ("goal" : Str)] 0 [("goal" : Str), ("plan" : Str), ("line" : Str)] [2, 1, 0] := by
 obtain ⟨oc, od, kV, doc, pm, an, cdv, ct, osl, e, _, _⟩ := t.F_certify_route.ex
 rw [e]
 exact ⟨fun s us ws _ h1 h2 => match us, ws, h1, h2 with
  | [], [_, _, _], _, _ => .of_eq rfl, by decide⟩
theorem okx_certify_route (t : Tx P w K mg a) (tb : TB2 base mg a) : FnOk P w K mg base (L2N.CX P w) 10 a.f_certify_route a.d_certify_route [("line" : Str), ("plan" : Str), ("goal" : Str)] (upSpX K (TT a) (sp_certify_route K a.CLine a.XC)) :=
 okXP t.F_certify_route sc_certify_route (fun _ _ _ h => len_certify_route h) (by decide) fun cdv A outer s H E hr tk hp => ⟨ts_certify_route K a.CLine a.XC, zxs_cons (zx_set (i := 3) sc_certify_route.nd rfl (Or.inl rfl) (zx_call (okx_routeX t tb) tk (hr.mono (by decide)) (by rfl) t.g_route t.k_route (bd_routeX t) .nil (fun _ _ => .nil) (za_cons (zv 0) (za_cons (zv 1) (za_cons (zv 2) (za_nil)))))) (zxs_pl zs_never), fun _ _ _ h => rd_certify_route h⟩
theorem bd_law_bad_fixed (t : Tx P w K mg a) : Binds K a.d_law_bad_fixed [("_law_pool_here" : Str)] [] := t.F_law_bad_fixed.binds fun _ _ _ _ _ _ us hl => match us, hl with | [_], _ => rfl
theorem ok_law_bad_fixed (t : Tx P w K mg a) (tb : TB2 base mg a) : FnOk P w K mg base CX0 2 a.f_law_bad_fixed a.d_law_bad_fixed [("_law_pool_here" : Str)] (upSpR K (TT a) (sp_law_bad_fixed K a.CLine)) :=
 okR (nm := ("_law_pool_here" : Str)) (N := [("_law_some" : Str)]) (ps := []) t.F_law_bad_fixed sc_law_bad_fixed (fun _ _ _ h => len_law_bad_fixed h) (by decide) fun cdv A outer s H E hr => ⟨ts_law_bad_fixed K a.CLine, zs_cons (z_setF (i := 1) sc_law_bad_fixed.nd rfl (Or.inl rfl) (zf_lst (za_cons (z_tup (za_cons (z_non) (za_cons (z_non) (za_nil)))) (za_cons (z_tup (za_cons (z_lst (za_cons (z_tup (za_cons (z_str) (za_cons (z_int) (za_nil)))) (za_nil))) (za_cons (z_non) (za_nil)))) (za_cons (z_tup (za_cons (z_tup (za_cons (z_tup (za_cons (z_str) (za_cons (z_int) (za_nil)))) (za_cons (z_tup (za_cons (z_str) (za_cons (z_int) (za_nil)))) (za_nil)))) (za_cons (z_int) (za_nil)))) (za_cons (z_tup (za_cons (z_tup (za_cons (z_tup (za_cons (z_str) (za_cons (z_int) (za_nil)))) (za_cons (z_tup (za_cons (z_str) (za_cons (z_int) (za_nil)))) (za_nil)))) (za_cons (z_int) (za_nil)))) (za_cons (z_tup (za_cons (z_tup (za_cons (z_tup (za_cons (z_str) (za_cons (z_int) (za_nil)))) (za_nil))) (za_cons (z_int) (za_nil)))) (za_nil)))))))) (zs_cons (z_setF (i := 1) sc_law_bad_fixed.nd rfl (Or.inl rfl) (zf_add (zv 1) (z_lst (za_cons (z_tup (za_cons (z_tup (za_cons (z_tup (za_cons (z_str) (za_cons (z_int) (za_nil)))) (za_nil))) (za_cons (z_int) (za_nil)))) (za_cons (z_tup (za_cons (z_tup (za_cons (z_tup (za_cons (z_str) (za_cons (z_int) (za_nil)))) (za_nil))) (za_cons (z_int) (za_nil)))) (za_cons (z_tup (za_cons (z_tup (za_cons (z_tup (za_cons (z_str) (za_cons (z_bl) (za_nil)))) (za_nil))) (za_cons (z_int) (za_nil)))) (za_cons (z_tup (za_cons (z_tup (za_cons (z_tup (za_cons (z_lst (za_cons (z_str) (za_nil))) (za_cons (z_int) (za_nil)))) (za_nil))) (za_cons (z_int) (za_nil)))) (za_nil)))))))) (zs_cons (z_app rfl (ps_expr (pe_bm PySem.F.plainAttrs_list PySem.F.slot_list_append PySem.F.type_list_append mt_append (pv 1) (pa_cons (z_tup (za_cons (z_tup (za_cons (z_tup (za_cons (z_str) (za_cons (z_int) (za_nil)))) (za_cons (z_tup (za_cons (z_str) (za_cons (z_int) (za_nil)))) (za_nil)))) (za_cons (z_int) (za_nil)))) pa_nil)))) (zs_one (z_ret (z_ix (z_op zo_add (zv 1) (z_lst (za_cons (z_tup (za_cons (z_tup (za_cons (z_tup (za_cons (z_str) (za_cons (z_int) (za_nil)))) (za_cons (z_non) (za_nil)))) (za_cons (z_int) (za_nil)))) (za_cons (z_tup (za_cons (z_dic0) (za_cons (z_non) (za_nil)))) (za_cons (z_tup (za_cons (z_tup (za_cons (z_tup (za_cons (z_str) (za_cons (z_int) (za_cons (z_int) (za_nil))))) (za_nil))) (za_cons (z_int) (za_nil)))) (za_nil)))))) (z_callR (ok_law_draw t tb) (hr.mono (by decide)) (by rfl) t.g__law_draw t.k__law_draw (bd_law_draw t) (pa_cons (pv 0) (za_cons (z_int) (za_nil))))))))), fun _ _ _ h => rd_law_bad_fixed h⟩
theorem bd_check_stationsX (t : Tx P w K mg a) : Binds K a.d_check_stationsX [("start" : Str), ("end" : Str)] [] := t.F_check_stationsX.binds fun _ _ _ _ _ _ us hl => match us, hl with | [_, _], _ => rfl
theorem okx_check_stationsX (t : Tx P w K mg a) (tb : TB2 base mg a) : FnOk P w K mg base (L2N.CX P w) 3 a.f_check_stationsX a.d_check_stationsX [("start" : Str), ("end" : Str)] (upSpX K (TT a) (sp_check_stationsX K a.CLine a.XC)) :=
 okXP t.F_check_stationsX sc_check_stationsX (fun _ _ _ h => len_check_stationsX h) (by decide) fun cdv A outer s H E hr tk hp => ⟨ts_check_stationsX K a.CLine a.XC, zxs_cons (zx_if (zt_not (zt_val (z_call (ok_is_station t tb) (hr.mono (by decide)) (by rfl) t.g_is_station t.k_is_station (bd_is_station t) .nil (fun _ _ => .nil) (za_cons (zv 0) (za_nil))))) (zxs_one (zx_raise t.xa_InvalidStation.ok t.b_super tk rfl (L2H.roomH_of (hr.mono (by decide))) (by rfl) (zv 0))) (zxs_pl (zs_nil))) (zxs_one (zx_if (zt_not (zt_val (z_call (ok_is_later t tb) (hr.mono (by decide)) (by rfl) t.g_is_later t.k_is_later (bd_is_later t) .nil (fun _ _ => .nil) (za_cons (zv 1) (za_cons (zv 0) (za_nil)))))) (zxs_one (zx_raise t.xa_InvalidStation.ok t.b_super tk rfl (L2H.roomH_of (hr.mono (by decide))) (by rfl) (zv 1))) (zxs_pl (zs_nil)))), fun _ _ _ h => rd_check_stationsX h⟩
theorem bd_itineraryX (t : Tx P w K mg a) : Binds K a.d_itineraryX [("line" : Str), ("plan" : Str), ("start" : Str), ("end" : Str)] [] := t.F_itineraryX.binds fun _ _ _ _ _ _ us hl => match us, hl with | [_, _, _, _], _ => rfl
theorem okx_itineraryX (t : Tx P w K mg a) (tb : TB2 base mg a) : FnOk P w K mg base (L2N.CX P w) 8 a.f_itineraryX a.d_itineraryX [("line" : Str), ("plan" : Str), ("start" : Str), ("end" : Str)] (upSpX K (TT a) (sp_itineraryX K a.CLine a.XC)) :=
 okXP t.F_itineraryX sc_itineraryX (fun _ _ _ h => len_itineraryX h) (by decide) fun cdv A outer s H E hr tk hp => ⟨ts_itineraryX K a.CLine a.XC, zxs_cons (zx_expr (zx_call (okx_check_lineX t tb) tk (hr.mono (by decide)) (by rfl) t.g_check_line t.k_check_line (bd_check_lineX t) .nil (fun _ _ => .nil) (za_cons (zv 0) (za_nil)))) (zxs_cons (zx_expr (zx_call (okx_check_planX t tb) tk (hr.mono (by decide)) (by rfl) t.g_check_plan t.k_check_plan (bd_check_planX t) .nil (fun _ _ => .nil) (za_cons (zv 0) (za_cons (zv 1) (za_nil))))) (zxs_cons (zx_expr (zx_call (okx_check_stationsX t tb) tk (hr.mono (by decide)) (by rfl) t.g_check_stations t.k_check_stations (bd_check_stationsX t) .nil (fun _ _ => .nil) (za_cons (zv 2) (za_cons (zv 3) (za_nil))))) (zxs_pl zs_never))), fun _ _ _ h => rd_itineraryX h⟩
theorem bd_certify_changes (t : Tx P w K mg a) : Binds K a.d_certify_changes [("line" : Str), ("plan" : Str), ("start" : Str), ("end" : Str)] [] := t.F_certify_changes.binds fun _ _ _ _ _ _ us hl => match us, hl with | [_, _, _, _], _ => rfl
theorem kw_certify_changes_0_end_start_plan_line (t : Tx P w K mg a) : KwB K a.d_certify_changes [("line" : Str), ("plan" : Str), ("start" : Str), ("end" : Str)] 0 [("end" : Str), ("start" : Str), ("plan" : Str), ("line" : Str)] [3, 2, 1, 0] := by
 obtain ⟨oc, od, kV, doc, pm, an, cdv, ct, osl, e, _, _⟩ := t.F_certify_changes.ex
 rw [e]
 exact ⟨fun s us ws _ h1 h2 => match us, ws, h1, h2 with
  | [], [_, _, _, _], _, _ => .of_eq rfl, by decide⟩
theorem okx_certify_changes (t : Tx P w K mg a) (tb : TB2 base mg a) : FnOk P w K mg base (L2N.CX P w) 9 a.f_certify_changes a.d_certify_changes [("line" : Str), ("plan" : Str), ("start" : Str), ("end" : Str)] (upSpX K (TT a) (sp_certify_changes K a.CLine a.XC)) :=
 okXP t.F_certify_changes sc_certify_changes (fun _ _ _ h => len_certify_changes h) (by decide) fun cdv A outer s H E hr tk hp => ⟨ts_certify_changes K a.CLine a.XC, zxs_cons (zx_set (i := 4) sc_certify_changes.nd rfl (Or.inl rfl) (zx_call (okx_itineraryX t tb) tk (hr.mono (by decide)) (by rfl) t.g_itinerary t.k_itinerary (bd_itineraryX t) .nil (fun _ _ => .nil) (za_cons (zv 0) (za_cons (zv 1) (za_cons (zv 2) (za_cons (zv 3) (za_nil))))))) (zxs_pl zs_never), fun _ _ _ h => rd_certify_changes h⟩
theorem bd_check_fixedX (t : Tx P w K mg a) : Binds K a.d_check_fixedX [("line" : Str), ("fixed" : Str)] [] := t.F_check_fixedX.binds fun _ _ _ _ _ _ us hl => match us, hl with | [_, _], _ => rfl
theorem okx_check_fixedX (t : Tx P w K mg a) (tb : TB2 base mg a) : FnOk P w K mg base (L2N.CX P w) 4 a.f_check_fixedX a.d_check_fixedX [("line" : Str), ("fixed" : Str)] (upSpX K (TT a) (sp_check_fixedX K a.CLine a.XC)) :=
 okXP t.F_check_fixedX sc_check_fixedX (fun _ _ _ h => len_check_fixedX h) (by decide) fun cdv A outer s H E hr tk hp => ⟨ts_check_fixedX K a.CLine a.XC, zxs_cons (zx_if (zt_not (zt_val (z_callB zc_isi (by rfl) t.b_isinstance (by decide +kernel) (za_cons (zv 1) (za_cons (z_ty (by rfl) t.b_tuple (by decide +kernel)) (za_nil)))))) (zxs_one (zx_raise t.xa_InvalidFixed.ok t.b_super tk rfl (L2H.roomH_of (hr.mono (by decide))) (by rfl) (z_non))) (zxs_pl (zs_nil))) (zxs_cons (zx_pl (z_set (i := 2) sc_check_fixedX.nd rfl (Or.inl rfl) (z_str))) (zxs_cons (zx_pl (z_setF (i := 3) sc_check_fixedX.nd rfl (Or.inl rfl) (zf_lst (za_nil)))) (zxs_one (zx_for hp rfl (zi_enum1 (by rfl) t.b_enumerate (zv 1)) (zg_tup (pg_tup rfl (zgs_cons1 (zg_name (i := 4) sc_check_fixedX.nd rfl (Or.inl rfl)) (zgs_cons1 (zg_name (i := 5) sc_check_fixedX.nd rfl (Or.inl rfl)) (zgs_nil))))) (zxs_cons (zx_if ((zw_or (zt_not (zt_val (z_call (ok_names_trip_and_seat t tb) (hr.mono (by decide)) (by rfl) t.g_names_trip_and_seat t.k_names_trip_and_seat (bd_names_trip_and_seat t) .nil (fun _ _ => .nil) (za_cons (zv 0) (za_cons (zv 5) (za_nil)))))) (zw_or (zt_cmp zo_le (z_ix (zv 5) (z_int)) (zv 2)) (zw_or1 (zt_opR zo_inL (z_ix (zv 5) (z_int)) (pv 3))))).pt) (zxs_one (zx_raise t.xa_InvalidFixed.ok t.b_super tk rfl (L2H.roomH_of (hr.mono (by decide))) (by rfl) (zv 4))) (zxs_pl (zs_nil))) (zxs_pl (zs_cons (z_set (i := 2) sc_check_fixedX.nd rfl (Or.inl rfl) (z_ix (zv 5) (z_int))) (zs_one (z_app rfl (ps_expr (pe_bm PySem.F.plainAttrs_list PySem.F.slot_list_append PySem.F.type_list_append mt_append (pv 3) (pa_cons (z_ix (zv 5) (z_int)) pa_nil)))))))))))), fun _ _ _ h => rd_check_fixedX h⟩
theorem bd_plan_or_obstacleX (t : Tx P w K mg a) : Binds K a.d_plan_or_obstacleX [("line" : Str), ("fixed" : Str)] [] := t.F_plan_or_obstacleX.binds fun _ _ _ _ _ _ us hl => match us, hl with | [_, _], _ => rfl
theorem okx_plan_or_obstacleX (t : Tx P w K mg a) (tb : TB2 base mg a) : FnOk P w K mg base (L2N.CX P w) 8 a.f_plan_or_obstacleX a.d_plan_or_obstacleX [("line" : Str), ("fixed" : Str)] (upSpX K (TT a) (sp_plan_or_obstacleX K a.CLine a.XC)) :=
 okXP t.F_plan_or_obstacleX sc_plan_or_obstacleX (fun _ _ _ h => len_plan_or_obstacleX h) (by decide) fun cdv A outer s H E hr tk hp => ⟨ts_plan_or_obstacleX K a.CLine a.XC, zxs_cons (zx_expr (zx_call (okx_check_lineX t tb) tk (hr.mono (by decide)) (by rfl) t.g_check_line t.k_check_line (bd_check_lineX t) .nil (fun _ _ => .nil) (za_cons (zv 0) (za_nil)))) (zxs_cons (zx_expr (zx_call (okx_check_fixedX t tb) tk (hr.mono (by decide)) (by rfl) t.g_check_fixed t.k_check_fixed (bd_check_fixedX t) .nil (fun _ _ => .nil) (za_cons (zv 0) (za_cons (zv 1) (za_nil))))) (zxs_pl zs_never)), fun _ _ _ h => rd_plan_or_obstacleX h⟩
theorem bd_certify_fixed (t : Tx P w K mg a) : Binds K a.d_certify_fixed [("line" : Str), ("fixed" : Str)] [] := t.F_certify_fixed.binds fun _ _ _ _ _ _ us hl => match us, hl with | [_, _], _ => rfl
theorem kw_certify_fixed_0_fixed_line (t : Tx P w K mg a) : KwB K a.d_certify_fixed [("line" : Str), ("fixed" : Str)] 0 [("fixed" : Str), ("line" : Str)] [1, 0] := by
 obtain ⟨oc, od, kV, doc, pm, an, cdv, ct, osl, e, _, _⟩ := t.F_certify_fixed.ex
 rw [e]
 exact ⟨fun s us ws _ h1 h2 => match us, ws, h1, h2 with
  | [], [_, _], _, _ => .of_eq rfl, by decide⟩
theorem okx_certify_fixed (t : Tx P w K mg a) (tb : TB2 base mg a) : FnOk P w K mg base (L2N.CX P w) 9 a.f_certify_fixed a.d_certify_fixed [("line" : Str), ("fixed" : Str)] (upSpX K (TT a) (sp_certify_fixed K a.CLine a.XC)) :=
 okXP t.F_certify_fixed sc_certify_fixed (fun _ _ _ h => len_certify_fixed h) (by decide) fun cdv A outer s H E hr tk hp => ⟨ts_certify_fixed K a.CLine a.XC, zxs_cons (zx_asg (zx_call (okx_plan_or_obstacleX t tb) tk (hr.mono (by decide)) (by rfl) t.g_plan_or_obstacle t.k_plan_or_obstacle (bd_plan_or_obstacleX t) .nil (fun _ _ => .nil) (za_cons (zv 0) (za_cons (zv 1) (za_nil)))) (zg_tup (pg_tup rfl (zgs_cons1 (zg_name (i := 2) sc_certify_fixed.nd rfl (Or.inl rfl)) (zgs_cons1 (zg_name (i := 3) sc_certify_fixed.nd rfl (Or.inl rfl)) (zgs_nil)))))) (zxs_pl zs_never), fun _ _ _ h => rd_certify_fixed h⟩
theorem bd_law_other_fields (t : Tx P w K mg a) : Binds K a.d_law_other_fields [("_law_e" : Str)] [] := t.F_law_other_fields.binds fun _ _ _ _ _ _ us hl => match us, hl with | [_], _ => rfl
theorem okz_law_other_fields (t : Tx P w K mg a) (tb : TB2 base mg a) : FnZ P w K mg base 1 a.f_law_other_fields a.d_law_other_fields [("_law_e" : Str)] (fun a1 cls1 d1 => upSp K (TT a) (sp_law_other_fields K a.CLine a.XC a1 cls1 d1)) :=
 okPZ t.F_law_other_fields sc_law_other_fields (fun _ _ _ _ _ h => len_law_other_fields h) (by decide) fun cdv A outer s H E p cls d hp hr => ⟨ts_law_other_fields K a.CLine a.XC p.1 cls d, zs_cons (z_if (zt_val (z_callB (zc_isX hp) (by rfl) t.b_isinstance (by decide +kernel) (za_cons (zv 0) (za_cons (z_gc (by rfl) t.g_InvalidSeat) (za_nil))))) (zs_one (z_ret (z_lst (za_cons (z_xf hp (zv 0)) (za_nil))))) (zs_nil)) (zs_cons (z_if (zt_val (z_callB (zc_isX hp) (by rfl) t.b_isinstance (by decide +kernel) (za_cons (zv 0) (za_cons (z_gc (by rfl) t.g_InvalidNumber) (za_nil))))) (zs_one (z_ret (z_lst (za_cons (z_xf hp (zv 0)) (za_nil))))) (zs_nil)) (zs_cons (z_if (zt_val (z_callB (zc_isX hp) (by rfl) t.b_isinstance (by decide +kernel) (za_cons (zv 0) (za_cons (z_gc (by rfl) t.g_InvalidText) (za_nil))))) (zs_one (z_ret (z_lst (za_cons (z_xf hp (zv 0)) (za_nil))))) (zs_nil)) (zs_one (z_ret (z_ifExp (zt_val (z_callB (zc_isX hp) (by rfl) t.b_isinstance (by decide +kernel) (za_cons (zv 0) (za_cons (z_gc (by rfl) t.g_InvalidCommand) (za_nil))))) (z_lst (za_cons (z_xf hp (zv 0)) (za_nil))) (z_lst (za_nil))))))), fun _ _ h => rd_law_other_fields h⟩
theorem bd_law_fields (t : Tx P w K mg a) : Binds K a.d_law_fields [("_law_e" : Str)] [] := t.F_law_fields.binds fun _ _ _ _ _ _ us hl => match us, hl with | [_], _ => rfl
theorem okz_law_fields (t : Tx P w K mg a) (tb : TB2 base mg a) : FnZ P w K mg base 2 a.f_law_fields a.d_law_fields [("_law_e" : Str)] (fun a1 cls1 d1 => upSp K (TT a) (sp_law_fields K a.CLine a.XC a1 cls1 d1)) :=
 okPZ t.F_law_fields sc_law_fields (fun _ _ _ _ _ h => len_law_fields h) (by decide) fun cdv A outer s H E p cls d hp hr => ⟨ts_law_fields K a.CLine a.XC p.1 cls d, zs_cons (z_if (zt_val (z_callB (zc_isXT hp) (by rfl) t.b_isinstance (by decide +kernel) (za_cons (zv 0) (za_cons (z_tup (za_cons (z_gc (by rfl) t.g_InvalidTrips) (za_cons (z_gc (by rfl) t.g_InvalidPlan) (za_cons (z_gc (by rfl) t.g_InvalidFixed) (za_cons (z_gc (by rfl) t.g_InvalidExchange) (za_cons (z_gc (by rfl) t.g_InvalidAction) (za_nil))))))) (za_nil))))) (zs_one (z_ret (z_lst (za_cons (z_xf hp (zv 0)) (za_nil))))) (zs_nil)) (zs_cons (z_if (zt_val (z_callB (zc_isXT hp) (by rfl) t.b_isinstance (by decide +kernel) (za_cons (zv 0) (za_cons (z_tup (za_cons (z_gc (by rfl) t.g_TooManyTrips) (za_cons (z_gc (by rfl) t.g_TooManyPlans) (za_cons (z_gc (by rfl) t.g_TooManyEntries) (za_nil))))) (za_nil))))) (zs_one (z_ret (z_lst (za_cons (z_xf hp (zv 0)) (za_nil))))) (zs_nil)) (zs_cons (z_if (zt_val (z_callB (zc_isXT hp) (by rfl) t.b_isinstance (by decide +kernel) (za_cons (zv 0) (za_cons (z_tup (za_cons (z_gc (by rfl) t.g_InvalidName) (za_cons (z_gc (by rfl) t.g_NameTaken) (za_cons (z_gc (by rfl) t.g_NotFree) (za_nil))))) (za_nil))))) (zs_one (z_ret (z_lst (za_cons (z_xf hp (zv 0)) (za_nil))))) (zs_nil)) (zs_cons (z_if (zt_val (z_callB (zc_isXT hp) (by rfl) t.b_isinstance (by decide +kernel) (za_cons (zv 0) (za_cons (z_tup (za_cons (z_gc (by rfl) t.g_InvalidStation) (za_cons (z_gc (by rfl) t.g_Overfull) (za_cons (z_gc (by rfl) t.g_Full) (za_nil))))) (za_nil))))) (zs_one (z_ret (z_lst (za_cons (z_xf hp (zv 0)) (za_nil))))) (zs_nil)) (zs_cons (z_if (zt_val (z_callB (zc_isXT hp) (by rfl) t.b_isinstance (by decide +kernel) (za_cons (zv 0) (za_cons (z_tup (za_cons (z_gc (by rfl) t.g_InvalidSeats) (za_cons (z_gc (by rfl) t.g_NotALine) (za_nil)))) (za_nil))))) (zs_one (z_ret (z_lst (za_cons (z_xf hp (zv 0)) (za_nil))))) (zs_nil)) (zs_one (z_ret (z_callZ (okz_law_other_fields t tb) (hr.mono (by decide)) hp (by rfl) t.g__law_other_fields t.k__law_other_fields (bd_law_other_fields t) (za_cons (zv 0) (za_nil))))))))), fun _ _ h => rd_law_fields h⟩
theorem bd_law_kind (t : Tx P w K mg a) : Binds K a.d_law_kind [("_law_e" : Str)] [] := t.F_law_kind.binds fun _ _ _ _ _ _ us hl => match us, hl with | [_], _ => rfl
theorem okz_law_kind (t : Tx P w K mg a) (tb : TB2 base mg a) : FnZ P w K mg base 1 a.f_law_kind a.d_law_kind [("_law_e" : Str)] (fun a1 cls1 d1 => upSp K (TT a) (sp_law_kind K a.CLine a.XC a1 cls1 d1)) :=
 okPZ t.F_law_kind sc_law_kind (fun _ _ _ _ _ h => len_law_kind h) (by decide) fun cdv A outer s H E p cls d hp hr => ⟨ts_law_kind K a.CLine a.XC p.1 cls d, zs_cons (z_set (i := 1) sc_law_kind.nd rfl (Or.inl rfl) (z_lst (za_cons (z_callB (zc_isX hp) (by rfl) t.b_isinstance (by decide +kernel) (za_cons (zv 0) (za_cons (z_gc (by rfl) t.g_InvalidSeats) (za_nil)))) (za_cons (z_callB (zc_isX hp) (by rfl) t.b_isinstance (by decide +kernel) (za_cons (zv 0) (za_cons (z_gc (by rfl) t.g_InvalidTrips) (za_nil)))) (za_cons (z_callB (zc_isX hp) (by rfl) t.b_isinstance (by decide +kernel) (za_cons (zv 0) (za_cons (z_gc (by rfl) t.g_InvalidName) (za_nil)))) (za_nil)))))) (zs_cons (z_set (i := 1) sc_law_kind.nd rfl (Or.inl rfl) (z_op zo_add (zv 1) (z_lst (za_cons (z_callB (zc_isX hp) (by rfl) t.b_isinstance (by decide +kernel) (za_cons (zv 0) (za_cons (z_gc (by rfl) t.g_InvalidSeat) (za_nil)))) (za_cons (z_callB (zc_isX hp) (by rfl) t.b_isinstance (by decide +kernel) (za_cons (zv 0) (za_cons (z_gc (by rfl) t.g_InvalidStation) (za_nil)))) (za_cons (z_callB (zc_isX hp) (by rfl) t.b_isinstance (by decide +kernel) (za_cons (zv 0) (za_cons (z_gc (by rfl) t.g_InvalidPlan) (za_nil)))) (za_nil))))))) (zs_cons (z_set (i := 1) sc_law_kind.nd rfl (Or.inl rfl) (z_op zo_add (zv 1) (z_lst (za_cons (z_callB (zc_isX hp) (by rfl) t.b_isinstance (by decide +kernel) (za_cons (zv 0) (za_cons (z_gc (by rfl) t.g_InvalidFixed) (za_nil)))) (za_cons (z_callB (zc_isX hp) (by rfl) t.b_isinstance (by decide +kernel) (za_cons (zv 0) (za_cons (z_gc (by rfl) t.g_InvalidExchange) (za_nil)))) (za_cons (z_callB (zc_isX hp) (by rfl) t.b_isinstance (by decide +kernel) (za_cons (zv 0) (za_cons (z_gc (by rfl) t.g_InvalidNumber) (za_nil)))) (za_nil))))))) (zs_cons (z_set (i := 1) sc_law_kind.nd rfl (Or.inl rfl) (z_op zo_add (zv 1) (z_lst (za_cons (z_callB (zc_isX hp) (by rfl) t.b_isinstance (by decide +kernel) (za_cons (zv 0) (za_cons (z_gc (by rfl) t.g_InvalidText) (za_nil)))) (za_cons (z_callB (zc_isX hp) (by rfl) t.b_isinstance (by decide +kernel) (za_cons (zv 0) (za_cons (z_gc (by rfl) t.g_InvalidAction) (za_nil)))) (za_cons (z_callB (zc_isX hp) (by rfl) t.b_isinstance (by decide +kernel) (za_cons (zv 0) (za_cons (z_gc (by rfl) t.g_InvalidCommand) (za_nil)))) (za_nil))))))) (zs_cons (z_set (i := 1) sc_law_kind.nd rfl (Or.inl rfl) (z_op zo_add (zv 1) (z_lst (za_cons (z_callB (zc_isX hp) (by rfl) t.b_isinstance (by decide +kernel) (za_cons (zv 0) (za_cons (z_gc (by rfl) t.g_NotALine) (za_nil)))) (za_cons (z_callB (zc_isX hp) (by rfl) t.b_isinstance (by decide +kernel) (za_cons (zv 0) (za_cons (z_gc (by rfl) t.g_Overfull) (za_nil)))) (za_cons (z_callB (zc_isX hp) (by rfl) t.b_isinstance (by decide +kernel) (za_cons (zv 0) (za_cons (z_gc (by rfl) t.g_Full) (za_nil)))) (za_nil))))))) (zs_cons (z_set (i := 1) sc_law_kind.nd rfl (Or.inl rfl) (z_op zo_add (zv 1) (z_lst (za_cons (z_callB (zc_isX hp) (by rfl) t.b_isinstance (by decide +kernel) (za_cons (zv 0) (za_cons (z_gc (by rfl) t.g_NameTaken) (za_nil)))) (za_cons (z_callB (zc_isX hp) (by rfl) t.b_isinstance (by decide +kernel) (za_cons (zv 0) (za_cons (z_gc (by rfl) t.g_NotFree) (za_nil)))) (za_cons (z_callB (zc_isX hp) (by rfl) t.b_isinstance (by decide +kernel) (za_cons (zv 0) (za_cons (z_gc (by rfl) t.g_Busy) (za_nil)))) (za_nil))))))) (zs_cons (z_set (i := 1) sc_law_kind.nd rfl (Or.inl rfl) (z_op zo_add (zv 1) (z_lst (za_cons (z_callB (zc_isX hp) (by rfl) t.b_isinstance (by decide +kernel) (za_cons (zv 0) (za_cons (z_gc (by rfl) t.g_NothingToUndo) (za_nil)))) (za_cons (z_callB (zc_isX hp) (by rfl) t.b_isinstance (by decide +kernel) (za_cons (zv 0) (za_cons (z_gc (by rfl) t.g_TooManyTrips) (za_nil)))) (za_cons (z_callB (zc_isX hp) (by rfl) t.b_isinstance (by decide +kernel) (za_cons (zv 0) (za_cons (z_gc (by rfl) t.g_TooManyPlans) (za_nil)))) (za_nil))))))) (zs_cons (z_set (i := 1) sc_law_kind.nd rfl (Or.inl rfl) (z_op zo_add (zv 1) (z_lst (za_cons (z_callB (zc_isX hp) (by rfl) t.b_isinstance (by decide +kernel) (za_cons (zv 0) (za_cons (z_gc (by rfl) t.g_TooManyEntries) (za_nil)))) (za_nil))))) (zs_cons (z_set (i := 2) sc_law_kind.nd rfl (Or.inl rfl) (z_lst (za_cons (z_callB (zc_isX hp) (by rfl) t.b_isinstance (by decide +kernel) (za_cons (zv 0) (za_cons (z_gc (by rfl) t.g_SeatError) (za_nil)))) (za_cons (z_callB (zc_isX hp) (by rfl) t.b_isinstance (by decide +kernel) (za_cons (zv 0) (za_cons (z_gc (by rfl) t.g_StateError) (za_nil)))) (za_cons (z_callB (zc_isX hp) (by rfl) t.b_isinstance (by decide +kernel) (za_cons (zv 0) (za_cons (z_gc (by rfl) t.g_SizeError) (za_nil)))) (za_nil)))))) (zs_cons (z_set (i := 3) sc_law_kind.nd rfl (Or.inl rfl) (z_lst (za_cons (z_callB (zc_isX hp) (by rfl) t.b_isinstance (by decide +kernel) (za_cons (zv 0) (za_cons (z_ty (by rfl) t.b_ValueError (by decide +kernel)) (za_nil)))) (za_cons (z_callB (zc_isX hp) (by rfl) t.b_isinstance (by decide +kernel) (za_cons (zv 0) (za_cons (z_ty (by rfl) t.b_LookupError (by decide +kernel)) (za_nil)))) (za_cons (z_callB (zc_isX hp) (by rfl) t.b_isinstance (by decide +kernel) (za_cons (zv 0) (za_cons (z_ty (by rfl) t.b_ArithmeticError (by decide +kernel)) (za_nil)))) (za_nil)))))) (zs_cons (z_if (zt_cmp (zo_ne (Nat.lt_of_succ_lt (roomH65 hr))) (z_cntB rfl (pe_bm PySem.F.plainAttrs_list PySem.F.slot_list_count PySem.F.type_list_count mt_lcountB (zv 1) (pa_cons (z_bl) pa_nil))) (z_int)) (zs_one (z_ret (z_str))) (zs_nil)) (zs_cons (z_set (i := 4) sc_law_kind.nd rfl (Or.inl rfl) (z_idxD rfl (pe_bm PySem.F.plainAttrs_list PySem.F.slot_list_index PySem.F.type_list_index (mt_indexD (roomH65 hr)) (zv 1) (pa_cons (z_bl) pa_nil)))) (zs_cons (z_if ((zw_or (zt_cmp (zo_ne (Nat.lt_of_succ_lt (roomH65 hr))) (zv 2) (z_lst (za_cons (z_cmp zo_lt (zv 4) (z_int)) (za_cons (z_chain1 zo_lt zo_lt (z_int) (zv 4) (z_int)) (za_cons (z_cmp zo_gt (zv 4) (z_int)) (za_nil)))))) (zw_or1 (zt_cmp (zo_ne (Nat.lt_of_succ_lt (roomH65 hr))) (zv 3) (zv 2)))).pt) (zs_one (z_ret (z_str))) (zs_nil)) (zs_cons (z_set (i := 5) sc_law_kind.nd rfl (Or.inl rfl) (z_str)) (zs_cons (z_set (i := 5) sc_law_kind.nd rfl (Or.inl rfl) (z_op zo_add (zv 5) (z_str))) (zs_one (z_ret (z_ix (z_split rfl (pe_split (zv 5) (z_str))) (zv 4)))))))))))))))))), fun _ _ h => rd_law_kind h⟩
theorem bd_law_caught (t : Tx P w K mg a) : Binds K a.d_law_caught [("_law_call" : Str)] [] := t.F_law_caught.binds fun _ _ _ _ _ _ us hl => match us, hl with | [_], _ => rfl
def suiteOf_law_caught : List Stmt → List Stmt
 | [.Try _ (.ExceptHandler _ _ bd _ :: _) _ _ _] => bd
 | _ => []
theorem su_law_caught (t : Tx P w K mg a) (tb : TB2 base mg a) {cdv : Value} {A : Around} {outer : List Env} {s : Shared} {H : Hp} (hr : Room 13 (A.deeper (envOfC "_law_caught" (defScope s_law_caught) s.heap.objs.size a.f_law_caught cdv))) {e : Addr} {oe : Obj} {cls : Value} {d : Option Addr} {pn : List (Addr × Obj)} (hz : L2.Zc cls d oe) (hf : ∃ vs, oe.data = .fields vs) :
  PSs ((cxOf CX0 P w K mg base N_law_caught "_law_caught" (defScope s_law_caught) a.f_law_caught cdv A outer s H E0).nox.suite e ((e, oe) :: pn)) (suiteOf_law_caught (defBody s_law_caught)) (upS K (TT a) (ts_law_caught K a.CLine a.XC e cls d)) :=
 zs_one (z_ret (z_op zo_add (z_lst (za_cons (z_callZ (okz_law_kind t tb) (roomH_mark (hr.mono (by decide))) (pinX_suiteC hz hf) (by rfl) t.g__law_kind t.k__law_kind (bd_law_kind t) (za_cons (zv 1) (za_nil))) (za_nil))) (z_callZ (okz_law_fields t tb) (roomH_mark (hr.mono (by decide))) (pinX_suiteC hz hf) (by rfl) t.g__law_fields t.k__law_fields (bd_law_fields t) (za_cons (zv 1) (za_nil)))))
theorem bd_law_rows_of_plans (t : Tx P w K mg a) : Binds K a.d_law_rows_of_plans [("_law_pool_here" : Str), ("_law_good" : Str), ("_law_strange" : Str)] [] := t.F_law_rows_of_plans.fn.binds fun _ _ _ _ _ _ us hl => match us, hl with | [_, _, _], _ => rfl
theorem ok_law_rows_of_plans (t : Tx P w K mg a) (tb : TB2 base mg a) : FnG P w K mg base 15 a.f_law_rows_of_plans a.d_law_rows_of_plans [("_law_pool_here" : Str), ("_law_good" : Str), ("_law_strange" : Str)] (upSpR K (TT a) (sp_law_rows_of_plans K a.CLine a.XC)) :=
 okGRC (nm := ("_law_pool_here" : Str)) (N := [("_law_good" : Str), ("_law_strange" : Str), ("_law_fine" : Str), ("_law_bad" : Str), ("_law_worse" : Str), ("_law_rows" : Str)]) (ps := [("_law_good" : Str), ("_law_strange" : Str)]) t.F_law_rows_of_plans sc_law_rows_of_plans (fun _ _ _ h => len_law_rows_of_plans h) (by decide) fun A outer s H E hG hr => ⟨ts_law_rows_of_plans K a.CLine a.XC, zs_cons (z_par3 (i := 3) (j := 4) (l := 5) rfl (ps_parC3 (i := 3) (j := 4) (l := 5) rfl sc_law_rows_of_plans.nd rfl rfl rfl (Or.inr rfl) (Or.inr rfl) (Or.inr rfl) (zr_v (z_tup (za_cons (z_tup (za_cons (z_str) (za_cons (z_int) (za_nil)))) (za_cons (z_tup (za_cons (z_str) (za_cons (z_int) (za_nil)))) (za_cons (z_tup (za_cons (z_str) (za_cons (z_int) (za_nil)))) (za_nil))))) (zr_v (z_callR (ok_law_bad_plan t tb) (hr.mono (by decide)) (by rfl) t.g__law_bad_plan t.k__law_bad_plan (bd_law_bad_plan t) (pa_cons (pv 0) (za_nil))) (zr_v (z_callR (ok_law_bad_plan t tb) (hr.mono (by decide)) (by rfl) t.g__law_bad_plan t.k__law_bad_plan (bd_law_bad_plan t) (pa_cons (pv 0) (za_nil))) (zr_nil)))))) (zs_cons (z_setF (i := 6) sc_law_rows_of_plans.nd rfl (Or.inl rfl) (zf_lst (za_cons (z_lst (za_cons (z_caught t.F_law_caught sc_law_caught rfl rfl rfl (bd_law_caught t) (by rfl) t.g__law_caught t.k__law_caught (fun _ _ _ => (.cons ⟨rfl, rfl, .inl t.g_SeatError⟩ (.cons ⟨rfl, rfl, .inl t.g_StateError⟩ (.cons ⟨rfl, rfl, .inl t.g_SizeError⟩ .nil)))) L2N.tupM3 (by simp) (fun cdv s H hr e oe cls d pn hz hf => su_law_caught t tb hr hz hf) tb.t2 rfl (TT_mem_t2 a) (TT_one_t2 t) (hr.mono (by decide)) (LamX.lamS_by (show LamX.lamSB (defScope s_law_rows_of_plans) _ = true by decide +kernel)) rfl (fun _ _ _ _ _ => rfl) (fun A outer s H E f c' hr1 => zx_callC (L2T.fn_weak (okx_certify_plan t tb)) L2T.lam_takes (hr1.mono (by decide)) (by rfl) t.g_certify_plan t.k_certify_plan (bd_certify_plan t) .nil (fun _ _ => .nil) (za_cons (zv 2) (za_nil)))) (za_cons (z_lst (za_cons (z_str) (za_cons (zv 2) (za_nil)))) (za_nil)))) (za_nil)))) (zs_cons (z_app rfl (ps_expr (pe_bm PySem.F.plainAttrs_list PySem.F.slot_list_append PySem.F.type_list_append mt_append (pv 6) (pa_cons (z_lst (za_cons (z_caught t.F_law_caught sc_law_caught rfl rfl rfl (bd_law_caught t) (by rfl) t.g__law_caught t.k__law_caught (fun _ _ _ => (.cons ⟨rfl, rfl, .inl t.g_SeatError⟩ (.cons ⟨rfl, rfl, .inl t.g_StateError⟩ (.cons ⟨rfl, rfl, .inl t.g_SizeError⟩ .nil)))) L2N.tupM3 (by simp) (fun cdv s H hr e oe cls d pn hz hf => su_law_caught t tb hr hz hf) tb.t2 rfl (TT_mem_t2 a) (TT_one_t2 t) (hr.mono (by decide)) (LamX.lamS_by (show LamX.lamSB (defScope s_law_rows_of_plans) _ = true by decide +kernel)) rfl (fun _ _ _ _ _ => rfl) (fun A outer s H E f c' hr1 => zx_callC (L2T.fn_weak (okx_certify_route t tb)) L2T.lam_takes (hr1.mono (by decide)) (by rfl) t.g_certify_route t.k_certify_route (bd_certify_route t) .nil (fun _ _ => .nil) (za_cons (zv 2) (za_cons (z_ix (zv 4) (z_int)) (za_cons (z_ix (zv 5) (z_int)) (za_nil)))))) (za_cons (z_lst (za_cons (z_str) (za_cons (zv 2) (za_nil)))) (za_nil)))) pa_nil)))) (zs_cons (z_app rfl (ps_expr (pe_bm PySem.F.plainAttrs_list PySem.F.slot_list_append PySem.F.type_list_append mt_append (pv 6) (pa_cons (z_lst (za_cons (z_caught t.F_law_caught sc_law_caught rfl rfl rfl (bd_law_caught t) (by rfl) t.g__law_caught t.k__law_caught (fun _ _ _ => (.cons ⟨rfl, rfl, .inl t.g_SeatError⟩ (.cons ⟨rfl, rfl, .inl t.g_StateError⟩ (.cons ⟨rfl, rfl, .inl t.g_SizeError⟩ .nil)))) L2N.tupM3 (by simp) (fun cdv s H hr e oe cls d pn hz hf => su_law_caught t tb hr hz hf) tb.t2 rfl (TT_mem_t2 a) (TT_one_t2 t) (hr.mono (by decide)) (LamX.lamS_by (show LamX.lamSB (defScope s_law_rows_of_plans) _ = true by decide +kernel)) rfl (fun _ _ _ _ _ => rfl) (fun A outer s H E f c' hr1 => zx_callC (L2T.fn_weak (okx_certify_route t tb)) L2T.lam_takes (hr1.mono (by decide)) (by rfl) t.g_certify_route t.k_certify_route (bd_certify_route t) .nil (fun _ _ => .nil) (za_cons (zv 1) (za_cons (z_ix (zv 4) (z_int)) (za_cons (z_ix (zv 5) (z_int)) (za_nil)))))) (za_cons (z_lst (za_cons (z_str) (za_cons (z_ix (zv 4) (z_int)) (za_nil)))) (za_nil)))) pa_nil)))) (zs_cons (z_app rfl (ps_expr (pe_bm PySem.F.plainAttrs_list PySem.F.slot_list_append PySem.F.type_list_append mt_append (pv 6) (pa_cons (z_lst (za_cons (z_caught t.F_law_caught sc_law_caught rfl rfl rfl (bd_law_caught t) (by rfl) t.g__law_caught t.k__law_caught (fun _ _ _ => (.cons ⟨rfl, rfl, .inl t.g_SeatError⟩ (.cons ⟨rfl, rfl, .inl t.g_StateError⟩ (.cons ⟨rfl, rfl, .inl t.g_SizeError⟩ .nil)))) L2N.tupM3 (by simp) (fun cdv s H hr e oe cls d pn hz hf => su_law_caught t tb hr hz hf) tb.t2 rfl (TT_mem_t2 a) (TT_one_t2 t) (hr.mono (by decide)) (LamX.lamS_by (show LamX.lamSB (defScope s_law_rows_of_plans) _ = true by decide +kernel)) rfl (fun _ _ _ _ _ => rfl) (fun A outer s H E f c' hr1 => zx_callKC (L2T.fn_weak (okx_certify_route t tb)) L2T.lam_takes (hr1.mono (by decide)) (by rfl) t.g_certify_route t.k_certify_route (kw_certify_route_0_goal_plan_line t) (zk_cons (z_ix (zv 5) (z_int)) (zk_cons (zv 3) (zk_cons (zv 1) (zk_nil)))))) (za_cons (z_lst (za_cons (z_str) (za_cons (z_ix (zv 5) (z_int)) (za_nil)))) (za_nil)))) pa_nil)))) (zs_cons (z_app rfl (ps_expr (pe_bm PySem.F.plainAttrs_list PySem.F.slot_list_append PySem.F.type_list_append mt_append (pv 6) (pa_cons (z_lst (za_cons (z_caught t.F_law_caught sc_law_caught rfl rfl rfl (bd_law_caught t) (by rfl) t.g__law_caught t.k__law_caught (fun _ _ _ => (.cons ⟨rfl, rfl, .inl t.g_SeatError⟩ (.cons ⟨rfl, rfl, .inl t.g_StateError⟩ (.cons ⟨rfl, rfl, .inl t.g_SizeError⟩ .nil)))) L2N.tupM3 (by simp) (fun cdv s H hr e oe cls d pn hz hf => su_law_caught t tb hr hz hf) tb.t2 rfl (TT_mem_t2 a) (TT_one_t2 t) (hr.mono (by decide)) (LamX.lamS_by (show LamX.lamSB (defScope s_law_rows_of_plans) _ = true by decide +kernel)) rfl (fun _ _ _ _ _ => rfl) (fun A outer s H E f c' hr1 => zx_callC (L2T.fn_weak (okx_certify_number t tb)) L2T.lam_takes (hr1.mono (by decide)) (by rfl) t.g_certify_number t.k_certify_number (bd_certify_number t) .nil (fun _ _ => .nil) (za_cons (zv 2) (za_cons (z_ix (zv 4) (z_int)) (za_nil))))) (za_cons (z_lst (za_cons (z_str) (za_cons (zv 2) (za_nil)))) (za_nil)))) pa_nil)))) (zs_cons (z_app rfl (ps_expr (pe_bm PySem.F.plainAttrs_list PySem.F.slot_list_append PySem.F.type_list_append mt_append (pv 6) (pa_cons (z_lst (za_cons (z_caught t.F_law_caught sc_law_caught rfl rfl rfl (bd_law_caught t) (by rfl) t.g__law_caught t.k__law_caught (fun _ _ _ => (.cons ⟨rfl, rfl, .inl t.g_SeatError⟩ (.cons ⟨rfl, rfl, .inl t.g_StateError⟩ (.cons ⟨rfl, rfl, .inl t.g_SizeError⟩ .nil)))) L2N.tupM3 (by simp) (fun cdv s H hr e oe cls d pn hz hf => su_law_caught t tb hr hz hf) tb.t2 rfl (TT_mem_t2 a) (TT_one_t2 t) (hr.mono (by decide)) (LamX.lamS_by (show LamX.lamSB (defScope s_law_rows_of_plans) _ = true by decide +kernel)) rfl (fun _ _ _ _ _ => rfl) (fun A outer s H E f c' hr1 => zx_callKC (L2T.fn_weak (okx_certify_number t tb)) L2T.lam_takes (hr1.mono (by decide)) (by rfl) t.g_certify_number t.k_certify_number (kw_certify_number_0_plan_line t) (zk_cons (z_ix (zv 4) (z_int)) (zk_cons (zv 1) (zk_nil))))) (za_cons (z_lst (za_cons (z_str) (za_cons (z_ix (zv 4) (z_int)) (za_nil)))) (za_nil)))) pa_nil)))) (zs_one (z_ret (zv 6))))))))), fun _ _ _ h => rd_law_rows_of_plans h⟩
theorem bd_law_rows_of_seats (t : Tx P w K mg a) : Binds K a.d_law_rows_of_seats [("_law_pool_here" : Str), ("_law_good" : Str), ("_law_strange" : Str), ("_law_odd" : Str)] [] := t.F_law_rows_of_seats.fn.binds fun _ _ _ _ _ _ us hl => match us, hl with | [_, _, _, _], _ => rfl
theorem ok_law_rows_of_seats (t : Tx P w K mg a) (tb : TB2 base mg a) : FnG P w K mg base 15 a.f_law_rows_of_seats a.d_law_rows_of_seats [("_law_pool_here" : Str), ("_law_good" : Str), ("_law_strange" : Str), ("_law_odd" : Str)] (upSpR K (TT a) (sp_law_rows_of_seats K a.CLine a.XC)) :=
 okGRC (nm := ("_law_pool_here" : Str)) (N := [("_law_good" : Str), ("_law_strange" : Str), ("_law_odd" : Str), ("_law_fine" : Str), ("_law_bad" : Str), ("_law_keep" : Str), ("_law_rows" : Str)]) (ps := [("_law_good" : Str), ("_law_strange" : Str), ("_law_odd" : Str)]) t.F_law_rows_of_seats sc_law_rows_of_seats (fun _ _ _ h => len_law_rows_of_seats h) (by decide) fun A outer s H E hG hr => ⟨ts_law_rows_of_seats K a.CLine a.XC, zs_cons (z_par3 (i := 4) (j := 5) (l := 6) rfl (ps_parC3 (i := 4) (j := 5) (l := 6) rfl sc_law_rows_of_seats.nd rfl rfl rfl (Or.inr rfl) (Or.inr rfl) (Or.inr rfl) (zr_v (z_tup (za_cons (z_tup (za_cons (z_str) (za_cons (z_int) (za_nil)))) (za_cons (z_tup (za_cons (z_str) (za_cons (z_int) (za_nil)))) (za_cons (z_tup (za_cons (z_str) (za_cons (z_int) (za_nil)))) (za_nil))))) (zr_v (z_callR (ok_law_bad_plan t tb) (hr.mono (by decide)) (by rfl) t.g__law_bad_plan t.k__law_bad_plan (bd_law_bad_plan t) (pa_cons (pv 0) (za_nil))) (zr_v (z_callR (ok_law_bad_fixed t tb) (hr.mono (by decide)) (by rfl) t.g__law_bad_fixed t.k__law_bad_fixed (bd_law_bad_fixed t) (pa_cons (pv 0) (za_nil))) (zr_nil)))))) (zs_cons (z_setF (i := 7) sc_law_rows_of_seats.nd rfl (Or.inl rfl) (zf_lst (za_cons (z_lst (za_cons (z_caught t.F_law_caught sc_law_caught rfl rfl rfl (bd_law_caught t) (by rfl) t.g__law_caught t.k__law_caught (fun _ _ _ => (.cons ⟨rfl, rfl, .inl t.g_SeatError⟩ (.cons ⟨rfl, rfl, .inl t.g_StateError⟩ (.cons ⟨rfl, rfl, .inl t.g_SizeError⟩ .nil)))) L2N.tupM3 (by simp) (fun cdv s H hr e oe cls d pn hz hf => su_law_caught t tb hr hz hf) tb.t3 rfl (TT_mem_t3 a) (TT_one_t3 t) (hr.mono (by decide)) (LamX.lamS_by (show LamX.lamSB (defScope s_law_rows_of_seats) _ = true by decide +kernel)) rfl (fun _ _ _ _ _ => rfl) (fun A outer s H E f c' hr1 => zx_callC (L2T.fn_weak (okx_certify_fixed t tb)) L2T.lam_takes (hr1.mono (by decide)) (by rfl) t.g_certify_fixed t.k_certify_fixed (bd_certify_fixed t) .nil (fun _ _ => .nil) (za_cons (zv 2) (za_cons (z_ix (zv 6) (z_int)) (za_nil))))) (za_cons (z_lst (za_cons (z_str) (za_cons (zv 2) (za_nil)))) (za_nil)))) (za_nil)))) (zs_cons (z_app rfl (ps_expr (pe_bm PySem.F.plainAttrs_list PySem.F.slot_list_append PySem.F.type_list_append mt_append (pv 7) (pa_cons (z_lst (za_cons (z_caught t.F_law_caught sc_law_caught rfl rfl rfl (bd_law_caught t) (by rfl) t.g__law_caught t.k__law_caught (fun _ _ _ => (.cons ⟨rfl, rfl, .inl t.g_SeatError⟩ (.cons ⟨rfl, rfl, .inl t.g_StateError⟩ (.cons ⟨rfl, rfl, .inl t.g_SizeError⟩ .nil)))) L2N.tupM3 (by simp) (fun cdv s H hr e oe cls d pn hz hf => su_law_caught t tb hr hz hf) tb.t3 rfl (TT_mem_t3 a) (TT_one_t3 t) (hr.mono (by decide)) (LamX.lamS_by (show LamX.lamSB (defScope s_law_rows_of_seats) _ = true by decide +kernel)) rfl (fun _ _ _ _ _ => rfl) (fun A outer s H E f c' hr1 => zx_callKC (L2T.fn_weak (okx_certify_fixed t tb)) L2T.lam_takes (hr1.mono (by decide)) (by rfl) t.g_certify_fixed t.k_certify_fixed (kw_certify_fixed_0_fixed_line t) (zk_cons (z_ix (zv 6) (z_int)) (zk_cons (zv 1) (zk_nil))))) (za_cons (z_lst (za_cons (z_str) (za_cons (z_ix (zv 6) (z_int)) (za_nil)))) (za_nil)))) pa_nil)))) (zs_cons (z_app rfl (ps_expr (pe_bm PySem.F.plainAttrs_list PySem.F.slot_list_append PySem.F.type_list_append mt_append (pv 7) (pa_cons (z_lst (za_cons (z_caught t.F_law_caught sc_law_caught rfl rfl rfl (bd_law_caught t) (by rfl) t.g__law_caught t.k__law_caught (fun _ _ _ => (.cons ⟨rfl, rfl, .inl t.g_SeatError⟩ (.cons ⟨rfl, rfl, .inl t.g_StateError⟩ (.cons ⟨rfl, rfl, .inl t.g_SizeError⟩ .nil)))) L2N.tupM3 (by simp) (fun cdv s H hr e oe cls d pn hz hf => su_law_caught t tb hr hz hf) tb.t3 rfl (TT_mem_t3 a) (TT_one_t3 t) (hr.mono (by decide)) (LamX.lamS_by (show LamX.lamSB (defScope s_law_rows_of_seats) _ = true by decide +kernel)) rfl (fun _ _ _ _ _ => rfl) (fun A outer s H E f c' hr1 => zx_callC (L2T.fn_weak (okx_certify_changes t tb)) L2T.lam_takes (hr1.mono (by decide)) (by rfl) t.g_certify_changes t.k_certify_changes (bd_certify_changes t) .nil (fun _ _ => .nil) (za_cons (zv 2) (za_cons (z_ix (zv 5) (z_int)) (za_cons (zv 3) (za_cons (zv 3) (za_nil))))))) (za_cons (z_lst (za_cons (z_str) (za_cons (zv 2) (za_nil)))) (za_nil)))) pa_nil)))) (zs_cons (z_app rfl (ps_expr (pe_bm PySem.F.plainAttrs_list PySem.F.slot_list_append PySem.F.type_list_append mt_append (pv 7) (pa_cons (z_lst (za_cons (z_caught t.F_law_caught sc_law_caught rfl rfl rfl (bd_law_caught t) (by rfl) t.g__law_caught t.k__law_caught (fun _ _ _ => (.cons ⟨rfl, rfl, .inl t.g_SeatError⟩ (.cons ⟨rfl, rfl, .inl t.g_StateError⟩ (.cons ⟨rfl, rfl, .inl t.g_SizeError⟩ .nil)))) L2N.tupM3 (by simp) (fun cdv s H hr e oe cls d pn hz hf => su_law_caught t tb hr hz hf) tb.t3 rfl (TT_mem_t3 a) (TT_one_t3 t) (hr.mono (by decide)) (LamX.lamS_by (show LamX.lamSB (defScope s_law_rows_of_seats) _ = true by decide +kernel)) rfl (fun _ _ _ _ _ => rfl) (fun A outer s H E f c' hr1 => zx_callC (L2T.fn_weak (okx_certify_changes t tb)) L2T.lam_takes (hr1.mono (by decide)) (by rfl) t.g_certify_changes t.k_certify_changes (bd_certify_changes t) .nil (fun _ _ => .nil) (za_cons (zv 1) (za_cons (z_ix (zv 5) (z_int)) (za_cons (zv 3) (za_cons (zv 3) (za_nil))))))) (za_cons (z_lst (za_cons (z_str) (za_cons (z_ix (zv 5) (z_int)) (za_nil)))) (za_nil)))) pa_nil)))) (zs_cons (z_app rfl (ps_expr (pe_bm PySem.F.plainAttrs_list PySem.F.slot_list_append PySem.F.type_list_append mt_append (pv 7) (pa_cons (z_lst (za_cons (z_caught t.F_law_caught sc_law_caught rfl rfl rfl (bd_law_caught t) (by rfl) t.g__law_caught t.k__law_caught (fun _ _ _ => (.cons ⟨rfl, rfl, .inl t.g_SeatError⟩ (.cons ⟨rfl, rfl, .inl t.g_StateError⟩ (.cons ⟨rfl, rfl, .inl t.g_SizeError⟩ .nil)))) L2N.tupM3 (by simp) (fun cdv s H hr e oe cls d pn hz hf => su_law_caught t tb hr hz hf) tb.t3 rfl (TT_mem_t3 a) (TT_one_t3 t) (hr.mono (by decide)) (LamX.lamS_by (show LamX.lamSB (defScope s_law_rows_of_seats) _ = true by decide +kernel)) rfl (fun _ _ _ _ _ => rfl) (fun A outer s H E f c' hr1 => zx_callC (L2T.fn_weak (okx_certify_changes t tb)) L2T.lam_takes (hr1.mono (by decide)) (by rfl) t.g_certify_changes t.k_certify_changes (bd_certify_changes t) .nil (fun _ _ => .nil) (za_cons (zv 1) (za_cons (zv 4) (za_cons (zv 3) (za_cons (z_int) (za_nil))))))) (za_cons (z_lst (za_cons (z_str) (za_cons (zv 3) (za_nil)))) (za_nil)))) pa_nil)))) (zs_cons (z_app rfl (ps_expr (pe_bm PySem.F.plainAttrs_list PySem.F.slot_list_append PySem.F.type_list_append mt_append (pv 7) (pa_cons (z_lst (za_cons (z_caught t.F_law_caught sc_law_caught rfl rfl rfl (bd_law_caught t) (by rfl) t.g__law_caught t.k__law_caught (fun _ _ _ => (.cons ⟨rfl, rfl, .inl t.g_SeatError⟩ (.cons ⟨rfl, rfl, .inl t.g_StateError⟩ (.cons ⟨rfl, rfl, .inl t.g_SizeError⟩ .nil)))) L2N.tupM3 (by simp) (fun cdv s H hr e oe cls d pn hz hf => su_law_caught t tb hr hz hf) tb.t3 rfl (TT_mem_t3 a) (TT_one_t3 t) (hr.mono (by decide)) (LamX.lamS_by (show LamX.lamSB (defScope s_law_rows_of_seats) _ = true by decide +kernel)) rfl (fun _ _ _ _ _ => rfl) (fun A outer s H E f c' hr1 => zx_callKC (L2T.fn_weak (okx_certify_changes t tb)) L2T.lam_takes (hr1.mono (by decide)) (by rfl) t.g_certify_changes t.k_certify_changes (kw_certify_changes_0_end_start_plan_line t) (zk_cons (zv 3) (zk_cons (z_int) (zk_cons (zv 4) (zk_cons (zv 1) (zk_nil))))))) (za_cons (z_lst (za_cons (z_str) (za_cons (zv 3) (za_nil)))) (za_nil)))) pa_nil)))) (zs_cons (z_app rfl (ps_expr (pe_bm PySem.F.plainAttrs_list PySem.F.slot_list_append PySem.F.type_list_append mt_append (pv 7) (pa_cons (z_lst (za_cons (z_caught t.F_law_caught sc_law_caught rfl rfl rfl (bd_law_caught t) (by rfl) t.g__law_caught t.k__law_caught (fun _ _ _ => (.cons ⟨rfl, rfl, .inl t.g_SeatError⟩ (.cons ⟨rfl, rfl, .inl t.g_StateError⟩ (.cons ⟨rfl, rfl, .inl t.g_SizeError⟩ .nil)))) L2N.tupM3 (by simp) (fun cdv s H hr e oe cls d pn hz hf => su_law_caught t tb hr hz hf) tb.t3 rfl (TT_mem_t3 a) (TT_one_t3 t) (hr.mono (by decide)) (LamX.lamS_by (show LamX.lamSB (defScope s_law_rows_of_seats) _ = true by decide +kernel)) rfl (fun _ _ _ _ _ => rfl) (fun A outer s H E f c' hr1 => zx_callC (L2T.fn_weak (okx_certify_changes t tb)) L2T.lam_takes (hr1.mono (by decide)) (by rfl) t.g_certify_changes t.k_certify_changes (bd_certify_changes t) .nil (fun _ _ => .nil) (za_cons (zv 1) (za_cons (zv 4) (za_cons (z_int) (za_cons (z_int) (za_nil))))))) (za_cons (z_lst (za_cons (z_str) (za_cons (z_int) (za_nil)))) (za_nil)))) pa_nil)))) (zs_one (z_ret (zv 7)))))))))), fun _ _ _ h => rd_law_rows_of_seats h⟩
theorem bd_law_right84 (t : Tx P w K mg a) : Binds K a.d_law_right84 [("_law_pool_here" : Str)] [] := t.F_law_right84.binds fun _ _ _ _ _ _ us hl => match us, hl with | [_], _ => rfl
theorem ok_law_right84 (t : Tx P w K mg a) (tb : TB2 base mg a) : FnG P w K mg base 16 a.f_law_right84 a.d_law_right84 [("_law_pool_here" : Str)] (upSpR K (TT a) (sp_law_right84 K a.CLine a.XC)) :=
 okGR (nm := ("_law_pool_here" : Str)) (N := [("_law_good" : Str), ("_law_turn" : Str), ("_law_strange" : Str), ("_law_odd" : Str), ("_law_rows" : Str), ("_law_row" : Str)]) (ps := []) t.F_law_right84 sc_law_right84 (fun _ _ _ h => len_law_right84 h) (by decide) fun cdv A outer s H E hG hr => ⟨ts_law_right84 K a.CLine a.XC, zs_cons (z_set (i := 1) sc_law_right84.nd rfl (Or.inl rfl) (z_new t.mkL (ok_Line_init t tb) (hr.mono (by decide)) (by rfl) t.g_Line (bd_Line_init t) .nil (fun _ _ => .nil) (za_cons (z_int) (za_cons (z_tup (za_cons (z_tup (za_cons (z_str) (za_cons (z_int) (za_cons (z_int) (za_nil))))) (za_cons (z_tup (za_cons (z_str) (za_cons (z_int) (za_cons (z_int) (za_nil))))) (za_cons (z_tup (za_cons (z_str) (za_cons (z_int) (za_cons (z_int) (za_nil))))) (za_nil))))) (za_nil))))) (zs_cons (z_for PassesOwn.never rfl (zi_range1 (by rfl) t.b_range (z_int)) (zg_name (i := 2) sc_law_right84.nd rfl (Or.inl rfl)) (zs_cons (z_set (i := 3) sc_law_right84.nd rfl (Or.inl rfl) (z_ix (z_lst (za_cons (z_non) (za_cons (z_strO t.ow (call_strO (ok_Line_str t tb) (hr.mono (by decide)) t.ow (bd_Line_str t)) (by rfl) t.b_str (by decide +kernel) (za_cons (zv 1) (za_nil))) (za_cons (z_tup (za_cons (z_int) (za_cons (z_prop (zv 1) t.cl t.p_trips (ok_Line_trips t tb) (hr.mono (by decide)) (bd_Line_trips t)) (za_nil)))) (za_cons (z_int) (za_cons (z_lst (za_nil)) (za_cons (z_dic0) (za_cons (z_bl) (za_cons (z_lst (za_cons (zv 1) (za_nil))) (za_cons (z_tup (za_nil)) (za_nil))))))))))) (z_callR (ok_law_draw t tb) (hr.mono (by decide)) (by rfl) t.g__law_draw t.k__law_draw (bd_law_draw t) (pa_cons (pv 0) (za_cons (z_int) (za_nil)))))) (zs_cons (z_set (i := 4) sc_law_right84.nd rfl (Or.inl rfl) (z_ix (z_lst (za_cons (z_non) (za_cons (z_str) (za_cons (z_op zo_sub (z_int) (z_int)) (za_cons (z_bl) (za_cons (z_bl) (za_cons (z_tup (za_cons (z_int) (za_nil))) (za_cons (z_lst (za_cons (z_int) (za_nil))) (za_cons (z_dic0) (za_cons (z_op zo_sub (z_int) (z_op zo_pow (z_int) (z_int))) (za_nil))))))))))) (z_callR (ok_law_draw t tb) (hr.mono (by decide)) (by rfl) t.g__law_draw t.k__law_draw (bd_law_draw t) (pa_cons (pv 0) (za_cons (z_int) (za_nil)))))) (zs_cons (z_set (i := 5) sc_law_right84.nd rfl (Or.inl rfl) (z_op zo_add (z_callRG (ok_law_rows_of_plans t tb) hG (hr.mono (by decide)) (by rfl) t.g__law_rows_of_plans t.k__law_rows_of_plans (bd_law_rows_of_plans t) (pa_cons (pv 0) (za_cons (zv 1) (za_cons (zv 3) (za_nil))))) (z_callRG (ok_law_rows_of_seats t tb) hG (hr.mono (by decide)) (by rfl) t.g__law_rows_of_seats t.k__law_rows_of_seats (bd_law_rows_of_seats t) (pa_cons (pv 0) (za_cons (zv 1) (za_cons (zv 3) (za_cons (zv 4) (za_nil)))))))) (zs_one (z_if (zt_not (zt_val (z_callB (zc_all rfl) (by rfl) t.b_all (by decide +kernel) (za_cons (z_val (zf_lc (own := [(("_law_row" : Str), 6)]) (pe_lc (own := [(("_law_row" : Str), 6)]) rfl sc_law_right84.nd (zi_list (zv 5)) (blkOk_by (own := [(("_law_row" : Str), 6)]) (N := N_law_right84) (sc := defScope s_law_right84) (by decide +kernel)) (fun _ _ _ _ _ => zgw_name (by decide) (pg_name (i := 6) sc_law_right84.nd rfl (Or.inl rfl))) (fun _ _ _ _ _ => zts_nil) (fun _ _ _ _ _ => z_cmp zo_eqI (z_eit (z_callB (zc_reprE hG hr.units) (by rfl) t.b_repr (by decide +kernel) (za_cons (z_ix (zv 6) (z_int)) (za_nil))) (z_reprL (call_reprL (T := TT a) hG (ok_Line_repr t tb) (hr.mono (by decide)) t.rp t.rpf (bd_Line_repr t)) (by rfl) t.b_repr (by decide +kernel) (za_cons (z_ix (zv 6) (z_int)) (za_nil)))) (z_eit (z_callB (zc_reprE hG hr.units) (by rfl) t.b_repr (by decide +kernel) (za_cons (z_ix (zv 6) (z_int)) (za_nil))) (z_reprL (call_reprL (T := TT a) hG (ok_Line_repr t tb) (hr.mono (by decide)) t.rp t.rpf (bd_Line_repr t)) (by rfl) t.b_repr (by decide +kernel) (za_cons (z_ix (zv 6) (z_int)) (za_nil)))))))) (za_nil))))) (zs_one (z_ret (z_bl))) (zs_nil))))))) (zs_one (z_ret (z_bl)))), fun _ _ _ h => rd_law_right84 h⟩
theorem ok_law84 (t : Tx P w K mg a) (tb : TB2 base mg a) : FnG P w K mg base 17 a.f_law84 a.d_law84 [("_law_script" : Str)] (upSp K (TT a) (sp_law84 K a.CLine a.XC)) :=
 okGP t.F_law84 sc_law84 (fun _ _ h => len_law84 h) (by decide) fun cdv A outer s H E hG hr => ⟨ts_law84 K a.CLine a.XC, zs_one (z_ret (z_callB (zc_all rfl) (by rfl) t.b_all (by decide +kernel) (za_cons (z_val (zf_lc (own := [(("_law_k" : Str), 1)]) (pe_lc (own := [(("_law_k" : Str), 1)]) rfl sc_law84.nd (zi_range1 (by rfl) t.b_range (z_callB (zc_max2 rfl) (by rfl) t.b_max (by decide +kernel) (za_cons (z_int) (za_cons (z_callB (zc_min2 rfl) (by rfl) t.b_min (by decide +kernel) (za_cons (z_callB zc_len (by rfl) t.b_len (by decide +kernel) (za_cons (zv 0) (za_nil))) (za_cons (z_int) (za_nil)))) (za_nil))))) (blkOk_by (own := [(("_law_k" : Str), 1)]) (N := N_law84) (sc := defScope s_law84) (by decide +kernel)) (fun _ _ _ _ _ => zgw_name (by decide) (pg_name (i := 1) sc_law84.nd rfl (Or.inl rfl))) (fun _ _ _ _ _ => zts_nil) (fun _ _ _ _ _ => z_callRFG (ok_law_right84 t tb) hG (hr.mono (by decide)) (by rfl) t.g__law_right t.k__law_right (bd_law_right84 t) (pa_cons (z_callF (ok_law_pool t tb) (hr.mono (by decide)) (by rfl) t.g__law_pool t.k__law_pool (bd_law_pool t) (za_cons (z_call (ok_law_cell t tb) (hr.mono (by decide)) (by rfl) t.g__law_cell t.k__law_cell (bd_law_cell t) .nil (fun _ _ => .nil) (za_cons (zv 0) (za_cons (zv 1) (za_nil)))) (za_nil))) (za_nil)))))) (za_nil)))), fun _ _ h => rd_law84 h⟩
end
end ZK
namespace ZK
open PySem PySem.Spec L2 Z
open PyProof.Rows hiding St
theorem law_mk {l : PySem.W.OpenLaw} {w : World} {K : PySem.W.Frag} {h : Heap} {mg : Str → Option Value} {fa CLine cL tL eL qT qC TD cT tT cT3 tT3 C_Busy C_Full C_InvalidAction C_InvalidCommand C_InvalidExchange C_InvalidFixed C_InvalidName C_InvalidNumber C_InvalidPlan C_InvalidSeat C_InvalidSeats C_InvalidStation C_InvalidText C_InvalidTrips C_NameTaken C_NotALine C_NotFree C_NothingToUndo C_Overfull C_SeatError C_SizeError C_StateError C_TooManyEntries C_TooManyPlans C_TooManyTrips fX_InvalidFixed cc_InvalidFixed cda_InvalidFixed fX_InvalidPlan cc_InvalidPlan cda_InvalidPlan fX_InvalidStation cc_InvalidStation cda_InvalidStation fX_NotALine cc_NotALine cda_NotALine f_law_cell f_law_pool f_is_integer f_check_seats f_is_later f_is_station f_is_trip_name f_is_trip f_valid_beginning f_Line_init f_Line_len f_Line_eq f_Line_str f_Line_repr f_Line_trips f_law_draw f_law_bad_plan f_check_lineX f_Line_capacity f_is_pair f_is_seat f_trip_named f_names_trip_and_seat f_meet f_seats_left f_valid_pairs f_check_planX f_number_ofX f_certify_number f_overfullX f_certify_plan f_check_bothX f_routeX f_certify_route f_law_bad_fixed f_check_stationsX f_itineraryX f_certify_changes f_check_fixedX f_plan_or_obstacleX f_certify_fixed f_law_other_fields f_law_fields f_law_kind f_law_caught f_law_rows_of_plans f_law_rows_of_seats f_law_right84 f_law84 : Addr}  {rT : List Value} {rC : List Value}
  {ocX_InvalidFixed kVX_InvalidFixed dcX_InvalidFixed pmX_InvalidFixed ctX_InvalidFixed clX_InvalidFixed cclX_InvalidFixed : Value} {odX_InvalidFixed anX_InvalidFixed cldX_InvalidFixed cddX_InvalidFixed : Option Addr} {slX_InvalidFixed csX_InvalidFixed ccX_InvalidFixed : Array (Option Value)} {vsX_InvalidFixed : Array Value} {fileX_InvalidFixed : Str} {tfX_InvalidFixed : Tok} {ocX_InvalidPlan kVX_InvalidPlan dcX_InvalidPlan pmX_InvalidPlan ctX_InvalidPlan clX_InvalidPlan cclX_InvalidPlan : Value} {odX_InvalidPlan anX_InvalidPlan cldX_InvalidPlan cddX_InvalidPlan : Option Addr} {slX_InvalidPlan csX_InvalidPlan ccX_InvalidPlan : Array (Option Value)} {vsX_InvalidPlan : Array Value} {fileX_InvalidPlan : Str} {tfX_InvalidPlan : Tok} {ocX_InvalidStation kVX_InvalidStation dcX_InvalidStation pmX_InvalidStation ctX_InvalidStation clX_InvalidStation cclX_InvalidStation : Value} {odX_InvalidStation anX_InvalidStation cldX_InvalidStation cddX_InvalidStation : Option Addr} {slX_InvalidStation csX_InvalidStation ccX_InvalidStation : Array (Option Value)} {vsX_InvalidStation : Array Value} {fileX_InvalidStation : Str} {tfX_InvalidStation : Tok} {ocX_NotALine kVX_NotALine dcX_NotALine pmX_NotALine ctX_NotALine clX_NotALine cclX_NotALine : Value} {odX_NotALine anX_NotALine cldX_NotALine cddX_NotALine : Option Addr} {slX_NotALine csX_NotALine ccX_NotALine : Array (Option Value)} {vsX_NotALine : Array Value} {fileX_NotALine : Str} {tfX_NotALine : Tok} {oc_law_cell kV_law_cell dc_law_cell pm_law_cell cd_law_cell ct_law_cell : Value} {od_law_cell an_law_cell : Option Addr} {sl_law_cell : Array (Option Value)} {oc_law_pool kV_law_pool dc_law_pool pm_law_pool cd_law_pool ct_law_pool : Value} {od_law_pool an_law_pool : Option Addr} {sl_law_pool : Array (Option Value)} {oc_is_integer kV_is_integer dc_is_integer pm_is_integer cd_is_integer ct_is_integer : Value} {od_is_integer an_is_integer : Option Addr} {sl_is_integer : Array (Option Value)} {oc_check_seats kV_check_seats dc_check_seats pm_check_seats cd_check_seats ct_check_seats : Value} {od_check_seats an_check_seats : Option Addr} {sl_check_seats : Array (Option Value)} {oc_is_later kV_is_later dc_is_later pm_is_later cd_is_later ct_is_later : Value} {od_is_later an_is_later : Option Addr} {sl_is_later : Array (Option Value)} {oc_is_station kV_is_station dc_is_station pm_is_station cd_is_station ct_is_station : Value} {od_is_station an_is_station : Option Addr} {sl_is_station : Array (Option Value)} {oc_is_trip_name kV_is_trip_name dc_is_trip_name pm_is_trip_name cd_is_trip_name ct_is_trip_name : Value} {od_is_trip_name an_is_trip_name : Option Addr} {sl_is_trip_name : Array (Option Value)} {oc_is_trip kV_is_trip dc_is_trip pm_is_trip cd_is_trip ct_is_trip : Value} {od_is_trip an_is_trip : Option Addr} {sl_is_trip : Array (Option Value)} {oc_valid_beginning kV_valid_beginning dc_valid_beginning pm_valid_beginning cd_valid_beginning ct_valid_beginning : Value} {od_valid_beginning an_valid_beginning : Option Addr} {sl_valid_beginning : Array (Option Value)} {oc_Line_init kV_Line_init dc_Line_init pm_Line_init  ct_Line_init : Value} {od_Line_init an_Line_init : Option Addr} {sl_Line_init : Array (Option Value)} {oTD oEL oCL : Option Addr} {nTD nEL : Nat} {slT slE slC : Array (Option Value)} {cvs : Array Value} {oc_Line_len kV_Line_len dc_Line_len pm_Line_len cd_Line_len ct_Line_len : Value} {od_Line_len an_Line_len : Option Addr} {sl_Line_len : Array (Option Value)} {oc_Line_eq kV_Line_eq dc_Line_eq pm_Line_eq cd_Line_eq ct_Line_eq : Value} {od_Line_eq an_Line_eq : Option Addr} {sl_Line_eq : Array (Option Value)} {oc_Line_str kV_Line_str dc_Line_str pm_Line_str cd_Line_str ct_Line_str : Value} {od_Line_str an_Line_str : Option Addr} {sl_Line_str : Array (Option Value)} {oc_Line_repr kV_Line_repr dc_Line_repr pm_Line_repr cd_Line_repr ct_Line_repr : Value} {od_Line_repr an_Line_repr : Option Addr} {sl_Line_repr : Array (Option Value)} {oc_Line_trips kV_Line_trips dc_Line_trips pm_Line_trips cd_Line_trips ct_Line_trips : Value} {od_Line_trips an_Line_trips : Option Addr} {sl_Line_trips : Array (Option Value)} {oc_law_draw kV_law_draw dc_law_draw pm_law_draw cd_law_draw ct_law_draw : Value} {od_law_draw an_law_draw : Option Addr} {sl_law_draw : Array (Option Value)} {oc_law_bad_plan kV_law_bad_plan dc_law_bad_plan pm_law_bad_plan cd_law_bad_plan ct_law_bad_plan : Value} {od_law_bad_plan an_law_bad_plan : Option Addr} {sl_law_bad_plan : Array (Option Value)} {oc_check_lineX kV_check_lineX dc_check_lineX pm_check_lineX cd_check_lineX ct_check_lineX : Value} {od_check_lineX an_check_lineX : Option Addr} {sl_check_lineX : Array (Option Value)} {oc_Line_capacity kV_Line_capacity dc_Line_capacity pm_Line_capacity cd_Line_capacity ct_Line_capacity : Value} {od_Line_capacity an_Line_capacity : Option Addr} {sl_Line_capacity : Array (Option Value)} {oc_is_pair kV_is_pair dc_is_pair pm_is_pair cd_is_pair ct_is_pair : Value} {od_is_pair an_is_pair : Option Addr} {sl_is_pair : Array (Option Value)} {oc_is_seat kV_is_seat dc_is_seat pm_is_seat cd_is_seat ct_is_seat : Value} {od_is_seat an_is_seat : Option Addr} {sl_is_seat : Array (Option Value)} {oc_trip_named kV_trip_named dc_trip_named pm_trip_named cd_trip_named ct_trip_named : Value} {od_trip_named an_trip_named : Option Addr} {sl_trip_named : Array (Option Value)} {oc_names_trip_and_seat kV_names_trip_and_seat dc_names_trip_and_seat pm_names_trip_and_seat cd_names_trip_and_seat ct_names_trip_and_seat : Value} {od_names_trip_and_seat an_names_trip_and_seat : Option Addr} {sl_names_trip_and_seat : Array (Option Value)} {oc_meet kV_meet dc_meet pm_meet cd_meet ct_meet : Value} {od_meet an_meet : Option Addr} {sl_meet : Array (Option Value)} {oc_seats_left kV_seats_left dc_seats_left pm_seats_left cd_seats_left ct_seats_left : Value} {od_seats_left an_seats_left : Option Addr} {sl_seats_left : Array (Option Value)} {oc_valid_pairs kV_valid_pairs dc_valid_pairs pm_valid_pairs cd_valid_pairs ct_valid_pairs : Value} {od_valid_pairs an_valid_pairs : Option Addr} {sl_valid_pairs : Array (Option Value)} {oc_check_planX kV_check_planX dc_check_planX pm_check_planX cd_check_planX ct_check_planX : Value} {od_check_planX an_check_planX : Option Addr} {sl_check_planX : Array (Option Value)} {oc_number_ofX kV_number_ofX dc_number_ofX pm_number_ofX cd_number_ofX ct_number_ofX : Value} {od_number_ofX an_number_ofX : Option Addr} {sl_number_ofX : Array (Option Value)} {oc_certify_number kV_certify_number dc_certify_number pm_certify_number cd_certify_number ct_certify_number : Value} {od_certify_number an_certify_number : Option Addr} {sl_certify_number : Array (Option Value)} {oc_overfullX kV_overfullX dc_overfullX pm_overfullX cd_overfullX ct_overfullX : Value} {od_overfullX an_overfullX : Option Addr} {sl_overfullX : Array (Option Value)} {oc_certify_plan kV_certify_plan dc_certify_plan pm_certify_plan cd_certify_plan ct_certify_plan : Value} {od_certify_plan an_certify_plan : Option Addr} {sl_certify_plan : Array (Option Value)} {oc_check_bothX kV_check_bothX dc_check_bothX pm_check_bothX cd_check_bothX ct_check_bothX : Value} {od_check_bothX an_check_bothX : Option Addr} {sl_check_bothX : Array (Option Value)} {oc_routeX kV_routeX dc_routeX pm_routeX cd_routeX ct_routeX : Value} {od_routeX an_routeX : Option Addr} {sl_routeX : Array (Option Value)} {oc_certify_route kV_certify_route dc_certify_route pm_certify_route cd_certify_route ct_certify_route : Value} {od_certify_route an_certify_route : Option Addr} {sl_certify_route : Array (Option Value)} {oc_law_bad_fixed kV_law_bad_fixed dc_law_bad_fixed pm_law_bad_fixed cd_law_bad_fixed ct_law_bad_fixed : Value} {od_law_bad_fixed an_law_bad_fixed : Option Addr} {sl_law_bad_fixed : Array (Option Value)} {oc_check_stationsX kV_check_stationsX dc_check_stationsX pm_check_stationsX cd_check_stationsX ct_check_stationsX : Value} {od_check_stationsX an_check_stationsX : Option Addr} {sl_check_stationsX : Array (Option Value)} {oc_itineraryX kV_itineraryX dc_itineraryX pm_itineraryX cd_itineraryX ct_itineraryX : Value} {od_itineraryX an_itineraryX : Option Addr} {sl_itineraryX : Array (Option Value)} {oc_certify_changes kV_certify_changes dc_certify_changes pm_certify_changes cd_certify_changes ct_certify_changes : Value} {od_certify_changes an_certify_changes : Option Addr} {sl_certify_changes : Array (Option Value)} {oc_check_fixedX kV_check_fixedX dc_check_fixedX pm_check_fixedX cd_check_fixedX ct_check_fixedX : Value} {od_check_fixedX an_check_fixedX : Option Addr} {sl_check_fixedX : Array (Option Value)} {oc_plan_or_obstacleX kV_plan_or_obstacleX dc_plan_or_obstacleX pm_plan_or_obstacleX cd_plan_or_obstacleX ct_plan_or_obstacleX : Value} {od_plan_or_obstacleX an_plan_or_obstacleX : Option Addr} {sl_plan_or_obstacleX : Array (Option Value)} {oc_certify_fixed kV_certify_fixed dc_certify_fixed pm_certify_fixed cd_certify_fixed ct_certify_fixed : Value} {od_certify_fixed an_certify_fixed : Option Addr} {sl_certify_fixed : Array (Option Value)} {oc_law_other_fields kV_law_other_fields dc_law_other_fields pm_law_other_fields cd_law_other_fields ct_law_other_fields : Value} {od_law_other_fields an_law_other_fields : Option Addr} {sl_law_other_fields : Array (Option Value)} {oc_law_fields kV_law_fields dc_law_fields pm_law_fields cd_law_fields ct_law_fields : Value} {od_law_fields an_law_fields : Option Addr} {sl_law_fields : Array (Option Value)} {oc_law_kind kV_law_kind dc_law_kind pm_law_kind cd_law_kind ct_law_kind : Value} {od_law_kind an_law_kind : Option Addr} {sl_law_kind : Array (Option Value)} {oc_law_caught kV_law_caught dc_law_caught pm_law_caught cd_law_caught ct_law_caught : Value} {od_law_caught an_law_caught : Option Addr} {sl_law_caught : Array (Option Value)} {oc_law_rows_of_plans kV_law_rows_of_plans dc_law_rows_of_plans pm_law_rows_of_plans  ct_law_rows_of_plans : Value} {od_law_rows_of_plans an_law_rows_of_plans : Option Addr} {sl_law_rows_of_plans : Array (Option Value)} {oCT : Option Addr} {slCT : Array (Option Value)} {cvT : Array Value} {oc_law_rows_of_seats kV_law_rows_of_seats dc_law_rows_of_seats pm_law_rows_of_seats  ct_law_rows_of_seats : Value} {od_law_rows_of_seats an_law_rows_of_seats : Option Addr} {sl_law_rows_of_seats : Array (Option Value)} {oCT3 : Option Addr} {slCT3 : Array (Option Value)} {cvT3 : Array Value} {oc_law_right84 kV_law_right84 dc_law_right84 pm_law_right84 cd_law_right84 ct_law_right84 : Value} {od_law_right84 an_law_right84 : Option Addr} {sl_law_right84 : Array (Option Value)} {oc_law84 kV_law84 dc_law84 pm_law84 cd_law84 ct_law84 : Value} {od_law84 an_law84 : Option Addr} {sl_law84 : Array (Option Value)} {tv_LETTERS : Tok} {tv_LONGEST_NAME : Tok} {tv_MAX_SEATS : Tok} {tv_MAX_TRIPS : Tok}
  (X : K.In h) (G : h.Ns mainGlobals mg) (hfa : mg "law" = some (.ref fa))
  (hC : PySem.W.nsIn K mainGlobals "Line" = some (some (.ref CLine)))
  (c1 : PySem.W.plainGet K CLine Str.empty = true)
  (c2 : PySem.W.hasDictIn K CLine = true)
  (c3 : PySem.W.plainOver K CLine = true)
  (c4 : PySem.W.findIn K (.ref CLine) "__setattr__" = some (some (.builtin "object.__setattr__")))
  (t1 : PySem.W.findIn K (.ref CLine) "__class__" = some (some (.builtin "object.__class__")))
  (t2 : PySem.W.specialIn K (.builtin "object.__class__") "__get__" = some (some (.builtin "getset_descriptor.__get__")))
  (t3 : PySem.W.takesIn K (.builtin "object.__class__") = some true)
  (t4 : PySem.W.mroIn K CLine (.type "object") = some true)
  (t5 : PySem.W.kitOne K (.ref CLine) (.ref CLine) = some true)
  (ty0 : PySem.W.kitOne K (.ref CLine) (.type "int") = some false)
  (ty1 : PySem.W.kitOne K (.ref CLine) (.type "bool") = some false)
  (ty2 : PySem.W.kitOne K (.ref CLine) (.type "str") = some false)
  (ty3 : PySem.W.kitOne K (.ref CLine) (.type "tuple") = some false)
  (ty4 : PySem.W.kitOne K (.ref CLine) (.type "list") = some false)
  (ty5 : PySem.W.kitOne K (.ref CLine) (.type "dict") = some false)
  (no0 : PySem.W.kitOne K (.type "NoneType") (.ref CLine) = some false)
  (no1 : PySem.W.kitOne K (.type "int") (.ref CLine) = some false)
  (no2 : PySem.W.kitOne K (.type "bool") (.ref CLine) = some false)
  (no3 : PySem.W.kitOne K (.type "str") (.ref CLine) = some false)
  (no4 : PySem.W.kitOne K (.type "tuple") (.ref CLine) = some false)
  (no5 : PySem.W.kitOne K (.type "list") (.ref CLine) = some false)
  (no6 : PySem.W.kitOne K (.type "dict") (.ref CLine) = some false)
  (m1 : PySem.W.makesIn K CLine = true)
  (m2 : PySem.W.findIn K (.ref CLine) "__init__" = some (some (.ref f_Line_init)))
  (m3 : PySem.W.isFn K (.ref f_Line_init) = true)
  (m4 : PySem.W.keepIn K (.ref CLine) = true)
  (u1 : PySem.W.findIn K (.ref CLine) "capacity" = some (some (.ref qC)))
  (u2 : PySem.W.specialIn K (.ref qC) "__get__" = some (some (.builtin "property.__get__")))
  (u3 : PySem.W.takesIn K (.ref qC) = some true)
  (u4 : PySem.W.recIn K qC "property" = some (.ref f_Line_capacity :: rC))
  (rp : PySem.W.findIn K (.ref CLine) "__repr__" = some (some (.ref f_Line_repr)))
  (rpf : PySem.W.isFn K (.ref f_Line_repr) = true)
  (x1 : PySem.W.findIn K (.ref CLine) "__eq__" = some (some (.ref f_Line_eq)))
  (x1f : PySem.W.isFn K (.ref f_Line_eq) = true)
  (x2 : PySem.W.findIn K (.ref CLine) "__len__" = some (some (.ref f_Line_len)))
  (x2f : PySem.W.isFn K (.ref f_Line_len) = true)
  (x3 : PySem.W.findIn K (.ref CLine) "__str__" = some (some (.ref f_Line_str)))
  (x3f : PySem.W.isFn K (.ref f_Line_str) = true)
  (x4 : PySem.W.findIn K (.ref CLine) "__ne__" = some (some (.builtin "object.__ne__")))
  (x5 : PySem.W.findIn K (.ref CLine) "__bool__" = some none)
  (nf0 : PySem.W.notFirst K CLine (.type "NoneType") = true)
  (nf1 : PySem.W.notFirst K CLine (.type "int") = true)
  (nf2 : PySem.W.notFirst K CLine (.type "bool") = true)
  (nf3 : PySem.W.notFirst K CLine (.type "str") = true)
  (nf4 : PySem.W.notFirst K CLine (.type "tuple") = true)
  (nf5 : PySem.W.notFirst K CLine (.type "list") = true)
  (nf6 : PySem.W.notFirst K CLine (.type "dict") = true)
  (q1 : PySem.W.findIn K (.ref CLine) "trips" = some (some (.ref qT)))
  (q2 : PySem.W.specialIn K (.ref qT) "__get__" = some (some (.builtin "property.__get__")))
  (q3 : PySem.W.takesIn K (.ref qT) = some true)
  (q4 : PySem.W.recIn K qT "property" = some (.ref f_Line_trips :: rT))
  (n_seat_count : PySem.W.findIn K (.ref CLine) "seat_count" = some none)
  (n_rows : PySem.W.findIn K (.ref CLine) "rows" = some none)
  (n_queue : PySem.W.findIn K (.ref CLine) "queue" = some none)
  (xg_Busy : PySem.W.nsIn K mainGlobals "Busy" = some (some (.ref C_Busy)))
  (xg_Full : PySem.W.nsIn K mainGlobals "Full" = some (some (.ref C_Full)))
  (xg_InvalidAction : PySem.W.nsIn K mainGlobals "InvalidAction" = some (some (.ref C_InvalidAction)))
  (xg_InvalidCommand : PySem.W.nsIn K mainGlobals "InvalidCommand" = some (some (.ref C_InvalidCommand)))
  (xg_InvalidExchange : PySem.W.nsIn K mainGlobals "InvalidExchange" = some (some (.ref C_InvalidExchange)))
  (xg_InvalidFixed : PySem.W.nsIn K mainGlobals "InvalidFixed" = some (some (.ref C_InvalidFixed)))
  (xg_InvalidName : PySem.W.nsIn K mainGlobals "InvalidName" = some (some (.ref C_InvalidName)))
  (xg_InvalidNumber : PySem.W.nsIn K mainGlobals "InvalidNumber" = some (some (.ref C_InvalidNumber)))
  (xg_InvalidPlan : PySem.W.nsIn K mainGlobals "InvalidPlan" = some (some (.ref C_InvalidPlan)))
  (xg_InvalidSeat : PySem.W.nsIn K mainGlobals "InvalidSeat" = some (some (.ref C_InvalidSeat)))
  (xg_InvalidSeats : PySem.W.nsIn K mainGlobals "InvalidSeats" = some (some (.ref C_InvalidSeats)))
  (xg_InvalidStation : PySem.W.nsIn K mainGlobals "InvalidStation" = some (some (.ref C_InvalidStation)))
  (xg_InvalidText : PySem.W.nsIn K mainGlobals "InvalidText" = some (some (.ref C_InvalidText)))
  (xg_InvalidTrips : PySem.W.nsIn K mainGlobals "InvalidTrips" = some (some (.ref C_InvalidTrips)))
  (xg_NameTaken : PySem.W.nsIn K mainGlobals "NameTaken" = some (some (.ref C_NameTaken)))
  (xg_NotALine : PySem.W.nsIn K mainGlobals "NotALine" = some (some (.ref C_NotALine)))
  (xg_NotFree : PySem.W.nsIn K mainGlobals "NotFree" = some (some (.ref C_NotFree)))
  (xg_NothingToUndo : PySem.W.nsIn K mainGlobals "NothingToUndo" = some (some (.ref C_NothingToUndo)))
  (xg_Overfull : PySem.W.nsIn K mainGlobals "Overfull" = some (some (.ref C_Overfull)))
  (xg_SeatError : PySem.W.nsIn K mainGlobals "SeatError" = some (some (.ref C_SeatError)))
  (xg_SizeError : PySem.W.nsIn K mainGlobals "SizeError" = some (some (.ref C_SizeError)))
  (xg_StateError : PySem.W.nsIn K mainGlobals "StateError" = some (some (.ref C_StateError)))
  (xg_TooManyEntries : PySem.W.nsIn K mainGlobals "TooManyEntries" = some (some (.ref C_TooManyEntries)))
  (xg_TooManyPlans : PySem.W.nsIn K mainGlobals "TooManyPlans" = some (some (.ref C_TooManyPlans)))
  (xg_TooManyTrips : PySem.W.nsIn K mainGlobals "TooManyTrips" = some (some (.ref C_TooManyTrips)))
  (xi_InvalidFixed : PySem.W.findIn K (.ref C_InvalidFixed) "__init__" = some (some (.ref fX_InvalidFixed)))
  (xl_InvalidFixed : K.lookup fX_InvalidFixed = some ⟨ocX_InvalidFixed, odX_InvalidFixed, .func (PySem.W.ksFn "__init__" "InvalidFixed.__init__" (defArgs x_InvalidFixed) (defBody x_InvalidFixed) (defScope x_InvalidFixed) .none kVX_InvalidFixed dcX_InvalidFixed pmX_InvalidFixed anX_InvalidFixed (.ref cda_InvalidFixed) ctX_InvalidFixed cc_InvalidFixed), slX_InvalidFixed⟩)
  (xc_InvalidFixed : K.lookup cc_InvalidFixed = some ⟨clX_InvalidFixed, cldX_InvalidFixed, .cell (some (.ref C_InvalidFixed)), csX_InvalidFixed⟩)
  (xd_InvalidFixed : K.lookup cda_InvalidFixed = some ⟨cclX_InvalidFixed, cddX_InvalidFixed, .fields vsX_InvalidFixed, ccX_InvalidFixed⟩)
  (xv_InvalidFixed : vsX_InvalidFixed[2]? = some (.str fileX_InvalidFixed tfX_InvalidFixed))
  (xf_InvalidFixed : ((l.prog.main.file : Str) == fileX_InvalidFixed) = true)
  (xtp_InvalidFixed : (l.prog.main.scope.names.lookup ("super" : Str)).isSome = false)
  (xB_InvalidFixed : xclB K C_InvalidFixed fX_InvalidFixed "InvalidFixed.__init__" "index" "ValueError" "ValueError.__init__" "ValueError.__new__" [.type "ValueError", .type "Exception", .type "BaseException", .type "object"] cda_InvalidFixed = true)
  (xi_InvalidPlan : PySem.W.findIn K (.ref C_InvalidPlan) "__init__" = some (some (.ref fX_InvalidPlan)))
  (xl_InvalidPlan : K.lookup fX_InvalidPlan = some ⟨ocX_InvalidPlan, odX_InvalidPlan, .func (PySem.W.ksFn "__init__" "InvalidPlan.__init__" (defArgs x_InvalidPlan) (defBody x_InvalidPlan) (defScope x_InvalidPlan) .none kVX_InvalidPlan dcX_InvalidPlan pmX_InvalidPlan anX_InvalidPlan (.ref cda_InvalidPlan) ctX_InvalidPlan cc_InvalidPlan), slX_InvalidPlan⟩)
  (xc_InvalidPlan : K.lookup cc_InvalidPlan = some ⟨clX_InvalidPlan, cldX_InvalidPlan, .cell (some (.ref C_InvalidPlan)), csX_InvalidPlan⟩)
  (xd_InvalidPlan : K.lookup cda_InvalidPlan = some ⟨cclX_InvalidPlan, cddX_InvalidPlan, .fields vsX_InvalidPlan, ccX_InvalidPlan⟩)
  (xv_InvalidPlan : vsX_InvalidPlan[2]? = some (.str fileX_InvalidPlan tfX_InvalidPlan))
  (xf_InvalidPlan : ((l.prog.main.file : Str) == fileX_InvalidPlan) = true)
  (xtp_InvalidPlan : (l.prog.main.scope.names.lookup ("super" : Str)).isSome = false)
  (xB_InvalidPlan : xclB K C_InvalidPlan fX_InvalidPlan "InvalidPlan.__init__" "index" "ValueError" "ValueError.__init__" "ValueError.__new__" [.type "ValueError", .type "Exception", .type "BaseException", .type "object"] cda_InvalidPlan = true)
  (xi_InvalidStation : PySem.W.findIn K (.ref C_InvalidStation) "__init__" = some (some (.ref fX_InvalidStation)))
  (xl_InvalidStation : K.lookup fX_InvalidStation = some ⟨ocX_InvalidStation, odX_InvalidStation, .func (PySem.W.ksFn "__init__" "InvalidStation.__init__" (defArgs x_InvalidStation) (defBody x_InvalidStation) (defScope x_InvalidStation) .none kVX_InvalidStation dcX_InvalidStation pmX_InvalidStation anX_InvalidStation (.ref cda_InvalidStation) ctX_InvalidStation cc_InvalidStation), slX_InvalidStation⟩)
  (xc_InvalidStation : K.lookup cc_InvalidStation = some ⟨clX_InvalidStation, cldX_InvalidStation, .cell (some (.ref C_InvalidStation)), csX_InvalidStation⟩)
  (xd_InvalidStation : K.lookup cda_InvalidStation = some ⟨cclX_InvalidStation, cddX_InvalidStation, .fields vsX_InvalidStation, ccX_InvalidStation⟩)
  (xv_InvalidStation : vsX_InvalidStation[2]? = some (.str fileX_InvalidStation tfX_InvalidStation))
  (xf_InvalidStation : ((l.prog.main.file : Str) == fileX_InvalidStation) = true)
  (xtp_InvalidStation : (l.prog.main.scope.names.lookup ("super" : Str)).isSome = false)
  (xB_InvalidStation : xclB K C_InvalidStation fX_InvalidStation "InvalidStation.__init__" "station" "ValueError" "ValueError.__init__" "ValueError.__new__" [.type "ValueError", .type "Exception", .type "BaseException", .type "object"] cda_InvalidStation = true)
  (xi_NotALine : PySem.W.findIn K (.ref C_NotALine) "__init__" = some (some (.ref fX_NotALine)))
  (xl_NotALine : K.lookup fX_NotALine = some ⟨ocX_NotALine, odX_NotALine, .func (PySem.W.ksFn "__init__" "NotALine.__init__" (defArgs x_NotALine) (defBody x_NotALine) (defScope x_NotALine) .none kVX_NotALine dcX_NotALine pmX_NotALine anX_NotALine (.ref cda_NotALine) ctX_NotALine cc_NotALine), slX_NotALine⟩)
  (xc_NotALine : K.lookup cc_NotALine = some ⟨clX_NotALine, cldX_NotALine, .cell (some (.ref C_NotALine)), csX_NotALine⟩)
  (xd_NotALine : K.lookup cda_NotALine = some ⟨cclX_NotALine, cddX_NotALine, .fields vsX_NotALine, ccX_NotALine⟩)
  (xv_NotALine : vsX_NotALine[2]? = some (.str fileX_NotALine tfX_NotALine))
  (xf_NotALine : ((l.prog.main.file : Str) == fileX_NotALine) = true)
  (xtp_NotALine : (l.prog.main.scope.names.lookup ("super" : Str)).isSome = false)
  (xB_NotALine : xclB K C_NotALine fX_NotALine "NotALine.__init__" "value" "ValueError" "ValueError.__init__" "ValueError.__new__" [.type "ValueError", .type "Exception", .type "BaseException", .type "object"] cda_NotALine = true)
  (hkNotALine : kindB K C_NotALine [C_InvalidSeats, C_InvalidTrips, C_InvalidName, C_InvalidSeat, C_InvalidStation, C_InvalidPlan, C_InvalidFixed, C_InvalidExchange, C_InvalidNumber, C_InvalidText, C_InvalidAction, C_InvalidCommand, C_NotALine, C_Overfull, C_Full, C_NameTaken, C_NotFree, C_Busy, C_NothingToUndo, C_TooManyTrips, C_TooManyPlans, C_TooManyEntries] C_SeatError C_StateError C_SizeError 12 = true)
  (hxNotALine : PySem.W.exmAny K (.ref C_NotALine) [.ref C_SeatError, .ref C_StateError, .ref C_SizeError] = some true)
  (hkInvalidPlan : kindB K C_InvalidPlan [C_InvalidSeats, C_InvalidTrips, C_InvalidName, C_InvalidSeat, C_InvalidStation, C_InvalidPlan, C_InvalidFixed, C_InvalidExchange, C_InvalidNumber, C_InvalidText, C_InvalidAction, C_InvalidCommand, C_NotALine, C_Overfull, C_Full, C_NameTaken, C_NotFree, C_Busy, C_NothingToUndo, C_TooManyTrips, C_TooManyPlans, C_TooManyEntries] C_SeatError C_StateError C_SizeError 5 = true)
  (hxInvalidPlan : PySem.W.exmAny K (.ref C_InvalidPlan) [.ref C_SeatError, .ref C_StateError, .ref C_SizeError] = some true)
  (hkInvalidFixed : kindB K C_InvalidFixed [C_InvalidSeats, C_InvalidTrips, C_InvalidName, C_InvalidSeat, C_InvalidStation, C_InvalidPlan, C_InvalidFixed, C_InvalidExchange, C_InvalidNumber, C_InvalidText, C_InvalidAction, C_InvalidCommand, C_NotALine, C_Overfull, C_Full, C_NameTaken, C_NotFree, C_Busy, C_NothingToUndo, C_TooManyTrips, C_TooManyPlans, C_TooManyEntries] C_SeatError C_StateError C_SizeError 6 = true)
  (hxInvalidFixed : PySem.W.exmAny K (.ref C_InvalidFixed) [.ref C_SeatError, .ref C_StateError, .ref C_SizeError] = some true)
  (hkInvalidStation : kindB K C_InvalidStation [C_InvalidSeats, C_InvalidTrips, C_InvalidName, C_InvalidSeat, C_InvalidStation, C_InvalidPlan, C_InvalidFixed, C_InvalidExchange, C_InvalidNumber, C_InvalidText, C_InvalidAction, C_InvalidCommand, C_NotALine, C_Overfull, C_Full, C_NameTaken, C_NotFree, C_Busy, C_NothingToUndo, C_TooManyTrips, C_TooManyPlans, C_TooManyEntries] C_SeatError C_StateError C_SizeError 4 = true)
  (hxInvalidStation : PySem.W.exmAny K (.ref C_InvalidStation) [.ref C_SeatError, .ref C_StateError, .ref C_SizeError] = some true)
  (a_law_cell : PySem.W.nsIn K mainGlobals "_law_cell" = some (some (.ref f_law_cell)))
  (l_law_cell : K.lookup f_law_cell = some ⟨oc_law_cell, od_law_cell, .func (PySem.W.fnOf "_law_cell" "_law_cell" (defArgs s_law_cell) (defBody s_law_cell) (defScope s_law_cell) .none kV_law_cell dc_law_cell pm_law_cell an_law_cell cd_law_cell ct_law_cell), sl_law_cell⟩)
  (e_law_cell : PySem.W.codeIn K cd_law_cell "_law_cell" = true)
  (k_law_cell : PySem.W.keepIn K (.ref f_law_cell) = true)
  (a_law_pool : PySem.W.nsIn K mainGlobals "_law_pool" = some (some (.ref f_law_pool)))
  (l_law_pool : K.lookup f_law_pool = some ⟨oc_law_pool, od_law_pool, .func (PySem.W.fnOf "_law_pool" "_law_pool" (defArgs s_law_pool) (defBody s_law_pool) (defScope s_law_pool) .none kV_law_pool dc_law_pool pm_law_pool an_law_pool cd_law_pool ct_law_pool), sl_law_pool⟩)
  (e_law_pool : PySem.W.codeIn K cd_law_pool "_law_pool" = true)
  (k_law_pool : PySem.W.keepIn K (.ref f_law_pool) = true)
  (a_is_integer : PySem.W.nsIn K mainGlobals "is_integer" = some (some (.ref f_is_integer)))
  (l_is_integer : K.lookup f_is_integer = some ⟨oc_is_integer, od_is_integer, .func (PySem.W.fnOf "is_integer" "is_integer" (defArgs s_is_integer) (defBody s_is_integer) (defScope s_is_integer) .none kV_is_integer dc_is_integer pm_is_integer an_is_integer cd_is_integer ct_is_integer), sl_is_integer⟩)
  (e_is_integer : PySem.W.codeIn K cd_is_integer "is_integer" = true)
  (k_is_integer : PySem.W.keepIn K (.ref f_is_integer) = true)
  (a_check_seats : PySem.W.nsIn K mainGlobals "check_seats" = some (some (.ref f_check_seats)))
  (l_check_seats : K.lookup f_check_seats = some ⟨oc_check_seats, od_check_seats, .func (PySem.W.fnOf "check_seats" "check_seats" (defArgs s_check_seats) (defBody s_check_seats) (defScope s_check_seats) .none kV_check_seats dc_check_seats pm_check_seats an_check_seats cd_check_seats ct_check_seats), sl_check_seats⟩)
  (e_check_seats : PySem.W.codeIn K cd_check_seats "check_seats" = true)
  (k_check_seats : PySem.W.keepIn K (.ref f_check_seats) = true)
  (a_is_later : PySem.W.nsIn K mainGlobals "is_later" = some (some (.ref f_is_later)))
  (l_is_later : K.lookup f_is_later = some ⟨oc_is_later, od_is_later, .func (PySem.W.fnOf "is_later" "is_later" (defArgs s_is_later) (defBody s_is_later) (defScope s_is_later) .none kV_is_later dc_is_later pm_is_later an_is_later cd_is_later ct_is_later), sl_is_later⟩)
  (e_is_later : PySem.W.codeIn K cd_is_later "is_later" = true)
  (k_is_later : PySem.W.keepIn K (.ref f_is_later) = true)
  (a_is_station : PySem.W.nsIn K mainGlobals "is_station" = some (some (.ref f_is_station)))
  (l_is_station : K.lookup f_is_station = some ⟨oc_is_station, od_is_station, .func (PySem.W.fnOf "is_station" "is_station" (defArgs s_is_station) (defBody s_is_station) (defScope s_is_station) .none kV_is_station dc_is_station pm_is_station an_is_station cd_is_station ct_is_station), sl_is_station⟩)
  (e_is_station : PySem.W.codeIn K cd_is_station "is_station" = true)
  (k_is_station : PySem.W.keepIn K (.ref f_is_station) = true)
  (a_is_trip_name : PySem.W.nsIn K mainGlobals "is_trip_name" = some (some (.ref f_is_trip_name)))
  (l_is_trip_name : K.lookup f_is_trip_name = some ⟨oc_is_trip_name, od_is_trip_name, .func (PySem.W.fnOf "is_trip_name" "is_trip_name" (defArgs s_is_trip_name) (defBody s_is_trip_name) (defScope s_is_trip_name) .none kV_is_trip_name dc_is_trip_name pm_is_trip_name an_is_trip_name cd_is_trip_name ct_is_trip_name), sl_is_trip_name⟩)
  (e_is_trip_name : PySem.W.codeIn K cd_is_trip_name "is_trip_name" = true)
  (k_is_trip_name : PySem.W.keepIn K (.ref f_is_trip_name) = true)
  (a_is_trip : PySem.W.nsIn K mainGlobals "is_trip" = some (some (.ref f_is_trip)))
  (l_is_trip : K.lookup f_is_trip = some ⟨oc_is_trip, od_is_trip, .func (PySem.W.fnOf "is_trip" "is_trip" (defArgs s_is_trip) (defBody s_is_trip) (defScope s_is_trip) .none kV_is_trip dc_is_trip pm_is_trip an_is_trip cd_is_trip ct_is_trip), sl_is_trip⟩)
  (e_is_trip : PySem.W.codeIn K cd_is_trip "is_trip" = true)
  (k_is_trip : PySem.W.keepIn K (.ref f_is_trip) = true)
  (a_valid_beginning : PySem.W.nsIn K mainGlobals "valid_beginning" = some (some (.ref f_valid_beginning)))
  (l_valid_beginning : K.lookup f_valid_beginning = some ⟨oc_valid_beginning, od_valid_beginning, .func (PySem.W.fnOf "valid_beginning" "valid_beginning" (defArgs s_valid_beginning) (defBody s_valid_beginning) (defScope s_valid_beginning) .none kV_valid_beginning dc_valid_beginning pm_valid_beginning an_valid_beginning cd_valid_beginning ct_valid_beginning), sl_valid_beginning⟩)
  (e_valid_beginning : PySem.W.codeIn K cd_valid_beginning "valid_beginning" = true)
  (k_valid_beginning : PySem.W.keepIn K (.ref f_valid_beginning) = true)
  (l_Line_init : K.lookup f_Line_init = some ⟨oc_Line_init, od_Line_init, .func (PySem.W.fnOf "__init__" "Line.__init__" (defArgs s_Line_init) (defBody s_Line_init) (defScope s_Line_init) (.ref TD) kV_Line_init dc_Line_init pm_Line_init an_Line_init (.ref cL) ct_Line_init), sl_Line_init⟩)
  (e_Line_init : PySem.W.codeIn K (.ref cL) "Line.__init__" = true)
  (k_Line_init : PySem.W.keepIn K (.ref f_Line_init) = true)
  (w1 : K.lookup TD = some ⟨.type "tuple", oTD, .seq #[.ref eL] nTD, slT⟩)
  (w2 : K.lookup eL = some ⟨.type "tuple", oEL, .seq #[] nEL, slE⟩)
  (w3 : K.lookup cL = some ⟨.type "code", oCL, .fields cvs, slC⟩)
  (w4 : (cvs[11]? : Option Value) = some (.ref tL))
  (w5 : PySem.W.codeHdIn K cL tL = true)
  (w6 : K.lookup tL = none)
  (l_Line_len : K.lookup f_Line_len = some ⟨oc_Line_len, od_Line_len, .func (PySem.W.fnOf "__len__" "Line.__len__" (defArgs s_Line_len) (defBody s_Line_len) (defScope s_Line_len) .none kV_Line_len dc_Line_len pm_Line_len an_Line_len cd_Line_len ct_Line_len), sl_Line_len⟩)
  (e_Line_len : PySem.W.codeIn K cd_Line_len "Line.__len__" = true)
  (k_Line_len : PySem.W.keepIn K (.ref f_Line_len) = true)
  (l_Line_eq : K.lookup f_Line_eq = some ⟨oc_Line_eq, od_Line_eq, .func (PySem.W.fnOf "__eq__" "Line.__eq__" (defArgs s_Line_eq) (defBody s_Line_eq) (defScope s_Line_eq) .none kV_Line_eq dc_Line_eq pm_Line_eq an_Line_eq cd_Line_eq ct_Line_eq), sl_Line_eq⟩)
  (e_Line_eq : PySem.W.codeIn K cd_Line_eq "Line.__eq__" = true)
  (k_Line_eq : PySem.W.keepIn K (.ref f_Line_eq) = true)
  (l_Line_str : K.lookup f_Line_str = some ⟨oc_Line_str, od_Line_str, .func (PySem.W.fnOf "__str__" "Line.__str__" (defArgs s_Line_str) (defBody s_Line_str) (defScope s_Line_str) .none kV_Line_str dc_Line_str pm_Line_str an_Line_str cd_Line_str ct_Line_str), sl_Line_str⟩)
  (e_Line_str : PySem.W.codeIn K cd_Line_str "Line.__str__" = true)
  (k_Line_str : PySem.W.keepIn K (.ref f_Line_str) = true)
  (l_Line_repr : K.lookup f_Line_repr = some ⟨oc_Line_repr, od_Line_repr, .func (PySem.W.fnOf "__repr__" "Line.__repr__" (defArgs s_Line_repr) (defBody s_Line_repr) (defScope s_Line_repr) .none kV_Line_repr dc_Line_repr pm_Line_repr an_Line_repr cd_Line_repr ct_Line_repr), sl_Line_repr⟩)
  (e_Line_repr : PySem.W.codeIn K cd_Line_repr "Line.__repr__" = true)
  (k_Line_repr : PySem.W.keepIn K (.ref f_Line_repr) = true)
  (l_Line_trips : K.lookup f_Line_trips = some ⟨oc_Line_trips, od_Line_trips, .func (PySem.W.fnOf "trips" "Line.trips" (defArgs s_Line_trips) (defBody s_Line_trips) (defScope s_Line_trips) .none kV_Line_trips dc_Line_trips pm_Line_trips an_Line_trips cd_Line_trips ct_Line_trips), sl_Line_trips⟩)
  (e_Line_trips : PySem.W.codeIn K cd_Line_trips "Line.trips" = true)
  (k_Line_trips : PySem.W.keepIn K (.ref f_Line_trips) = true)
  (a_law_draw : PySem.W.nsIn K mainGlobals "_law_draw" = some (some (.ref f_law_draw)))
  (l_law_draw : K.lookup f_law_draw = some ⟨oc_law_draw, od_law_draw, .func (PySem.W.fnOf "_law_draw" "_law_draw" (defArgs s_law_draw) (defBody s_law_draw) (defScope s_law_draw) .none kV_law_draw dc_law_draw pm_law_draw an_law_draw cd_law_draw ct_law_draw), sl_law_draw⟩)
  (e_law_draw : PySem.W.codeIn K cd_law_draw "_law_draw" = true)
  (k_law_draw : PySem.W.keepIn K (.ref f_law_draw) = true)
  (a_law_bad_plan : PySem.W.nsIn K mainGlobals "_law_bad_plan" = some (some (.ref f_law_bad_plan)))
  (l_law_bad_plan : K.lookup f_law_bad_plan = some ⟨oc_law_bad_plan, od_law_bad_plan, .func (PySem.W.fnOf "_law_bad_plan" "_law_bad_plan" (defArgs s_law_bad_plan) (defBody s_law_bad_plan) (defScope s_law_bad_plan) .none kV_law_bad_plan dc_law_bad_plan pm_law_bad_plan an_law_bad_plan cd_law_bad_plan ct_law_bad_plan), sl_law_bad_plan⟩)
  (e_law_bad_plan : PySem.W.codeIn K cd_law_bad_plan "_law_bad_plan" = true)
  (k_law_bad_plan : PySem.W.keepIn K (.ref f_law_bad_plan) = true)
  (a_check_lineX : PySem.W.nsIn K mainGlobals "check_line" = some (some (.ref f_check_lineX)))
  (l_check_lineX : K.lookup f_check_lineX = some ⟨oc_check_lineX, od_check_lineX, .func (PySem.W.fnOf "check_line" "check_line" (defArgs s_check_lineX) (defBody s_check_lineX) (defScope s_check_lineX) .none kV_check_lineX dc_check_lineX pm_check_lineX an_check_lineX cd_check_lineX ct_check_lineX), sl_check_lineX⟩)
  (e_check_lineX : PySem.W.codeIn K cd_check_lineX "check_line" = true)
  (k_check_lineX : PySem.W.keepIn K (.ref f_check_lineX) = true)
  (l_Line_capacity : K.lookup f_Line_capacity = some ⟨oc_Line_capacity, od_Line_capacity, .func (PySem.W.fnOf "capacity" "Line.capacity" (defArgs s_Line_capacity) (defBody s_Line_capacity) (defScope s_Line_capacity) .none kV_Line_capacity dc_Line_capacity pm_Line_capacity an_Line_capacity cd_Line_capacity ct_Line_capacity), sl_Line_capacity⟩)
  (e_Line_capacity : PySem.W.codeIn K cd_Line_capacity "Line.capacity" = true)
  (k_Line_capacity : PySem.W.keepIn K (.ref f_Line_capacity) = true)
  (a_is_pair : PySem.W.nsIn K mainGlobals "is_pair" = some (some (.ref f_is_pair)))
  (l_is_pair : K.lookup f_is_pair = some ⟨oc_is_pair, od_is_pair, .func (PySem.W.fnOf "is_pair" "is_pair" (defArgs s_is_pair) (defBody s_is_pair) (defScope s_is_pair) .none kV_is_pair dc_is_pair pm_is_pair an_is_pair cd_is_pair ct_is_pair), sl_is_pair⟩)
  (e_is_pair : PySem.W.codeIn K cd_is_pair "is_pair" = true)
  (k_is_pair : PySem.W.keepIn K (.ref f_is_pair) = true)
  (a_is_seat : PySem.W.nsIn K mainGlobals "is_seat" = some (some (.ref f_is_seat)))
  (l_is_seat : K.lookup f_is_seat = some ⟨oc_is_seat, od_is_seat, .func (PySem.W.fnOf "is_seat" "is_seat" (defArgs s_is_seat) (defBody s_is_seat) (defScope s_is_seat) .none kV_is_seat dc_is_seat pm_is_seat an_is_seat cd_is_seat ct_is_seat), sl_is_seat⟩)
  (e_is_seat : PySem.W.codeIn K cd_is_seat "is_seat" = true)
  (k_is_seat : PySem.W.keepIn K (.ref f_is_seat) = true)
  (a_trip_named : PySem.W.nsIn K mainGlobals "trip_named" = some (some (.ref f_trip_named)))
  (l_trip_named : K.lookup f_trip_named = some ⟨oc_trip_named, od_trip_named, .func (PySem.W.fnOf "trip_named" "trip_named" (defArgs s_trip_named) (defBody s_trip_named) (defScope s_trip_named) .none kV_trip_named dc_trip_named pm_trip_named an_trip_named cd_trip_named ct_trip_named), sl_trip_named⟩)
  (e_trip_named : PySem.W.codeIn K cd_trip_named "trip_named" = true)
  (k_trip_named : PySem.W.keepIn K (.ref f_trip_named) = true)
  (a_names_trip_and_seat : PySem.W.nsIn K mainGlobals "names_trip_and_seat" = some (some (.ref f_names_trip_and_seat)))
  (l_names_trip_and_seat : K.lookup f_names_trip_and_seat = some ⟨oc_names_trip_and_seat, od_names_trip_and_seat, .func (PySem.W.fnOf "names_trip_and_seat" "names_trip_and_seat" (defArgs s_names_trip_and_seat) (defBody s_names_trip_and_seat) (defScope s_names_trip_and_seat) .none kV_names_trip_and_seat dc_names_trip_and_seat pm_names_trip_and_seat an_names_trip_and_seat cd_names_trip_and_seat ct_names_trip_and_seat), sl_names_trip_and_seat⟩)
  (e_names_trip_and_seat : PySem.W.codeIn K cd_names_trip_and_seat "names_trip_and_seat" = true)
  (k_names_trip_and_seat : PySem.W.keepIn K (.ref f_names_trip_and_seat) = true)
  (a_meet : PySem.W.nsIn K mainGlobals "meet" = some (some (.ref f_meet)))
  (l_meet : K.lookup f_meet = some ⟨oc_meet, od_meet, .func (PySem.W.fnOf "meet" "meet" (defArgs s_meet) (defBody s_meet) (defScope s_meet) .none kV_meet dc_meet pm_meet an_meet cd_meet ct_meet), sl_meet⟩)
  (e_meet : PySem.W.codeIn K cd_meet "meet" = true)
  (k_meet : PySem.W.keepIn K (.ref f_meet) = true)
  (a_seats_left : PySem.W.nsIn K mainGlobals "seats_left" = some (some (.ref f_seats_left)))
  (l_seats_left : K.lookup f_seats_left = some ⟨oc_seats_left, od_seats_left, .func (PySem.W.fnOf "seats_left" "seats_left" (defArgs s_seats_left) (defBody s_seats_left) (defScope s_seats_left) .none kV_seats_left dc_seats_left pm_seats_left an_seats_left cd_seats_left ct_seats_left), sl_seats_left⟩)
  (e_seats_left : PySem.W.codeIn K cd_seats_left "seats_left" = true)
  (k_seats_left : PySem.W.keepIn K (.ref f_seats_left) = true)
  (a_valid_pairs : PySem.W.nsIn K mainGlobals "valid_pairs" = some (some (.ref f_valid_pairs)))
  (l_valid_pairs : K.lookup f_valid_pairs = some ⟨oc_valid_pairs, od_valid_pairs, .func (PySem.W.fnOf "valid_pairs" "valid_pairs" (defArgs s_valid_pairs) (defBody s_valid_pairs) (defScope s_valid_pairs) .none kV_valid_pairs dc_valid_pairs pm_valid_pairs an_valid_pairs cd_valid_pairs ct_valid_pairs), sl_valid_pairs⟩)
  (e_valid_pairs : PySem.W.codeIn K cd_valid_pairs "valid_pairs" = true)
  (k_valid_pairs : PySem.W.keepIn K (.ref f_valid_pairs) = true)
  (a_check_planX : PySem.W.nsIn K mainGlobals "check_plan" = some (some (.ref f_check_planX)))
  (l_check_planX : K.lookup f_check_planX = some ⟨oc_check_planX, od_check_planX, .func (PySem.W.fnOf "check_plan" "check_plan" (defArgs s_check_planX) (defBody s_check_planX) (defScope s_check_planX) .none kV_check_planX dc_check_planX pm_check_planX an_check_planX cd_check_planX ct_check_planX), sl_check_planX⟩)
  (e_check_planX : PySem.W.codeIn K cd_check_planX "check_plan" = true)
  (k_check_planX : PySem.W.keepIn K (.ref f_check_planX) = true)
  (a_number_ofX : PySem.W.nsIn K mainGlobals "number_of" = some (some (.ref f_number_ofX)))
  (l_number_ofX : K.lookup f_number_ofX = some ⟨oc_number_ofX, od_number_ofX, .func (PySem.W.fnOf "number_of" "number_of" (defArgs s_number_ofX) (defBody s_number_ofX) (defScope s_number_ofX) .none kV_number_ofX dc_number_ofX pm_number_ofX an_number_ofX cd_number_ofX ct_number_ofX), sl_number_ofX⟩)
  (e_number_ofX : PySem.W.codeIn K cd_number_ofX "number_of" = true)
  (k_number_ofX : PySem.W.keepIn K (.ref f_number_ofX) = true)
  (a_certify_number : PySem.W.nsIn K mainGlobals "certify_number" = some (some (.ref f_certify_number)))
  (l_certify_number : K.lookup f_certify_number = some ⟨oc_certify_number, od_certify_number, .func (PySem.W.fnOf "certify_number" "certify_number" (defArgs s_certify_number) (defBody s_certify_number) (defScope s_certify_number) .none kV_certify_number dc_certify_number pm_certify_number an_certify_number cd_certify_number ct_certify_number), sl_certify_number⟩)
  (e_certify_number : PySem.W.codeIn K cd_certify_number "certify_number" = true)
  (k_certify_number : PySem.W.keepIn K (.ref f_certify_number) = true)
  (a_overfullX : PySem.W.nsIn K mainGlobals "overfull" = some (some (.ref f_overfullX)))
  (l_overfullX : K.lookup f_overfullX = some ⟨oc_overfullX, od_overfullX, .func (PySem.W.fnOf "overfull" "overfull" (defArgs s_overfullX) (defBody s_overfullX) (defScope s_overfullX) .none kV_overfullX dc_overfullX pm_overfullX an_overfullX cd_overfullX ct_overfullX), sl_overfullX⟩)
  (e_overfullX : PySem.W.codeIn K cd_overfullX "overfull" = true)
  (k_overfullX : PySem.W.keepIn K (.ref f_overfullX) = true)
  (a_certify_plan : PySem.W.nsIn K mainGlobals "certify_plan" = some (some (.ref f_certify_plan)))
  (l_certify_plan : K.lookup f_certify_plan = some ⟨oc_certify_plan, od_certify_plan, .func (PySem.W.fnOf "certify_plan" "certify_plan" (defArgs s_certify_plan) (defBody s_certify_plan) (defScope s_certify_plan) .none kV_certify_plan dc_certify_plan pm_certify_plan an_certify_plan cd_certify_plan ct_certify_plan), sl_certify_plan⟩)
  (e_certify_plan : PySem.W.codeIn K cd_certify_plan "certify_plan" = true)
  (k_certify_plan : PySem.W.keepIn K (.ref f_certify_plan) = true)
  (a_check_bothX : PySem.W.nsIn K mainGlobals "check_both" = some (some (.ref f_check_bothX)))
  (l_check_bothX : K.lookup f_check_bothX = some ⟨oc_check_bothX, od_check_bothX, .func (PySem.W.fnOf "check_both" "check_both" (defArgs s_check_bothX) (defBody s_check_bothX) (defScope s_check_bothX) .none kV_check_bothX dc_check_bothX pm_check_bothX an_check_bothX cd_check_bothX ct_check_bothX), sl_check_bothX⟩)
  (e_check_bothX : PySem.W.codeIn K cd_check_bothX "check_both" = true)
  (k_check_bothX : PySem.W.keepIn K (.ref f_check_bothX) = true)
  (a_routeX : PySem.W.nsIn K mainGlobals "route" = some (some (.ref f_routeX)))
  (l_routeX : K.lookup f_routeX = some ⟨oc_routeX, od_routeX, .func (PySem.W.fnOf "route" "route" (defArgs s_routeX) (defBody s_routeX) (defScope s_routeX) .none kV_routeX dc_routeX pm_routeX an_routeX cd_routeX ct_routeX), sl_routeX⟩)
  (e_routeX : PySem.W.codeIn K cd_routeX "route" = true)
  (k_routeX : PySem.W.keepIn K (.ref f_routeX) = true)
  (a_certify_route : PySem.W.nsIn K mainGlobals "certify_route" = some (some (.ref f_certify_route)))
  (l_certify_route : K.lookup f_certify_route = some ⟨oc_certify_route, od_certify_route, .func (PySem.W.fnOf "certify_route" "certify_route" (defArgs s_certify_route) (defBody s_certify_route) (defScope s_certify_route) .none kV_certify_route dc_certify_route pm_certify_route an_certify_route cd_certify_route ct_certify_route), sl_certify_route⟩)
  (e_certify_route : PySem.W.codeIn K cd_certify_route "certify_route" = true)
  (k_certify_route : PySem.W.keepIn K (.ref f_certify_route) = true)
  (a_law_bad_fixed : PySem.W.nsIn K mainGlobals "_law_bad_fixed" = some (some (.ref f_law_bad_fixed)))
  (l_law_bad_fixed : K.lookup f_law_bad_fixed = some ⟨oc_law_bad_fixed, od_law_bad_fixed, .func (PySem.W.fnOf "_law_bad_fixed" "_law_bad_fixed" (defArgs s_law_bad_fixed) (defBody s_law_bad_fixed) (defScope s_law_bad_fixed) .none kV_law_bad_fixed dc_law_bad_fixed pm_law_bad_fixed an_law_bad_fixed cd_law_bad_fixed ct_law_bad_fixed), sl_law_bad_fixed⟩)
  (e_law_bad_fixed : PySem.W.codeIn K cd_law_bad_fixed "_law_bad_fixed" = true)
  (k_law_bad_fixed : PySem.W.keepIn K (.ref f_law_bad_fixed) = true)
  (a_check_stationsX : PySem.W.nsIn K mainGlobals "check_stations" = some (some (.ref f_check_stationsX)))
  (l_check_stationsX : K.lookup f_check_stationsX = some ⟨oc_check_stationsX, od_check_stationsX, .func (PySem.W.fnOf "check_stations" "check_stations" (defArgs s_check_stationsX) (defBody s_check_stationsX) (defScope s_check_stationsX) .none kV_check_stationsX dc_check_stationsX pm_check_stationsX an_check_stationsX cd_check_stationsX ct_check_stationsX), sl_check_stationsX⟩)
  (e_check_stationsX : PySem.W.codeIn K cd_check_stationsX "check_stations" = true)
  (k_check_stationsX : PySem.W.keepIn K (.ref f_check_stationsX) = true)
  (a_itineraryX : PySem.W.nsIn K mainGlobals "itinerary" = some (some (.ref f_itineraryX)))
  (l_itineraryX : K.lookup f_itineraryX = some ⟨oc_itineraryX, od_itineraryX, .func (PySem.W.fnOf "itinerary" "itinerary" (defArgs s_itineraryX) (defBody s_itineraryX) (defScope s_itineraryX) .none kV_itineraryX dc_itineraryX pm_itineraryX an_itineraryX cd_itineraryX ct_itineraryX), sl_itineraryX⟩)
  (e_itineraryX : PySem.W.codeIn K cd_itineraryX "itinerary" = true)
  (k_itineraryX : PySem.W.keepIn K (.ref f_itineraryX) = true)
  (a_certify_changes : PySem.W.nsIn K mainGlobals "certify_changes" = some (some (.ref f_certify_changes)))
  (l_certify_changes : K.lookup f_certify_changes = some ⟨oc_certify_changes, od_certify_changes, .func (PySem.W.fnOf "certify_changes" "certify_changes" (defArgs s_certify_changes) (defBody s_certify_changes) (defScope s_certify_changes) .none kV_certify_changes dc_certify_changes pm_certify_changes an_certify_changes cd_certify_changes ct_certify_changes), sl_certify_changes⟩)
  (e_certify_changes : PySem.W.codeIn K cd_certify_changes "certify_changes" = true)
  (k_certify_changes : PySem.W.keepIn K (.ref f_certify_changes) = true)
  (a_check_fixedX : PySem.W.nsIn K mainGlobals "check_fixed" = some (some (.ref f_check_fixedX)))
  (l_check_fixedX : K.lookup f_check_fixedX = some ⟨oc_check_fixedX, od_check_fixedX, .func (PySem.W.fnOf "check_fixed" "check_fixed" (defArgs s_check_fixedX) (defBody s_check_fixedX) (defScope s_check_fixedX) .none kV_check_fixedX dc_check_fixedX pm_check_fixedX an_check_fixedX cd_check_fixedX ct_check_fixedX), sl_check_fixedX⟩)
  (e_check_fixedX : PySem.W.codeIn K cd_check_fixedX "check_fixed" = true)
  (k_check_fixedX : PySem.W.keepIn K (.ref f_check_fixedX) = true)
  (a_plan_or_obstacleX : PySem.W.nsIn K mainGlobals "plan_or_obstacle" = some (some (.ref f_plan_or_obstacleX)))
  (l_plan_or_obstacleX : K.lookup f_plan_or_obstacleX = some ⟨oc_plan_or_obstacleX, od_plan_or_obstacleX, .func (PySem.W.fnOf "plan_or_obstacle" "plan_or_obstacle" (defArgs s_plan_or_obstacleX) (defBody s_plan_or_obstacleX) (defScope s_plan_or_obstacleX) .none kV_plan_or_obstacleX dc_plan_or_obstacleX pm_plan_or_obstacleX an_plan_or_obstacleX cd_plan_or_obstacleX ct_plan_or_obstacleX), sl_plan_or_obstacleX⟩)
  (e_plan_or_obstacleX : PySem.W.codeIn K cd_plan_or_obstacleX "plan_or_obstacle" = true)
  (k_plan_or_obstacleX : PySem.W.keepIn K (.ref f_plan_or_obstacleX) = true)
  (a_certify_fixed : PySem.W.nsIn K mainGlobals "certify_fixed" = some (some (.ref f_certify_fixed)))
  (l_certify_fixed : K.lookup f_certify_fixed = some ⟨oc_certify_fixed, od_certify_fixed, .func (PySem.W.fnOf "certify_fixed" "certify_fixed" (defArgs s_certify_fixed) (defBody s_certify_fixed) (defScope s_certify_fixed) .none kV_certify_fixed dc_certify_fixed pm_certify_fixed an_certify_fixed cd_certify_fixed ct_certify_fixed), sl_certify_fixed⟩)
  (e_certify_fixed : PySem.W.codeIn K cd_certify_fixed "certify_fixed" = true)
  (k_certify_fixed : PySem.W.keepIn K (.ref f_certify_fixed) = true)
  (a_law_other_fields : PySem.W.nsIn K mainGlobals "_law_other_fields" = some (some (.ref f_law_other_fields)))
  (l_law_other_fields : K.lookup f_law_other_fields = some ⟨oc_law_other_fields, od_law_other_fields, .func (PySem.W.fnOf "_law_other_fields" "_law_other_fields" (defArgs s_law_other_fields) (defBody s_law_other_fields) (defScope s_law_other_fields) .none kV_law_other_fields dc_law_other_fields pm_law_other_fields an_law_other_fields cd_law_other_fields ct_law_other_fields), sl_law_other_fields⟩)
  (e_law_other_fields : PySem.W.codeIn K cd_law_other_fields "_law_other_fields" = true)
  (k_law_other_fields : PySem.W.keepIn K (.ref f_law_other_fields) = true)
  (a_law_fields : PySem.W.nsIn K mainGlobals "_law_fields" = some (some (.ref f_law_fields)))
  (l_law_fields : K.lookup f_law_fields = some ⟨oc_law_fields, od_law_fields, .func (PySem.W.fnOf "_law_fields" "_law_fields" (defArgs s_law_fields) (defBody s_law_fields) (defScope s_law_fields) .none kV_law_fields dc_law_fields pm_law_fields an_law_fields cd_law_fields ct_law_fields), sl_law_fields⟩)
  (e_law_fields : PySem.W.codeIn K cd_law_fields "_law_fields" = true)
  (k_law_fields : PySem.W.keepIn K (.ref f_law_fields) = true)
  (a_law_kind : PySem.W.nsIn K mainGlobals "_law_kind" = some (some (.ref f_law_kind)))
  (l_law_kind : K.lookup f_law_kind = some ⟨oc_law_kind, od_law_kind, .func (PySem.W.fnOf "_law_kind" "_law_kind" (defArgs s_law_kind) (defBody s_law_kind) (defScope s_law_kind) .none kV_law_kind dc_law_kind pm_law_kind an_law_kind cd_law_kind ct_law_kind), sl_law_kind⟩)
  (e_law_kind : PySem.W.codeIn K cd_law_kind "_law_kind" = true)
  (k_law_kind : PySem.W.keepIn K (.ref f_law_kind) = true)
  (a_law_caught : PySem.W.nsIn K mainGlobals "_law_caught" = some (some (.ref f_law_caught)))
  (l_law_caught : K.lookup f_law_caught = some ⟨oc_law_caught, od_law_caught, .func (PySem.W.fnOf "_law_caught" "_law_caught" (defArgs s_law_caught) (defBody s_law_caught) (defScope s_law_caught) .none kV_law_caught dc_law_caught pm_law_caught an_law_caught cd_law_caught ct_law_caught), sl_law_caught⟩)
  (e_law_caught : PySem.W.codeIn K cd_law_caught "_law_caught" = true)
  (k_law_caught : PySem.W.keepIn K (.ref f_law_caught) = true)
  (a_law_rows_of_plans : PySem.W.nsIn K mainGlobals "_law_rows_of_plans" = some (some (.ref f_law_rows_of_plans)))
  (l_law_rows_of_plans : K.lookup f_law_rows_of_plans = some ⟨oc_law_rows_of_plans, od_law_rows_of_plans, .func (PySem.W.fnOf "_law_rows_of_plans" "_law_rows_of_plans" (defArgs s_law_rows_of_plans) (defBody s_law_rows_of_plans) (defScope s_law_rows_of_plans) .none kV_law_rows_of_plans dc_law_rows_of_plans pm_law_rows_of_plans an_law_rows_of_plans (.ref cT) ct_law_rows_of_plans), sl_law_rows_of_plans⟩)
  (e_law_rows_of_plans : PySem.W.codeIn K (.ref cT) "_law_rows_of_plans" = true)
  (k_law_rows_of_plans : PySem.W.keepIn K (.ref f_law_rows_of_plans) = true)
  (z3 : K.lookup cT = some ⟨.type "code", oCT, .fields cvT, slCT⟩)
  (z4 : (cvT[11]? : Option Value) = some (.ref tT))
  (z5 : PySem.W.codeHdIn K cT tT = true)
  (z6 : K.lookup tT = none)
  (a_law_rows_of_seats : PySem.W.nsIn K mainGlobals "_law_rows_of_seats" = some (some (.ref f_law_rows_of_seats)))
  (l_law_rows_of_seats : K.lookup f_law_rows_of_seats = some ⟨oc_law_rows_of_seats, od_law_rows_of_seats, .func (PySem.W.fnOf "_law_rows_of_seats" "_law_rows_of_seats" (defArgs s_law_rows_of_seats) (defBody s_law_rows_of_seats) (defScope s_law_rows_of_seats) .none kV_law_rows_of_seats dc_law_rows_of_seats pm_law_rows_of_seats an_law_rows_of_seats (.ref cT3) ct_law_rows_of_seats), sl_law_rows_of_seats⟩)
  (e_law_rows_of_seats : PySem.W.codeIn K (.ref cT3) "_law_rows_of_seats" = true)
  (k_law_rows_of_seats : PySem.W.keepIn K (.ref f_law_rows_of_seats) = true)
  (z33 : K.lookup cT3 = some ⟨.type "code", oCT3, .fields cvT3, slCT3⟩)
  (z43 : (cvT3[11]? : Option Value) = some (.ref tT3))
  (z53 : PySem.W.codeHdIn K cT3 tT3 = true)
  (z63 : K.lookup tT3 = none)
  (a_law_right84 : PySem.W.nsIn K mainGlobals "_law_right" = some (some (.ref f_law_right84)))
  (l_law_right84 : K.lookup f_law_right84 = some ⟨oc_law_right84, od_law_right84, .func (PySem.W.fnOf "_law_right" "_law_right" (defArgs s_law_right84) (defBody s_law_right84) (defScope s_law_right84) .none kV_law_right84 dc_law_right84 pm_law_right84 an_law_right84 cd_law_right84 ct_law_right84), sl_law_right84⟩)
  (e_law_right84 : PySem.W.codeIn K cd_law_right84 "_law_right" = true)
  (k_law_right84 : PySem.W.keepIn K (.ref f_law_right84) = true)
  (a_law84 : PySem.W.nsIn K mainGlobals "law" = some (some (.ref f_law84)))
  (l_law84 : K.lookup f_law84 = some ⟨oc_law84, od_law84, .func (PySem.W.fnOf "law" "law" (defArgs s_law84) (defBody s_law84) (defScope s_law84) .none kV_law84 dc_law84 pm_law84 an_law84 cd_law84 ct_law84), sl_law84⟩)
  (e_law84 : PySem.W.codeIn K cd_law84 "law" = true)
  (k_law84 : PySem.W.keepIn K (.ref f_law84) = true)
  (b_ArithmeticError : PySem.W.nsIn K mainGlobals "ArithmeticError" = some none)
  (v_LETTERS : PySem.W.nsIn K mainGlobals "LETTERS" = some (some (.str ("abcdefghijklmnopqrstuvwxyz" : Str) tv_LETTERS)))
  (v_LONGEST_NAME : PySem.W.nsIn K mainGlobals "LONGEST_NAME" = some (some (.int 8 tv_LONGEST_NAME)))
  (b_LookupError : PySem.W.nsIn K mainGlobals "LookupError" = some none)
  (v_MAX_SEATS : PySem.W.nsIn K mainGlobals "MAX_SEATS" = some (some (.int 20 tv_MAX_SEATS)))
  (v_MAX_TRIPS : PySem.W.nsIn K mainGlobals "MAX_TRIPS" = some (some (.int 24 tv_MAX_TRIPS)))
  (b_ValueError : PySem.W.nsIn K mainGlobals "ValueError" = some none)
  (b_abs : PySem.W.nsIn K mainGlobals "abs" = some none)
  (b_all : PySem.W.nsIn K mainGlobals "all" = some none)
  (b_bool : PySem.W.nsIn K mainGlobals "bool" = some none)
  (b_divmod : PySem.W.nsIn K mainGlobals "divmod" = some none)
  (b_enumerate : PySem.W.nsIn K mainGlobals "enumerate" = some none)
  (b_int : PySem.W.nsIn K mainGlobals "int" = some none)
  (b_isinstance : PySem.W.nsIn K mainGlobals "isinstance" = some none)
  (b_len : PySem.W.nsIn K mainGlobals "len" = some none)
  (b_list : PySem.W.nsIn K mainGlobals "list" = some none)
  (b_max : PySem.W.nsIn K mainGlobals "max" = some none)
  (b_min : PySem.W.nsIn K mainGlobals "min" = some none)
  (b_range : PySem.W.nsIn K mainGlobals "range" = some none)
  (b_repr : PySem.W.nsIn K mainGlobals "repr" = some none)
  (b_sorted : PySem.W.nsIn K mainGlobals "sorted" = some none)
  (b_str : PySem.W.nsIn K mainGlobals "str" = some none)
  (b_super : PySem.W.nsIn K mainGlobals "super" = some none)
  (b_tuple : PySem.W.nsIn K mainGlobals "tuple" = some none)
  (b_zip : PySem.W.nsIn K mainGlobals "zip" = some none)
  (htT : h.get? tT = some (PySem.W.tabObj #[]))
  (htT3 : h.get? tT3 = some (PySem.W.tabObj #[]))
  (tq01 : (tL == tT) = false)
  (tq02 : (tL == tT3) = false)
  (tq12 : (tT == tT3) = false)
  (nl : NoList K = true)
  (ht : h.get? tL = some (PySem.W.tabObj #[]))
  : LawG l w K 17 63 "_law_script" mg fa h := by
 have e := hfa.symm.trans (PySem.W.mg_of X G a_law84)
 obtain rfl : fa = f_law84 := Value.ref.inj (Option.some.inj e)
 let a : Ad := {
  CLine := CLine,
  cL := cL,
  tL := tL,
  eL := eL,
  qT := qT,
  qC := qC,
  pS := CLine,
  mL := .none,
  cT := cT,
  tT := tT,
  cT3 := cT3,
  tT3 := tT3,
  XC := fun x => ([(("Busy" : Str), C_Busy), (("Full" : Str), C_Full), (("InvalidAction" : Str), C_InvalidAction), (("InvalidCommand" : Str), C_InvalidCommand), (("InvalidExchange" : Str), C_InvalidExchange), (("InvalidFixed" : Str), C_InvalidFixed), (("InvalidName" : Str), C_InvalidName), (("InvalidNumber" : Str), C_InvalidNumber), (("InvalidPlan" : Str), C_InvalidPlan), (("InvalidSeat" : Str), C_InvalidSeat), (("InvalidSeats" : Str), C_InvalidSeats), (("InvalidStation" : Str), C_InvalidStation), (("InvalidText" : Str), C_InvalidText), (("InvalidTrips" : Str), C_InvalidTrips), (("NameTaken" : Str), C_NameTaken), (("NotALine" : Str), C_NotALine), (("NotFree" : Str), C_NotFree), (("NothingToUndo" : Str), C_NothingToUndo), (("Overfull" : Str), C_Overfull), (("SeatError" : Str), C_SeatError), (("SizeError" : Str), C_SizeError), (("StateError" : Str), C_StateError), (("TooManyEntries" : Str), C_TooManyEntries), (("TooManyPlans" : Str), C_TooManyPlans), (("TooManyTrips" : Str), C_TooManyTrips)].lookup x).getD CLine,
  f_law_cell := f_law_cell,
  d_law_cell := PySem.W.fnOf "_law_cell" "_law_cell" (defArgs s_law_cell) (defBody s_law_cell) (defScope s_law_cell) .none kV_law_cell dc_law_cell pm_law_cell an_law_cell cd_law_cell ct_law_cell,
  f_law_pool := f_law_pool,
  d_law_pool := PySem.W.fnOf "_law_pool" "_law_pool" (defArgs s_law_pool) (defBody s_law_pool) (defScope s_law_pool) .none kV_law_pool dc_law_pool pm_law_pool an_law_pool cd_law_pool ct_law_pool,
  f_is_integer := f_is_integer,
  d_is_integer := PySem.W.fnOf "is_integer" "is_integer" (defArgs s_is_integer) (defBody s_is_integer) (defScope s_is_integer) .none kV_is_integer dc_is_integer pm_is_integer an_is_integer cd_is_integer ct_is_integer,
  f_check_seats := f_check_seats,
  d_check_seats := PySem.W.fnOf "check_seats" "check_seats" (defArgs s_check_seats) (defBody s_check_seats) (defScope s_check_seats) .none kV_check_seats dc_check_seats pm_check_seats an_check_seats cd_check_seats ct_check_seats,
  f_is_later := f_is_later,
  d_is_later := PySem.W.fnOf "is_later" "is_later" (defArgs s_is_later) (defBody s_is_later) (defScope s_is_later) .none kV_is_later dc_is_later pm_is_later an_is_later cd_is_later ct_is_later,
  f_is_station := f_is_station,
  d_is_station := PySem.W.fnOf "is_station" "is_station" (defArgs s_is_station) (defBody s_is_station) (defScope s_is_station) .none kV_is_station dc_is_station pm_is_station an_is_station cd_is_station ct_is_station,
  f_is_trip_name := f_is_trip_name,
  d_is_trip_name := PySem.W.fnOf "is_trip_name" "is_trip_name" (defArgs s_is_trip_name) (defBody s_is_trip_name) (defScope s_is_trip_name) .none kV_is_trip_name dc_is_trip_name pm_is_trip_name an_is_trip_name cd_is_trip_name ct_is_trip_name,
  f_is_trip := f_is_trip,
  d_is_trip := PySem.W.fnOf "is_trip" "is_trip" (defArgs s_is_trip) (defBody s_is_trip) (defScope s_is_trip) .none kV_is_trip dc_is_trip pm_is_trip an_is_trip cd_is_trip ct_is_trip,
  f_valid_beginning := f_valid_beginning,
  d_valid_beginning := PySem.W.fnOf "valid_beginning" "valid_beginning" (defArgs s_valid_beginning) (defBody s_valid_beginning) (defScope s_valid_beginning) .none kV_valid_beginning dc_valid_beginning pm_valid_beginning an_valid_beginning cd_valid_beginning ct_valid_beginning,
  f_Line_init := f_Line_init,
  d_Line_init := PySem.W.fnOf "__init__" "Line.__init__" (defArgs s_Line_init) (defBody s_Line_init) (defScope s_Line_init) (.ref TD) kV_Line_init dc_Line_init pm_Line_init an_Line_init (.ref cL) ct_Line_init,
  f_Line_len := f_Line_len,
  d_Line_len := PySem.W.fnOf "__len__" "Line.__len__" (defArgs s_Line_len) (defBody s_Line_len) (defScope s_Line_len) .none kV_Line_len dc_Line_len pm_Line_len an_Line_len cd_Line_len ct_Line_len,
  f_Line_eq := f_Line_eq,
  d_Line_eq := PySem.W.fnOf "__eq__" "Line.__eq__" (defArgs s_Line_eq) (defBody s_Line_eq) (defScope s_Line_eq) .none kV_Line_eq dc_Line_eq pm_Line_eq an_Line_eq cd_Line_eq ct_Line_eq,
  f_Line_str := f_Line_str,
  d_Line_str := PySem.W.fnOf "__str__" "Line.__str__" (defArgs s_Line_str) (defBody s_Line_str) (defScope s_Line_str) .none kV_Line_str dc_Line_str pm_Line_str an_Line_str cd_Line_str ct_Line_str,
  f_Line_repr := f_Line_repr,
  d_Line_repr := PySem.W.fnOf "__repr__" "Line.__repr__" (defArgs s_Line_repr) (defBody s_Line_repr) (defScope s_Line_repr) .none kV_Line_repr dc_Line_repr pm_Line_repr an_Line_repr cd_Line_repr ct_Line_repr,
  f_Line_trips := f_Line_trips,
  d_Line_trips := PySem.W.fnOf "trips" "Line.trips" (defArgs s_Line_trips) (defBody s_Line_trips) (defScope s_Line_trips) .none kV_Line_trips dc_Line_trips pm_Line_trips an_Line_trips cd_Line_trips ct_Line_trips,
  f_law_draw := f_law_draw,
  d_law_draw := PySem.W.fnOf "_law_draw" "_law_draw" (defArgs s_law_draw) (defBody s_law_draw) (defScope s_law_draw) .none kV_law_draw dc_law_draw pm_law_draw an_law_draw cd_law_draw ct_law_draw,
  f_law_bad_plan := f_law_bad_plan,
  d_law_bad_plan := PySem.W.fnOf "_law_bad_plan" "_law_bad_plan" (defArgs s_law_bad_plan) (defBody s_law_bad_plan) (defScope s_law_bad_plan) .none kV_law_bad_plan dc_law_bad_plan pm_law_bad_plan an_law_bad_plan cd_law_bad_plan ct_law_bad_plan,
  f_check_lineX := f_check_lineX,
  d_check_lineX := PySem.W.fnOf "check_line" "check_line" (defArgs s_check_lineX) (defBody s_check_lineX) (defScope s_check_lineX) .none kV_check_lineX dc_check_lineX pm_check_lineX an_check_lineX cd_check_lineX ct_check_lineX,
  f_Line_capacity := f_Line_capacity,
  d_Line_capacity := PySem.W.fnOf "capacity" "Line.capacity" (defArgs s_Line_capacity) (defBody s_Line_capacity) (defScope s_Line_capacity) .none kV_Line_capacity dc_Line_capacity pm_Line_capacity an_Line_capacity cd_Line_capacity ct_Line_capacity,
  f_is_pair := f_is_pair,
  d_is_pair := PySem.W.fnOf "is_pair" "is_pair" (defArgs s_is_pair) (defBody s_is_pair) (defScope s_is_pair) .none kV_is_pair dc_is_pair pm_is_pair an_is_pair cd_is_pair ct_is_pair,
  f_is_seat := f_is_seat,
  d_is_seat := PySem.W.fnOf "is_seat" "is_seat" (defArgs s_is_seat) (defBody s_is_seat) (defScope s_is_seat) .none kV_is_seat dc_is_seat pm_is_seat an_is_seat cd_is_seat ct_is_seat,
  f_trip_named := f_trip_named,
  d_trip_named := PySem.W.fnOf "trip_named" "trip_named" (defArgs s_trip_named) (defBody s_trip_named) (defScope s_trip_named) .none kV_trip_named dc_trip_named pm_trip_named an_trip_named cd_trip_named ct_trip_named,
  f_names_trip_and_seat := f_names_trip_and_seat,
  d_names_trip_and_seat := PySem.W.fnOf "names_trip_and_seat" "names_trip_and_seat" (defArgs s_names_trip_and_seat) (defBody s_names_trip_and_seat) (defScope s_names_trip_and_seat) .none kV_names_trip_and_seat dc_names_trip_and_seat pm_names_trip_and_seat an_names_trip_and_seat cd_names_trip_and_seat ct_names_trip_and_seat,
  f_meet := f_meet,
  d_meet := PySem.W.fnOf "meet" "meet" (defArgs s_meet) (defBody s_meet) (defScope s_meet) .none kV_meet dc_meet pm_meet an_meet cd_meet ct_meet,
  f_seats_left := f_seats_left,
  d_seats_left := PySem.W.fnOf "seats_left" "seats_left" (defArgs s_seats_left) (defBody s_seats_left) (defScope s_seats_left) .none kV_seats_left dc_seats_left pm_seats_left an_seats_left cd_seats_left ct_seats_left,
  f_valid_pairs := f_valid_pairs,
  d_valid_pairs := PySem.W.fnOf "valid_pairs" "valid_pairs" (defArgs s_valid_pairs) (defBody s_valid_pairs) (defScope s_valid_pairs) .none kV_valid_pairs dc_valid_pairs pm_valid_pairs an_valid_pairs cd_valid_pairs ct_valid_pairs,
  f_check_planX := f_check_planX,
  d_check_planX := PySem.W.fnOf "check_plan" "check_plan" (defArgs s_check_planX) (defBody s_check_planX) (defScope s_check_planX) .none kV_check_planX dc_check_planX pm_check_planX an_check_planX cd_check_planX ct_check_planX,
  f_number_ofX := f_number_ofX,
  d_number_ofX := PySem.W.fnOf "number_of" "number_of" (defArgs s_number_ofX) (defBody s_number_ofX) (defScope s_number_ofX) .none kV_number_ofX dc_number_ofX pm_number_ofX an_number_ofX cd_number_ofX ct_number_ofX,
  f_certify_number := f_certify_number,
  d_certify_number := PySem.W.fnOf "certify_number" "certify_number" (defArgs s_certify_number) (defBody s_certify_number) (defScope s_certify_number) .none kV_certify_number dc_certify_number pm_certify_number an_certify_number cd_certify_number ct_certify_number,
  f_overfullX := f_overfullX,
  d_overfullX := PySem.W.fnOf "overfull" "overfull" (defArgs s_overfullX) (defBody s_overfullX) (defScope s_overfullX) .none kV_overfullX dc_overfullX pm_overfullX an_overfullX cd_overfullX ct_overfullX,
  f_certify_plan := f_certify_plan,
  d_certify_plan := PySem.W.fnOf "certify_plan" "certify_plan" (defArgs s_certify_plan) (defBody s_certify_plan) (defScope s_certify_plan) .none kV_certify_plan dc_certify_plan pm_certify_plan an_certify_plan cd_certify_plan ct_certify_plan,
  f_check_bothX := f_check_bothX,
  d_check_bothX := PySem.W.fnOf "check_both" "check_both" (defArgs s_check_bothX) (defBody s_check_bothX) (defScope s_check_bothX) .none kV_check_bothX dc_check_bothX pm_check_bothX an_check_bothX cd_check_bothX ct_check_bothX,
  f_routeX := f_routeX,
  d_routeX := PySem.W.fnOf "route" "route" (defArgs s_routeX) (defBody s_routeX) (defScope s_routeX) .none kV_routeX dc_routeX pm_routeX an_routeX cd_routeX ct_routeX,
  f_certify_route := f_certify_route,
  d_certify_route := PySem.W.fnOf "certify_route" "certify_route" (defArgs s_certify_route) (defBody s_certify_route) (defScope s_certify_route) .none kV_certify_route dc_certify_route pm_certify_route an_certify_route cd_certify_route ct_certify_route,
  f_law_bad_fixed := f_law_bad_fixed,
  d_law_bad_fixed := PySem.W.fnOf "_law_bad_fixed" "_law_bad_fixed" (defArgs s_law_bad_fixed) (defBody s_law_bad_fixed) (defScope s_law_bad_fixed) .none kV_law_bad_fixed dc_law_bad_fixed pm_law_bad_fixed an_law_bad_fixed cd_law_bad_fixed ct_law_bad_fixed,
  f_check_stationsX := f_check_stationsX,
  d_check_stationsX := PySem.W.fnOf "check_stations" "check_stations" (defArgs s_check_stationsX) (defBody s_check_stationsX) (defScope s_check_stationsX) .none kV_check_stationsX dc_check_stationsX pm_check_stationsX an_check_stationsX cd_check_stationsX ct_check_stationsX,
  f_itineraryX := f_itineraryX,
  d_itineraryX := PySem.W.fnOf "itinerary" "itinerary" (defArgs s_itineraryX) (defBody s_itineraryX) (defScope s_itineraryX) .none kV_itineraryX dc_itineraryX pm_itineraryX an_itineraryX cd_itineraryX ct_itineraryX,
  f_certify_changes := f_certify_changes,
  d_certify_changes := PySem.W.fnOf "certify_changes" "certify_changes" (defArgs s_certify_changes) (defBody s_certify_changes) (defScope s_certify_changes) .none kV_certify_changes dc_certify_changes pm_certify_changes an_certify_changes cd_certify_changes ct_certify_changes,
  f_check_fixedX := f_check_fixedX,
  d_check_fixedX := PySem.W.fnOf "check_fixed" "check_fixed" (defArgs s_check_fixedX) (defBody s_check_fixedX) (defScope s_check_fixedX) .none kV_check_fixedX dc_check_fixedX pm_check_fixedX an_check_fixedX cd_check_fixedX ct_check_fixedX,
  f_plan_or_obstacleX := f_plan_or_obstacleX,
  d_plan_or_obstacleX := PySem.W.fnOf "plan_or_obstacle" "plan_or_obstacle" (defArgs s_plan_or_obstacleX) (defBody s_plan_or_obstacleX) (defScope s_plan_or_obstacleX) .none kV_plan_or_obstacleX dc_plan_or_obstacleX pm_plan_or_obstacleX an_plan_or_obstacleX cd_plan_or_obstacleX ct_plan_or_obstacleX,
  f_certify_fixed := f_certify_fixed,
  d_certify_fixed := PySem.W.fnOf "certify_fixed" "certify_fixed" (defArgs s_certify_fixed) (defBody s_certify_fixed) (defScope s_certify_fixed) .none kV_certify_fixed dc_certify_fixed pm_certify_fixed an_certify_fixed cd_certify_fixed ct_certify_fixed,
  f_law_other_fields := f_law_other_fields,
  d_law_other_fields := PySem.W.fnOf "_law_other_fields" "_law_other_fields" (defArgs s_law_other_fields) (defBody s_law_other_fields) (defScope s_law_other_fields) .none kV_law_other_fields dc_law_other_fields pm_law_other_fields an_law_other_fields cd_law_other_fields ct_law_other_fields,
  f_law_fields := f_law_fields,
  d_law_fields := PySem.W.fnOf "_law_fields" "_law_fields" (defArgs s_law_fields) (defBody s_law_fields) (defScope s_law_fields) .none kV_law_fields dc_law_fields pm_law_fields an_law_fields cd_law_fields ct_law_fields,
  f_law_kind := f_law_kind,
  d_law_kind := PySem.W.fnOf "_law_kind" "_law_kind" (defArgs s_law_kind) (defBody s_law_kind) (defScope s_law_kind) .none kV_law_kind dc_law_kind pm_law_kind an_law_kind cd_law_kind ct_law_kind,
  f_law_caught := f_law_caught,
  d_law_caught := PySem.W.fnOf "_law_caught" "_law_caught" (defArgs s_law_caught) (defBody s_law_caught) (defScope s_law_caught) .none kV_law_caught dc_law_caught pm_law_caught an_law_caught cd_law_caught ct_law_caught,
  f_law_rows_of_plans := f_law_rows_of_plans,
  d_law_rows_of_plans := PySem.W.fnOf "_law_rows_of_plans" "_law_rows_of_plans" (defArgs s_law_rows_of_plans) (defBody s_law_rows_of_plans) (defScope s_law_rows_of_plans) .none kV_law_rows_of_plans dc_law_rows_of_plans pm_law_rows_of_plans an_law_rows_of_plans (.ref cT) ct_law_rows_of_plans,
  f_law_rows_of_seats := f_law_rows_of_seats,
  d_law_rows_of_seats := PySem.W.fnOf "_law_rows_of_seats" "_law_rows_of_seats" (defArgs s_law_rows_of_seats) (defBody s_law_rows_of_seats) (defScope s_law_rows_of_seats) .none kV_law_rows_of_seats dc_law_rows_of_seats pm_law_rows_of_seats an_law_rows_of_seats (.ref cT3) ct_law_rows_of_seats,
  f_law_right84 := f_law_right84,
  d_law_right84 := PySem.W.fnOf "_law_right" "_law_right" (defArgs s_law_right84) (defBody s_law_right84) (defScope s_law_right84) .none kV_law_right84 dc_law_right84 pm_law_right84 an_law_right84 cd_law_right84 ct_law_right84,
  f_law84 := fa,
  d_law84 := PySem.W.fnOf "law" "law" (defArgs s_law84) (defBody s_law84) (defScope s_law84) .none kV_law84 dc_law84 pm_law84 an_law84 cd_law84 ct_law84 }
 have t : Tx l.prog w K mg a := {
  cl := ⟨c1, c2, c3, c4⟩,
  clt := ⟨⟨c1, c2, c3, c4⟩, t1, t2, t3, t4, t5, (fun n hn => by rcases List.mem_cons.mp hn with rfl | hn; exact ty0; rcases List.mem_cons.mp hn with rfl | hn; exact ty1; rcases List.mem_cons.mp hn with rfl | hn; exact ty2; rcases List.mem_cons.mp hn with rfl | hn; exact ty3; rcases List.mem_cons.mp hn with rfl | hn; exact ty4; rcases List.mem_cons.mp hn with rfl | hn; exact ty5; cases hn), (fun n hn => by rcases List.mem_cons.mp hn with rfl | hn; exact no0; rcases List.mem_cons.mp hn with rfl | hn; exact no1; rcases List.mem_cons.mp hn with rfl | hn; exact no2; rcases List.mem_cons.mp hn with rfl | hn; exact no3; rcases List.mem_cons.mp hn with rfl | hn; exact no4; rcases List.mem_cons.mp hn with rfl | hn; exact no5; rcases List.mem_cons.mp hn with rfl | hn; exact no6; cases hn)⟩,
  g_Line := PySem.W.mg_of X G hC,
  mkL := ⟨m1, m2, m3, m4⟩,
  p_capacity := ⟨u1, u2, u3, ⟨_, u4⟩⟩,
  rp := rp,
  rpf := rpf,
  ow := { t := ⟨⟨c1, c2, c3, c4⟩, t1, t2, t3, t4, t5, (fun n hn => by rcases List.mem_cons.mp hn with rfl | hn; exact ty0; rcases List.mem_cons.mp hn with rfl | hn; exact ty1; rcases List.mem_cons.mp hn with rfl | hn; exact ty2; rcases List.mem_cons.mp hn with rfl | hn; exact ty3; rcases List.mem_cons.mp hn with rfl | hn; exact ty4; rcases List.mem_cons.mp hn with rfl | hn; exact ty5; cases hn), (fun n hn => by rcases List.mem_cons.mp hn with rfl | hn; exact no0; rcases List.mem_cons.mp hn with rfl | hn; exact no1; rcases List.mem_cons.mp hn with rfl | hn; exact no2; rcases List.mem_cons.mp hn with rfl | hn; exact no3; rcases List.mem_cons.mp hn with rfl | hn; exact no4; rcases List.mem_cons.mp hn with rfl | hn; exact no5; rcases List.mem_cons.mp hn with rfl | hn; exact no6; cases hn)⟩, eq := x1, eqf := x1f, ne := x4, len := x2, lenf := x2f, bool := x5, str := x3, strf := x3f, nf := (fun n hn => by rcases List.mem_cons.mp hn with rfl | hn; exact nf0; rcases List.mem_cons.mp hn with rfl | hn; exact nf1; rcases List.mem_cons.mp hn with rfl | hn; exact nf2; rcases List.mem_cons.mp hn with rfl | hn; exact nf3; rcases List.mem_cons.mp hn with rfl | hn; exact nf4; rcases List.mem_cons.mp hn with rfl | hn; exact nf5; rcases List.mem_cons.mp hn with rfl | hn; exact nf6; cases hn) },
  p_trips := ⟨q1, q2, q3, ⟨_, q4⟩⟩,
  n_seat_count := n_seat_count,
  n_rows := n_rows,
  n_queue := n_queue,
  g_Busy := PySem.W.mg_of X G xg_Busy,
  g_Full := PySem.W.mg_of X G xg_Full,
  g_InvalidAction := PySem.W.mg_of X G xg_InvalidAction,
  g_InvalidCommand := PySem.W.mg_of X G xg_InvalidCommand,
  g_InvalidExchange := PySem.W.mg_of X G xg_InvalidExchange,
  g_InvalidFixed := PySem.W.mg_of X G xg_InvalidFixed,
  g_InvalidName := PySem.W.mg_of X G xg_InvalidName,
  g_InvalidNumber := PySem.W.mg_of X G xg_InvalidNumber,
  g_InvalidPlan := PySem.W.mg_of X G xg_InvalidPlan,
  g_InvalidSeat := PySem.W.mg_of X G xg_InvalidSeat,
  g_InvalidSeats := PySem.W.mg_of X G xg_InvalidSeats,
  g_InvalidStation := PySem.W.mg_of X G xg_InvalidStation,
  g_InvalidText := PySem.W.mg_of X G xg_InvalidText,
  g_InvalidTrips := PySem.W.mg_of X G xg_InvalidTrips,
  g_NameTaken := PySem.W.mg_of X G xg_NameTaken,
  g_NotALine := PySem.W.mg_of X G xg_NotALine,
  g_NotFree := PySem.W.mg_of X G xg_NotFree,
  g_NothingToUndo := PySem.W.mg_of X G xg_NothingToUndo,
  g_Overfull := PySem.W.mg_of X G xg_Overfull,
  g_SeatError := PySem.W.mg_of X G xg_SeatError,
  g_SizeError := PySem.W.mg_of X G xg_SizeError,
  g_StateError := PySem.W.mg_of X G xg_StateError,
  g_TooManyEntries := PySem.W.mg_of X G xg_TooManyEntries,
  g_TooManyPlans := PySem.W.mg_of X G xg_TooManyPlans,
  g_TooManyTrips := PySem.W.mg_of X G xg_TooManyTrips,
  xa_InvalidFixed := xAll_of baseV xt_InvalidFixed (PySem.W.mg_of X G xg_InvalidFixed) xi_InvalidFixed xl_InvalidFixed xc_InvalidFixed xd_InvalidFixed xv_InvalidFixed xf_InvalidFixed xtp_InvalidFixed xB_InvalidFixed,
  xa_InvalidPlan := xAll_of baseV xt_InvalidPlan (PySem.W.mg_of X G xg_InvalidPlan) xi_InvalidPlan xl_InvalidPlan xc_InvalidPlan xd_InvalidPlan xv_InvalidPlan xf_InvalidPlan xtp_InvalidPlan xB_InvalidPlan,
  xa_InvalidStation := xAll_of baseV xt_InvalidStation (PySem.W.mg_of X G xg_InvalidStation) xi_InvalidStation xl_InvalidStation xc_InvalidStation xd_InvalidStation xv_InvalidStation xf_InvalidStation xtp_InvalidStation xB_InvalidStation,
  xa_NotALine := xAll_of baseV xt_NotALine (PySem.W.mg_of X G xg_NotALine) xi_NotALine xl_NotALine xc_NotALine xd_NotALine xv_NotALine xf_NotALine xtp_NotALine xB_NotALine,
  F_law_cell := fun_mk l_law_cell e_law_cell k_law_cell,
  g__law_cell := PySem.W.mg_of X G a_law_cell,
  k__law_cell := k_law_cell,
  F_law_pool := fun_mk l_law_pool e_law_pool k_law_pool,
  g__law_pool := PySem.W.mg_of X G a_law_pool,
  k__law_pool := k_law_pool,
  F_is_integer := fun_mk l_is_integer e_is_integer k_is_integer,
  g_is_integer := PySem.W.mg_of X G a_is_integer,
  k_is_integer := k_is_integer,
  F_check_seats := fun_mk l_check_seats e_check_seats k_check_seats,
  g_check_seats := PySem.W.mg_of X G a_check_seats,
  k_check_seats := k_check_seats,
  F_is_later := fun_mk l_is_later e_is_later k_is_later,
  g_is_later := PySem.W.mg_of X G a_is_later,
  k_is_later := k_is_later,
  F_is_station := fun_mk l_is_station e_is_station k_is_station,
  g_is_station := PySem.W.mg_of X G a_is_station,
  k_is_station := k_is_station,
  F_is_trip_name := fun_mk l_is_trip_name e_is_trip_name k_is_trip_name,
  g_is_trip_name := PySem.W.mg_of X G a_is_trip_name,
  k_is_trip_name := k_is_trip_name,
  F_is_trip := fun_mk l_is_trip e_is_trip k_is_trip,
  g_is_trip := PySem.W.mg_of X G a_is_trip,
  k_is_trip := k_is_trip,
  F_valid_beginning := fun_mk l_valid_beginning e_valid_beginning k_valid_beginning,
  g_valid_beginning := PySem.W.mg_of X G a_valid_beginning,
  k_valid_beginning := k_valid_beginning,
  F_Line_init := ⟨⟨oc_Line_init, od_Line_init, .ref TD, kV_Line_init, dc_Line_init, pm_Line_init, an_Line_init, ct_Line_init, sl_Line_init, rfl, l_Line_init, e_Line_init, .inr ⟨by simp, TD, _, [.ref eL], _, rfl, w1, rfl, .cons rfl .nil⟩⟩, k_Line_init⟩,
  dfl := by
   intro O H
   unfold Reps
   refine ⟨.ref eL, [], rfl, ?_, by unfold Reps; rfl⟩
   unfold Rep
   exact ⟨eL, [], rfl, .inr ⟨_, #[], nEL, w2, rfl, rfl, by decide, .nil⟩, by unfold Reps; rfl⟩,
  F_Line_len := fun_mk l_Line_len e_Line_len k_Line_len,
  F_Line_eq := fun_mk l_Line_eq e_Line_eq k_Line_eq,
  F_Line_str := fun_mk l_Line_str e_Line_str k_Line_str,
  F_Line_repr := fun_mk l_Line_repr e_Line_repr k_Line_repr,
  F_Line_trips := fun_mk l_Line_trips e_Line_trips k_Line_trips,
  F_law_draw := fun_mk l_law_draw e_law_draw k_law_draw,
  g__law_draw := PySem.W.mg_of X G a_law_draw,
  k__law_draw := k_law_draw,
  F_law_bad_plan := fun_mk l_law_bad_plan e_law_bad_plan k_law_bad_plan,
  g__law_bad_plan := PySem.W.mg_of X G a_law_bad_plan,
  k__law_bad_plan := k_law_bad_plan,
  F_check_lineX := fun_mk l_check_lineX e_check_lineX k_check_lineX,
  g_check_line := PySem.W.mg_of X G a_check_lineX,
  k_check_line := k_check_lineX,
  F_Line_capacity := fun_mk l_Line_capacity e_Line_capacity k_Line_capacity,
  F_is_pair := fun_mk l_is_pair e_is_pair k_is_pair,
  g_is_pair := PySem.W.mg_of X G a_is_pair,
  k_is_pair := k_is_pair,
  F_is_seat := fun_mk l_is_seat e_is_seat k_is_seat,
  g_is_seat := PySem.W.mg_of X G a_is_seat,
  k_is_seat := k_is_seat,
  F_trip_named := fun_mk l_trip_named e_trip_named k_trip_named,
  g_trip_named := PySem.W.mg_of X G a_trip_named,
  k_trip_named := k_trip_named,
  F_names_trip_and_seat := fun_mk l_names_trip_and_seat e_names_trip_and_seat k_names_trip_and_seat,
  g_names_trip_and_seat := PySem.W.mg_of X G a_names_trip_and_seat,
  k_names_trip_and_seat := k_names_trip_and_seat,
  F_meet := fun_mk l_meet e_meet k_meet,
  g_meet := PySem.W.mg_of X G a_meet,
  k_meet := k_meet,
  F_seats_left := fun_mk l_seats_left e_seats_left k_seats_left,
  g_seats_left := PySem.W.mg_of X G a_seats_left,
  k_seats_left := k_seats_left,
  F_valid_pairs := fun_mk l_valid_pairs e_valid_pairs k_valid_pairs,
  g_valid_pairs := PySem.W.mg_of X G a_valid_pairs,
  k_valid_pairs := k_valid_pairs,
  F_check_planX := fun_mk l_check_planX e_check_planX k_check_planX,
  g_check_plan := PySem.W.mg_of X G a_check_planX,
  k_check_plan := k_check_planX,
  F_number_ofX := fun_mk l_number_ofX e_number_ofX k_number_ofX,
  g_number_of := PySem.W.mg_of X G a_number_ofX,
  k_number_of := k_number_ofX,
  F_certify_number := fun_mk l_certify_number e_certify_number k_certify_number,
  g_certify_number := PySem.W.mg_of X G a_certify_number,
  k_certify_number := k_certify_number,
  F_overfullX := fun_mk l_overfullX e_overfullX k_overfullX,
  g_overfull := PySem.W.mg_of X G a_overfullX,
  k_overfull := k_overfullX,
  F_certify_plan := fun_mk l_certify_plan e_certify_plan k_certify_plan,
  g_certify_plan := PySem.W.mg_of X G a_certify_plan,
  k_certify_plan := k_certify_plan,
  F_check_bothX := fun_mk l_check_bothX e_check_bothX k_check_bothX,
  g_check_both := PySem.W.mg_of X G a_check_bothX,
  k_check_both := k_check_bothX,
  F_routeX := fun_mk l_routeX e_routeX k_routeX,
  g_route := PySem.W.mg_of X G a_routeX,
  k_route := k_routeX,
  F_certify_route := fun_mk l_certify_route e_certify_route k_certify_route,
  g_certify_route := PySem.W.mg_of X G a_certify_route,
  k_certify_route := k_certify_route,
  F_law_bad_fixed := fun_mk l_law_bad_fixed e_law_bad_fixed k_law_bad_fixed,
  g__law_bad_fixed := PySem.W.mg_of X G a_law_bad_fixed,
  k__law_bad_fixed := k_law_bad_fixed,
  F_check_stationsX := fun_mk l_check_stationsX e_check_stationsX k_check_stationsX,
  g_check_stations := PySem.W.mg_of X G a_check_stationsX,
  k_check_stations := k_check_stationsX,
  F_itineraryX := fun_mk l_itineraryX e_itineraryX k_itineraryX,
  g_itinerary := PySem.W.mg_of X G a_itineraryX,
  k_itinerary := k_itineraryX,
  F_certify_changes := fun_mk l_certify_changes e_certify_changes k_certify_changes,
  g_certify_changes := PySem.W.mg_of X G a_certify_changes,
  k_certify_changes := k_certify_changes,
  F_check_fixedX := fun_mk l_check_fixedX e_check_fixedX k_check_fixedX,
  g_check_fixed := PySem.W.mg_of X G a_check_fixedX,
  k_check_fixed := k_check_fixedX,
  F_plan_or_obstacleX := fun_mk l_plan_or_obstacleX e_plan_or_obstacleX k_plan_or_obstacleX,
  g_plan_or_obstacle := PySem.W.mg_of X G a_plan_or_obstacleX,
  k_plan_or_obstacle := k_plan_or_obstacleX,
  F_certify_fixed := fun_mk l_certify_fixed e_certify_fixed k_certify_fixed,
  g_certify_fixed := PySem.W.mg_of X G a_certify_fixed,
  k_certify_fixed := k_certify_fixed,
  F_law_other_fields := fun_mk l_law_other_fields e_law_other_fields k_law_other_fields,
  g__law_other_fields := PySem.W.mg_of X G a_law_other_fields,
  k__law_other_fields := k_law_other_fields,
  F_law_fields := fun_mk l_law_fields e_law_fields k_law_fields,
  g__law_fields := PySem.W.mg_of X G a_law_fields,
  k__law_fields := k_law_fields,
  F_law_kind := fun_mk l_law_kind e_law_kind k_law_kind,
  g__law_kind := PySem.W.mg_of X G a_law_kind,
  k__law_kind := k_law_kind,
  F_law_caught := fun_mk l_law_caught e_law_caught k_law_caught,
  g__law_caught := PySem.W.mg_of X G a_law_caught,
  k__law_caught := k_law_caught,
  F_law_rows_of_plans := ⟨⟨oc_law_rows_of_plans, od_law_rows_of_plans, kV_law_rows_of_plans, dc_law_rows_of_plans, pm_law_rows_of_plans, an_law_rows_of_plans, ct_law_rows_of_plans, sl_law_rows_of_plans, rfl, l_law_rows_of_plans, e_law_rows_of_plans⟩, k_law_rows_of_plans⟩,
  g__law_rows_of_plans := PySem.W.mg_of X G a_law_rows_of_plans,
  k__law_rows_of_plans := k_law_rows_of_plans,
  F_law_rows_of_seats := ⟨⟨oc_law_rows_of_seats, od_law_rows_of_seats, kV_law_rows_of_seats, dc_law_rows_of_seats, pm_law_rows_of_seats, an_law_rows_of_seats, ct_law_rows_of_seats, sl_law_rows_of_seats, rfl, l_law_rows_of_seats, e_law_rows_of_seats⟩, k_law_rows_of_seats⟩,
  g__law_rows_of_seats := PySem.W.mg_of X G a_law_rows_of_seats,
  k__law_rows_of_seats := k_law_rows_of_seats,
  F_law_right84 := fun_mk l_law_right84 e_law_right84 k_law_right84,
  g__law_right := PySem.W.mg_of X G a_law_right84,
  k__law_right := k_law_right84,
  F_law84 := fun_mk l_law84 e_law84 k_law84,
  g_law := PySem.W.mg_of X G a_law84,
  k_law := k_law84,
  b_ArithmeticError := PySem.W.mg_none_of X G b_ArithmeticError,
  v_LETTERS := ⟨_, PySem.W.mg_of X G v_LETTERS, ⟨_, rfl⟩⟩,
  v_LONGEST_NAME := ⟨_, PySem.W.mg_of X G v_LONGEST_NAME, ⟨_, rfl⟩⟩,
  b_LookupError := PySem.W.mg_none_of X G b_LookupError,
  v_MAX_SEATS := ⟨_, PySem.W.mg_of X G v_MAX_SEATS, ⟨_, rfl⟩⟩,
  v_MAX_TRIPS := ⟨_, PySem.W.mg_of X G v_MAX_TRIPS, ⟨_, rfl⟩⟩,
  b_ValueError := PySem.W.mg_none_of X G b_ValueError,
  b_abs := PySem.W.mg_none_of X G b_abs,
  b_all := PySem.W.mg_none_of X G b_all,
  b_bool := PySem.W.mg_none_of X G b_bool,
  b_divmod := PySem.W.mg_none_of X G b_divmod,
  b_enumerate := PySem.W.mg_none_of X G b_enumerate,
  b_int := PySem.W.mg_none_of X G b_int,
  b_isinstance := PySem.W.mg_none_of X G b_isinstance,
  b_len := PySem.W.mg_none_of X G b_len,
  b_list := PySem.W.mg_none_of X G b_list,
  b_max := PySem.W.mg_none_of X G b_max,
  b_min := PySem.W.mg_none_of X G b_min,
  b_range := PySem.W.mg_none_of X G b_range,
  b_repr := PySem.W.mg_none_of X G b_repr,
  b_sorted := PySem.W.mg_none_of X G b_sorted,
  b_str := PySem.W.mg_none_of X G b_str,
  b_super := PySem.W.mg_none_of X G b_super,
  b_tuple := PySem.W.mg_none_of X G b_tuple,
  b_zip := PySem.W.mg_none_of X G b_zip,
  tne01 := fun e => by have e : tL = tT := e; rw [e] at tq01; simp at tq01,
  tne02 := fun e => by have e : tL = tT3 := e; rw [e] at tq02; simp at tq02,
  tne12 := fun e => by have e : tT = tT3 := e; rw [e] at tq12; simp at tq12 }
 refine ⟨a.d_law84, [(cL, tL), (cT, tT), (cT3, tT3)], TT a, sp_law84 K a.CLine a.XC, ?_, ?_, ?_, nl, ?_, fun s u => .of_eq rfl, fun ns hl _ => ⟨ns, rfl, hl, t.clt, ⟨⟨kindF_of hkNotALine t.xa_NotALine.is rfl rfl rfl rfl, t.xa_NotALine.xf, rfl, hxNotALine⟩, ⟨kindF_of hkInvalidPlan t.xa_InvalidPlan.is rfl rfl rfl rfl, t.xa_InvalidPlan.xf, rfl, hxInvalidPlan⟩, ⟨kindF_of hkInvalidFixed t.xa_InvalidFixed.is rfl rfl rfl rfl, t.xa_InvalidFixed.xf, rfl, hxInvalidFixed⟩, ⟨kindF_of hkInvalidStation t.xa_InvalidStation.is rfl rfl rfl rfl, t.xa_InvalidStation.xf, rfl, hxInvalidStation⟩⟩, rfl⟩, ?_⟩
 ·exact fun p hp => by
   rcases List.mem_cons.mp hp with rfl | hp
   ·exact PySem.W.codeHd_of_K X w5
   ·rcases List.mem_cons.mp hp with rfl | hp
    ·exact PySem.W.codeHd_of_K X z5
    ·rcases List.mem_cons.mp hp with rfl | hp
     ·exact PySem.W.codeHd_of_K X z53
     ·cases hp
 ·exact fun p hp => by
   rcases List.mem_cons.mp hp with rfl | hp
   ·exact ht
   ·rcases List.mem_cons.mp hp with rfl | hp
    ·exact htT
    ·rcases List.mem_cons.mp hp with rfl | hp
     ·exact htT3
     ·cases hp
 ·exact fun p hp => by
   rcases List.mem_cons.mp hp with rfl | hp
   ·exact w6
   ·rcases List.mem_cons.mp hp with rfl | hp
    ·exact z6
    ·rcases List.mem_cons.mp hp with rfl | hp
     ·exact z63
     ·cases hp
 ·exact fun p hp => by
   rcases List.mem_cons.mp hp with rfl | hp
   ·exact List.mem_cons_self
   ·rcases List.mem_cons.mp hp with rfl | hp
    ·exact List.mem_cons_of_mem _ (List.mem_cons_self)
    ·rcases List.mem_cons.mp hp with rfl | hp
     ·exact List.mem_cons_of_mem _ (List.mem_cons_of_mem _ (List.mem_cons_self))
     ·cases hp
 ·exact fun base _ _ TB => ok_law84 t ⟨TB (cL, tL) (List.mem_cons_self), TB (cT, tT) (List.mem_cons_of_mem _ (List.mem_cons_self)), TB (cT3, tT3) (List.mem_cons_of_mem _ (List.mem_cons_of_mem _ (List.mem_cons_self)))⟩
end ZK
open PySem PySem.W PyProof.Rows
set_option maxRecDepth 100000 in
set_option maxHeartbeats 0 in
theorem PySem.Challenge.cw_seatchains_k84_errors_of_certificates_holds : PySem.Challenge.rw_seatchains_k84_errors_of_certificates.Holds :=
 PySem.Challenge.hd84 (by
 k_fill
 refine Z.walkG (l := PySem.Challenge.rw_seatchains_k84_errors_of_certificates) (n := 63) (k := 17) (x := "_law_script") rfl (by decide) rfl ⟨rfl, by decide, by decide⟩ (fun w h Y => PySem.W.km_in_of Y) ?F
 case F =>
  intro w mg fa h Y KX G hmg
  refine' ZK.law_mk KX G hmg ?hC ?c1 ?c2 ?c3 ?c4 ?t1 ?t2 ?t3 ?t4 ?t5 ?ty0 ?ty1 ?ty2 ?ty3 ?ty4 ?ty5 ?no0 ?no1 ?no2 ?no3 ?no4 ?no5 ?no6 ?m1 ?m2 ?m3 ?m4 ?u1 ?u2 ?u3 ?u4 ?rp ?rpf ?x1 ?x1f ?x2 ?x2f ?x3 ?x3f ?x4 ?x5 ?nf0 ?nf1 ?nf2 ?nf3 ?nf4 ?nf5 ?nf6 ?q1 ?q2 ?q3 ?q4 ?n_seat_count ?n_rows ?n_queue ?xg_Busy ?xg_Full ?xg_InvalidAction ?xg_InvalidCommand ?xg_InvalidExchange ?xg_InvalidFixed ?xg_InvalidName ?xg_InvalidNumber ?xg_InvalidPlan ?xg_InvalidSeat ?xg_InvalidSeats ?xg_InvalidStation ?xg_InvalidText ?xg_InvalidTrips ?xg_NameTaken ?xg_NotALine ?xg_NotFree ?xg_NothingToUndo ?xg_Overfull ?xg_SeatError ?xg_SizeError ?xg_StateError ?xg_TooManyEntries ?xg_TooManyPlans ?xg_TooManyTrips ?xi_InvalidFixed ?xl_InvalidFixed ?xc_InvalidFixed ?xd_InvalidFixed ?xv_InvalidFixed ?xf_InvalidFixed ?xtp_InvalidFixed ?xB_InvalidFixed ?xi_InvalidPlan ?xl_InvalidPlan ?xc_InvalidPlan ?xd_InvalidPlan ?xv_InvalidPlan ?xf_InvalidPlan ?xtp_InvalidPlan ?xB_InvalidPlan ?xi_InvalidStation ?xl_InvalidStation ?xc_InvalidStation ?xd_InvalidStation ?xv_InvalidStation ?xf_InvalidStation ?xtp_InvalidStation ?xB_InvalidStation ?xi_NotALine ?xl_NotALine ?xc_NotALine ?xd_NotALine ?xv_NotALine ?xf_NotALine ?xtp_NotALine ?xB_NotALine ?hkNotALine ?hxNotALine ?hkInvalidPlan ?hxInvalidPlan ?hkInvalidFixed ?hxInvalidFixed ?hkInvalidStation ?hxInvalidStation ?a_law_cell ?l_law_cell ?e_law_cell ?k_law_cell ?a_law_pool ?l_law_pool ?e_law_pool ?k_law_pool ?a_is_integer ?l_is_integer ?e_is_integer ?k_is_integer ?a_check_seats ?l_check_seats ?e_check_seats ?k_check_seats ?a_is_later ?l_is_later ?e_is_later ?k_is_later ?a_is_station ?l_is_station ?e_is_station ?k_is_station ?a_is_trip_name ?l_is_trip_name ?e_is_trip_name ?k_is_trip_name ?a_is_trip ?l_is_trip ?e_is_trip ?k_is_trip ?a_valid_beginning ?l_valid_beginning ?e_valid_beginning ?k_valid_beginning ?l_Line_init ?e_Line_init ?k_Line_init ?w1 ?w2 ?w3 ?w4 ?w5 ?w6 ?l_Line_len ?e_Line_len ?k_Line_len ?l_Line_eq ?e_Line_eq ?k_Line_eq ?l_Line_str ?e_Line_str ?k_Line_str ?l_Line_repr ?e_Line_repr ?k_Line_repr ?l_Line_trips ?e_Line_trips ?k_Line_trips ?a_law_draw ?l_law_draw ?e_law_draw ?k_law_draw ?a_law_bad_plan ?l_law_bad_plan ?e_law_bad_plan ?k_law_bad_plan ?a_check_lineX ?l_check_lineX ?e_check_lineX ?k_check_lineX ?l_Line_capacity ?e_Line_capacity ?k_Line_capacity ?a_is_pair ?l_is_pair ?e_is_pair ?k_is_pair ?a_is_seat ?l_is_seat ?e_is_seat ?k_is_seat ?a_trip_named ?l_trip_named ?e_trip_named ?k_trip_named ?a_names_trip_and_seat ?l_names_trip_and_seat ?e_names_trip_and_seat ?k_names_trip_and_seat ?a_meet ?l_meet ?e_meet ?k_meet ?a_seats_left ?l_seats_left ?e_seats_left ?k_seats_left ?a_valid_pairs ?l_valid_pairs ?e_valid_pairs ?k_valid_pairs ?a_check_planX ?l_check_planX ?e_check_planX ?k_check_planX ?a_number_ofX ?l_number_ofX ?e_number_ofX ?k_number_ofX ?a_certify_number ?l_certify_number ?e_certify_number ?k_certify_number ?a_overfullX ?l_overfullX ?e_overfullX ?k_overfullX ?a_certify_plan ?l_certify_plan ?e_certify_plan ?k_certify_plan ?a_check_bothX ?l_check_bothX ?e_check_bothX ?k_check_bothX ?a_routeX ?l_routeX ?e_routeX ?k_routeX ?a_certify_route ?l_certify_route ?e_certify_route ?k_certify_route ?a_law_bad_fixed ?l_law_bad_fixed ?e_law_bad_fixed ?k_law_bad_fixed ?a_check_stationsX ?l_check_stationsX ?e_check_stationsX ?k_check_stationsX ?a_itineraryX ?l_itineraryX ?e_itineraryX ?k_itineraryX ?a_certify_changes ?l_certify_changes ?e_certify_changes ?k_certify_changes ?a_check_fixedX ?l_check_fixedX ?e_check_fixedX ?k_check_fixedX ?a_plan_or_obstacleX ?l_plan_or_obstacleX ?e_plan_or_obstacleX ?k_plan_or_obstacleX ?a_certify_fixed ?l_certify_fixed ?e_certify_fixed ?k_certify_fixed ?a_law_other_fields ?l_law_other_fields ?e_law_other_fields ?k_law_other_fields ?a_law_fields ?l_law_fields ?e_law_fields ?k_law_fields ?a_law_kind ?l_law_kind ?e_law_kind ?k_law_kind ?a_law_caught ?l_law_caught ?e_law_caught ?k_law_caught ?a_law_rows_of_plans ?l_law_rows_of_plans ?e_law_rows_of_plans ?k_law_rows_of_plans ?z3 ?z4 ?z5 ?z6 ?a_law_rows_of_seats ?l_law_rows_of_seats ?e_law_rows_of_seats ?k_law_rows_of_seats ?z33 ?z43 ?z53 ?z63 ?a_law_right84 ?l_law_right84 ?e_law_right84 ?k_law_right84 ?a_law84 ?l_law84 ?e_law84 ?k_law84 ?b_ArithmeticError ?v_LETTERS ?v_LONGEST_NAME ?b_LookupError ?v_MAX_SEATS ?v_MAX_TRIPS ?b_ValueError ?b_abs ?b_all ?b_bool ?b_divmod ?b_enumerate ?b_int ?b_isinstance ?b_len ?b_list ?b_max ?b_min ?b_range ?b_repr ?b_sorted ?b_str ?b_super ?b_tuple ?b_zip ?htT ?htT3 ?tq01 ?tq02 ?tq12 ?nl ?ht
  (case hC => k_is)
  (case c1 => k_is)
  (case c2 => k_is)
  (case c3 => k_is)
  (case c4 => k_is)
  (case t1 => k_is)
  (case t2 => k_is)
  (case t3 => k_is)
  (case t4 => k_is)
  (case t5 => kernel_rfl)
  (case ty0 => kernel_rfl)
  (case ty1 => kernel_rfl)
  (case ty2 => kernel_rfl)
  (case ty3 => kernel_rfl)
  (case ty4 => kernel_rfl)
  (case ty5 => kernel_rfl)
  (case no0 => kernel_rfl)
  (case no1 => kernel_rfl)
  (case no2 => kernel_rfl)
  (case no3 => kernel_rfl)
  (case no4 => kernel_rfl)
  (case no5 => kernel_rfl)
  (case no6 => kernel_rfl)
  (case m1 => k_is)
  (case m2 => k_is)
  (case m3 => k_is)
  (case m4 => k_is)
  (case u1 => k_is)
  (case u2 => k_is)
  (case u3 => k_is)
  (case u4 => k_is)
  (case rp => k_is)
  (case rpf => k_is)
  (case x1 => k_is)
  (case x1f => k_is)
  (case x2 => k_is)
  (case x2f => k_is)
  (case x3 => k_is)
  (case x3f => k_is)
  (case x4 => k_is)
  (case x5 => k_is)
  (case nf0 => kernel_rfl)
  (case nf1 => kernel_rfl)
  (case nf2 => kernel_rfl)
  (case nf3 => kernel_rfl)
  (case nf4 => kernel_rfl)
  (case nf5 => kernel_rfl)
  (case nf6 => kernel_rfl)
  (case q1 => k_is)
  (case q2 => k_is)
  (case q3 => k_is)
  (case q4 => k_is)
  (case n_seat_count => k_is)
  (case n_rows => k_is)
  (case n_queue => k_is)
  (case xg_Busy => k_is)
  (case xg_Full => k_is)
  (case xg_InvalidAction => k_is)
  (case xg_InvalidCommand => k_is)
  (case xg_InvalidExchange => k_is)
  (case xg_InvalidFixed => k_is)
  (case xg_InvalidName => k_is)
  (case xg_InvalidNumber => k_is)
  (case xg_InvalidPlan => k_is)
  (case xg_InvalidSeat => k_is)
  (case xg_InvalidSeats => k_is)
  (case xg_InvalidStation => k_is)
  (case xg_InvalidText => k_is)
  (case xg_InvalidTrips => k_is)
  (case xg_NameTaken => k_is)
  (case xg_NotALine => k_is)
  (case xg_NotFree => k_is)
  (case xg_NothingToUndo => k_is)
  (case xg_Overfull => k_is)
  (case xg_SeatError => k_is)
  (case xg_SizeError => k_is)
  (case xg_StateError => k_is)
  (case xg_TooManyEntries => k_is)
  (case xg_TooManyPlans => k_is)
  (case xg_TooManyTrips => k_is)
  (case xi_InvalidFixed => k_is)
  (case xl_InvalidFixed => k_is)
  (case xc_InvalidFixed => k_is)
  (case xd_InvalidFixed => k_is)
  (case xv_InvalidFixed => rfl)
  (case xf_InvalidFixed => rfl)
  (case xtp_InvalidFixed => rfl)
  (case xB_InvalidFixed => kernel_rfl)
  (case xi_InvalidPlan => k_is)
  (case xl_InvalidPlan => k_is)
  (case xc_InvalidPlan => k_is)
  (case xd_InvalidPlan => k_is)
  (case xv_InvalidPlan => rfl)
  (case xf_InvalidPlan => rfl)
  (case xtp_InvalidPlan => rfl)
  (case xB_InvalidPlan => kernel_rfl)
  (case xi_InvalidStation => k_is)
  (case xl_InvalidStation => k_is)
  (case xc_InvalidStation => k_is)
  (case xd_InvalidStation => k_is)
  (case xv_InvalidStation => rfl)
  (case xf_InvalidStation => rfl)
  (case xtp_InvalidStation => rfl)
  (case xB_InvalidStation => kernel_rfl)
  (case xi_NotALine => k_is)
  (case xl_NotALine => k_is)
  (case xc_NotALine => k_is)
  (case xd_NotALine => k_is)
  (case xv_NotALine => rfl)
  (case xf_NotALine => rfl)
  (case xtp_NotALine => rfl)
  (case xB_NotALine => kernel_rfl)
  (case hkNotALine => kernel_rfl)
  (case hxNotALine => kernel_rfl)
  (case hkInvalidPlan => kernel_rfl)
  (case hxInvalidPlan => kernel_rfl)
  (case hkInvalidFixed => kernel_rfl)
  (case hxInvalidFixed => kernel_rfl)
  (case hkInvalidStation => kernel_rfl)
  (case hxInvalidStation => kernel_rfl)
  (case a_law_cell => k_is)
  (case l_law_cell => k_is)
  (case e_law_cell => k_is)
  (case k_law_cell => k_is)
  (case a_law_pool => k_is)
  (case l_law_pool => k_is)
  (case e_law_pool => k_is)
  (case k_law_pool => k_is)
  (case a_is_integer => k_is)
  (case l_is_integer => k_is)
  (case e_is_integer => k_is)
  (case k_is_integer => k_is)
  (case a_check_seats => k_is)
  (case l_check_seats => k_is)
  (case e_check_seats => k_is)
  (case k_check_seats => k_is)
  (case a_is_later => k_is)
  (case l_is_later => k_is)
  (case e_is_later => k_is)
  (case k_is_later => k_is)
  (case a_is_station => k_is)
  (case l_is_station => k_is)
  (case e_is_station => k_is)
  (case k_is_station => k_is)
  (case a_is_trip_name => k_is)
  (case l_is_trip_name => k_is)
  (case e_is_trip_name => k_is)
  (case k_is_trip_name => k_is)
  (case a_is_trip => k_is)
  (case l_is_trip => k_is)
  (case e_is_trip => k_is)
  (case k_is_trip => k_is)
  (case a_valid_beginning => k_is)
  (case l_valid_beginning => k_is)
  (case e_valid_beginning => k_is)
  (case k_valid_beginning => k_is)
  (case l_Line_init => k_is)
  (case e_Line_init => k_is)
  (case k_Line_init => k_is)
  (case w1 => k_is)
  (case w2 => k_is)
  (case w3 => k_is)
  (case w4 => rfl)
  (case w5 => kernel_rfl)
  (case w6 => kernel_rfl)
  (case l_Line_len => k_is)
  (case e_Line_len => k_is)
  (case k_Line_len => k_is)
  (case l_Line_eq => k_is)
  (case e_Line_eq => k_is)
  (case k_Line_eq => k_is)
  (case l_Line_str => k_is)
  (case e_Line_str => k_is)
  (case k_Line_str => k_is)
  (case l_Line_repr => k_is)
  (case e_Line_repr => k_is)
  (case k_Line_repr => k_is)
  (case l_Line_trips => k_is)
  (case e_Line_trips => k_is)
  (case k_Line_trips => k_is)
  (case a_law_draw => k_is)
  (case l_law_draw => k_is)
  (case e_law_draw => k_is)
  (case k_law_draw => k_is)
  (case a_law_bad_plan => k_is)
  (case l_law_bad_plan => k_is)
  (case e_law_bad_plan => k_is)
  (case k_law_bad_plan => k_is)
  (case a_check_lineX => k_is)
  (case l_check_lineX => k_is)
  (case e_check_lineX => k_is)
  (case k_check_lineX => k_is)
  (case l_Line_capacity => k_is)
  (case e_Line_capacity => k_is)
  (case k_Line_capacity => k_is)
  (case a_is_pair => k_is)
  (case l_is_pair => k_is)
  (case e_is_pair => k_is)
  (case k_is_pair => k_is)
  (case a_is_seat => k_is)
  (case l_is_seat => k_is)
  (case e_is_seat => k_is)
  (case k_is_seat => k_is)
  (case a_trip_named => k_is)
  (case l_trip_named => k_is)
  (case e_trip_named => k_is)
  (case k_trip_named => k_is)
  (case a_names_trip_and_seat => k_is)
  (case l_names_trip_and_seat => k_is)
  (case e_names_trip_and_seat => k_is)
  (case k_names_trip_and_seat => k_is)
  (case a_meet => k_is)
  (case l_meet => k_is)
  (case e_meet => k_is)
  (case k_meet => k_is)
  (case a_seats_left => k_is)
  (case l_seats_left => k_is)
  (case e_seats_left => k_is)
  (case k_seats_left => k_is)
  (case a_valid_pairs => k_is)
  (case l_valid_pairs => k_is)
  (case e_valid_pairs => k_is)
  (case k_valid_pairs => k_is)
  (case a_check_planX => k_is)
  (case l_check_planX => k_is)
  (case e_check_planX => k_is)
  (case k_check_planX => k_is)
  (case a_number_ofX => k_is)
  (case l_number_ofX => k_is)
  (case e_number_ofX => k_is)
  (case k_number_ofX => k_is)
  (case a_certify_number => k_is)
  (case l_certify_number => k_is)
  (case e_certify_number => k_is)
  (case k_certify_number => k_is)
  (case a_overfullX => k_is)
  (case l_overfullX => k_is)
  (case e_overfullX => k_is)
  (case k_overfullX => k_is)
  (case a_certify_plan => k_is)
  (case l_certify_plan => k_is)
  (case e_certify_plan => k_is)
  (case k_certify_plan => k_is)
  (case a_check_bothX => k_is)
  (case l_check_bothX => k_is)
  (case e_check_bothX => k_is)
  (case k_check_bothX => k_is)
  (case a_routeX => k_is)
  (case l_routeX => k_is)
  (case e_routeX => k_is)
  (case k_routeX => k_is)
  (case a_certify_route => k_is)
  (case l_certify_route => k_is)
  (case e_certify_route => k_is)
  (case k_certify_route => k_is)
  (case a_law_bad_fixed => k_is)
  (case l_law_bad_fixed => k_is)
  (case e_law_bad_fixed => k_is)
  (case k_law_bad_fixed => k_is)
  (case a_check_stationsX => k_is)
  (case l_check_stationsX => k_is)
  (case e_check_stationsX => k_is)
  (case k_check_stationsX => k_is)
  (case a_itineraryX => k_is)
  (case l_itineraryX => k_is)
  (case e_itineraryX => k_is)
  (case k_itineraryX => k_is)
  (case a_certify_changes => k_is)
  (case l_certify_changes => k_is)
  (case e_certify_changes => k_is)
  (case k_certify_changes => k_is)
  (case a_check_fixedX => k_is)
  (case l_check_fixedX => k_is)
  (case e_check_fixedX => k_is)
  (case k_check_fixedX => k_is)
  (case a_plan_or_obstacleX => k_is)
  (case l_plan_or_obstacleX => k_is)
  (case e_plan_or_obstacleX => k_is)
  (case k_plan_or_obstacleX => k_is)
  (case a_certify_fixed => k_is)
  (case l_certify_fixed => k_is)
  (case e_certify_fixed => k_is)
  (case k_certify_fixed => k_is)
  (case a_law_other_fields => k_is)
  (case l_law_other_fields => k_is)
  (case e_law_other_fields => k_is)
  (case k_law_other_fields => k_is)
  (case a_law_fields => k_is)
  (case l_law_fields => k_is)
  (case e_law_fields => k_is)
  (case k_law_fields => k_is)
  (case a_law_kind => k_is)
  (case l_law_kind => k_is)
  (case e_law_kind => k_is)
  (case k_law_kind => k_is)
  (case a_law_caught => k_is)
  (case l_law_caught => k_is)
  (case e_law_caught => k_is)
  (case k_law_caught => k_is)
  (case a_law_rows_of_plans => k_is)
  (case l_law_rows_of_plans => k_is)
  (case e_law_rows_of_plans => k_is)
  (case k_law_rows_of_plans => k_is)
  (case z3 => k_is)
  (case z4 => rfl)
  (case z5 => kernel_rfl)
  (case z6 => kernel_rfl)
  (case a_law_rows_of_seats => k_is)
  (case l_law_rows_of_seats => k_is)
  (case e_law_rows_of_seats => k_is)
  (case k_law_rows_of_seats => k_is)
  (case z33 => k_is)
  (case z43 => rfl)
  (case z53 => kernel_rfl)
  (case z63 => kernel_rfl)
  (case a_law_right84 => k_is)
  (case l_law_right84 => k_is)
  (case e_law_right84 => k_is)
  (case k_law_right84 => k_is)
  (case a_law84 => k_is)
  (case l_law84 => k_is)
  (case e_law84 => k_is)
  (case k_law84 => k_is)
  (case b_ArithmeticError => k_is)
  (case v_LETTERS => k_is)
  (case v_LONGEST_NAME => k_is)
  (case b_LookupError => k_is)
  (case v_MAX_SEATS => k_is)
  (case v_MAX_TRIPS => k_is)
  (case b_ValueError => k_is)
  (case b_abs => k_is)
  (case b_all => k_is)
  (case b_bool => k_is)
  (case b_divmod => k_is)
  (case b_enumerate => k_is)
  (case b_int => k_is)
  (case b_isinstance => k_is)
  (case b_len => k_is)
  (case b_list => k_is)
  (case b_max => k_is)
  (case b_min => k_is)
  (case b_range => k_is)
  (case b_repr => k_is)
  (case b_sorted => k_is)
  (case b_str => k_is)
  (case b_super => k_is)
  (case b_tuple => k_is)
  (case b_zip => k_is)
  (case htT => exact PySem.W.km_tabs_of Y _ (by simp))
  (case htT3 => exact PySem.W.km_tabs_of Y _ (by simp))
  (case tq01 => rfl)
  (case tq02 => rfl)
  (case tq12 => rfl)
  (case nl => kernel_rfl)
  (case ht => exact PySem.W.km_tabs_of Y _ (by simp)))
