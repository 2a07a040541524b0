/-
  Of PK Made3 Str.
-/
import Derived.Lib.SmallJoins
import Derived.Laws.BytesString
import Derived.Test.YtmfjigcdhijkjaaDoorZB7
import Derived.Test.YtmfjigcdhijkjaaDoorZB5
import Derived.Test.YtmfjigcdhijkjaaDoorZB14
set_option maxRecDepth 1000000
set_option maxHeartbeats 20000000
namespace Go.Proofs.YtmfjigcdhijkjaaDoor.Pt
def exk : Nat:=0xa6e3c57dd01abe90086538398355dd4c3b17aa873382b0f24d6129493d8aad60
def exd : Nat:=0xc9afa9d845ba75166b5c215767b1d6934e50c3db36e89b127b8a622b120f6721
def exe : Nat:=0xaf2bdbe1aa9b6ec1e2ade1d694f41fc71a831d0268e9891562113d8a62add1bf
def exTi : Nat:=0xaaf7a4c4d10293a89370e2cc3e88ca623e38b5814d37eb5e96ffdea769cfe547
def exR : Nat:=0xefd48b2aacb6a8fd1140dd9cd45e81d69d2c877b56aaf991c34d0ea84eaf3716
def exS : Nat:=0xf7cb1c942d657c41d436c7a1b6e29f65f3e900dbb9aff4064dc4ab2f843acda8
def ksteps : List (Bool × Nat):=[
 (true,0xa249bcb3191802d3cb56fc75a8731f848e7b2caf080f3477a4e4d904a671af9d),
 (true,0xc2489a9eef61dfa06d3741ff3b405300988bd0db42a937859069b9cefb576e35),
 (false,0xca83eef4a3259faa07da557754da61a363987a301994848ac4a01dafc4c7feaa),
 (true,0x97348e88f9533aa20c890c6555e3f59001b8e45279c9aa2da811786525635c13),
 (true,0x33ad926ba20e90b859f8865d29d46e20259ab47bfe894aa5d41239939f8ec842),
 (true,0x903b98a84e7987a248e145c8c1773968b75922d944e518877173ffbef8dff8c0),
 (false,0xf1420a6e56ceb1126389bbf157b99c34c70b2604908f8cd18e229076c17fbae2),
 (true,0x1d33f479de58e113081036f0cf546275fc7889561a20be0b2e04230f37a6386),
 (false,0xb8a65d21f8ca4ecb333b026bf06bf42fea4f24c4aaefe869a34358d7beebc24a),
 (true,0x1a4b5d4c8d2ed16468355544644cc3f3446ffa612957e29f01ce4558da5431cb),
 (true,0x7551ff00ea6dc79c42280061ac3058c561ad3d56137ddb4528e864a9b45560e3),
 (false,0xe10557741cdd7b895cc085552ae91bd0a60c69030e84adab76ea79ae93589168),
 (true,0x708af08ada3c8aaae6a941fc9b55a3f214f9d882230a53de825f85a087a1253b),
 (false,0x2cc7c6195611f211bf030714241f3aa835a417f4dd8bbd526b6873552e607a8e),
 (true,0xac592c97aa2cbbc9a6ea3caf5a1a9954724e0873dcf0c934b6273313b0b7316),
 (false,0xb5fc29503f067e07f84737220f376fca29fccbcaaacbdef990f50abbe70ea84c),
 (true,0x734ed14cfd254a61224cb0f52e519dc0d9efba52497c65b1d64705d31db4e1f7),
 (true,0x1b8b85c8e8613769a8c89da17aabe4355b08669471949b5ae66a3d14f501409),
 (true,0x84e5272da14048fb448d7de266c33c4d8e5e7e9010bc676c54ee166bd66c7fc0),
 (true,0x59a0915498b383ee66ffff11b3728dfb5621407e8d2993aef4385b8947743fdb),
 (false,0x926567c24f1a12cfa1f0a7ac2394e5a55507640b293e98f72bb2624d459596a4),
 (true,0xe82b4dcc757abf58652432c4eb34c1f20f3680edd9a398cc357bd568590105d0),
 (false,0x222aa800ddfb2a6a0922b65a462cf6b70ac3fbfcc119f38671dce19b4618a05d),
 (true,0xc47ec55751fc4c3979448697da928956264ce23091a9d0021c16b4fc104ab4de),
 (false,0x54665c0ad665f5ee698dbe9a023e6c3c3feb73eea7fdc373d2d933571bc8e3e7),
 (true,0x6b4ac707543e9716a35c5c71876feb3fc6cb6e9efbe80c802155e8d8e663c93a),
 (false,0xb8cca287fc178dae85806d88b5a84efbaf369f85c4614b8866db03491501dea3),
 (true,0xc08579b18796932b27fd7de7016ae8207a9136014bb4b567ec2e605443d5b0d2),
 (true,0x109e6604157aacb8df7668b499b29a328bfc069331dc13070928d9860cca9174),
 (true,0x3b769ad35968d1658d8337c152b3fe4b4d94e724219070b6e2d5e2a7a4832be1),
 (true,0xe76bf011564b5614e0ea5e6ce7a27005f35b5f2731935d1f91d18f59610c06b3),
 (false,0x9bb957f50c211b0a2c73c837110889a4ddd7dc6d939fa926ebc25590873eaf7),
 (true,0x69f2272d0307c67a422eda13aa18c775e9853e7b78021fcd79c5a6051c00f3d2),
 (true,0x84c2e53690fb4465a1c853ee8812e70282c2ebd00f97fe981f4d920ef3fc5a84),
 (false,0x2da0570727c6f57d854ccf5accec7debfd31a83f238bca037580bd04cc5b6cf9),
 (true,0xb45d39b9124a324bd80ae726cbdbb6e1286d30ae4ee670b2a5e85335c4b4ea6b),
 (true,0xe63101d0b508abf3fc285947a8b55b587bf1dde368279d5e087ee9009186cd4c),
 (false,0xdafda071382393f8e94554ff694978d72ff1cdbb66ebfc77b5ca10eaae0a9ff1),
 (true,0x5ab20f0d914a86ccd777be1f5bd18dc010aaa955c54f3a5531d4c6cf1541d6be),
 (false,0x53fd645cf163dc2724097a83e4946530f57c460fdff32e3cb0cfa5f100e65878),
 (true,0x232109b230159ab2bf51154bcb63aae812e7d4bb0688634c6106b8bb3014962c),
 (false,0xd7a98c07baec3fb97551b4004a1da3caefb8c4a8449e5e8162c9214b4ad13830),
 (true,0x6fb8aab070771ea62491d86bcea766860734a731f9d9fa7bb4fc40ce5b514b6f),
 (false,0x8edd7419e7742a53922a538e5634d2663585eb191af6bce8103398d8debf31d3),
 (true,0x92a29680617f802a362742a48a27bd9544338ae47469563c31bfa7920c2a1d6b),
 (false,0x3426d3549bf6238adae0b97054e5b500d0d661615f91f3a712be6ddb3d95d178),
 (true,0x305800223d8ba30a93b2deced7a29ae80944d36c019eeccb87aa14bb82615873),
 (true,0x73a1c72b1b1e9ffcebbf7e8be524ec2616d2bb06a9959da1789db2de1abebda6),
 (false,0x9607d3647bf0af0e4b3cc4225ccac73a0bcfdb840a0ab117f3e9e1e7eb591fee),
 (true,0x7734a772f34dab4e75c5cd23be45c5346ce56400c47cffca62e6b0a39b31fe7f),
 (false,0x5490397214b4856b86e8a9fb4ead0bd437bc6b132a5bc9c808dc680314385669),
 (true,0xa08b4d3cb84f23d94524ef84650c2a6e8ec5d6d305543e4bde300d45bd787aec),
 (false,0x332254d3b4f346aafbe13a996abb6a1e458024fcdd2edb5fe6408be220b7918e),
 (true,0xa8510daf9a8399be213e9345fd3811a0111acd7cc19471f048b8841bba529b58),
 (true,0x33c7ab5347af022c8f29982faf13cc39730e17bdffbcdab6410d34e2eb0d7067),
 (false,0xa91ad89ed1469977e84767a5a2f316f0296eeafd4726267bb342332844b53dc0),
 (true,0x4d54bba3e20a00899073b371890348561581888798d7988c5503f6c336d4a288),
 (true,0xcbe06b197ae9c1169caf84ae3ef793ff9ff4565c8ced09a6a6f8bb4ba6896ffb),
 (true,0xb120a0f2f25bc768a315115cd419b2a79719ac665034ec8d0a56b1ff0a2f5cf3),
 (true,0x8bfbbed6be8dea4ecc4a9e257651e496364935415a20f77a3dafa2b09dd536f5),
 (true,0x72cd29de8bb290a347e061748b6b821a46e5eba39bf8c8f744c7872006464575),
 (true,0xb819fc85237775367358457875a1a42f213885888048bbd9deee946c29766863),
 (true,0x74325d904bce04395dcaa55be33e281906f353478b70b250150baad5e5b47009),
 (true,0x90b76d982480941b43011fbcc852bfb2c3279f8c1abe82258c9d3b02e8b46b0b),
 (false,0xcbb1012be1dd523203e9907142198e0b92edacdb1062bf63761c2fa829a495a3),
 (true,0x20d05e0762d7da30c2c22aa01b22860294a847cd51572eed73de5da1bd6192f9),
 (false,0x6acbc19b3aa14d886ee8a0654c6673616d86de7db56376fcafa62037b3a08664),
 (true,0xa974c1f7e42aaa8fc58e466ff20b1d392274799815f64721746c547e63fe635d),
 (true,0xc062ec9eb4d291c1b965572002bbdf0604468eccdcc9aa80023246976ff130d2),
 (false,0x87b7592c1bb7bc70098f9d28286076adc5c86f36973d6c487fd5c49fd6c89168),
 (true,0x8a1019aa25388733ba2ed9358b1f53df141fb097ca6ded4e490e8bac46d3452a),
 (true,0x7ff2c1d96dca94cc7679371571dc72f42d4e33eb3d6f7890d7708a843440c5c8),
 (false,0xf33b8a897b9681f7010a694963363c597020c1f3a07ab56b471ef5e8fdb5fae8),
 (true,0xcdc5084b31075ca8feb7f51f09250cef052ad2d04d6d409df154e9bf046a5654),
 (true,0x9410c0e16a6bdffd699a5e3726664ef1c95d26490e0a35e77555755cf96d257e),
 (false,0xd65a0eb7ac40bea21adf6abefa0a3b723622eaeddc979d0d20c2e0d338463ef5),
 (true,0x738ac98d2d988db0cc90a56c1735c0dce8cb90922dd3d20075e2c2ac2aa51b1f),
 (false,0x50fb77085c210ebbdf73580eed59d9b5087a2fd5404a2c370e72c2495ae7c9f4),
 (true,0xdc5ba8abdda5e92914a962f9c0d46b0dcbf81098525b46d76232c14995a7ea96),
 (false,0xef6f2b35d6882eb8a9e8dc9870b88d0f1024d9439059eb136d2b27f96e593619),
 (true,0x73c5f89112eef66a1aea74d862a44a6cf050f4d0614540bd2810c65347c40e08),
 (false,0xf8c6e043dcf60bdc09b466586221b3881481a7d740392599e6d9e4dafbcc6ecb),
 (true,0xf67bff6ba07959bd72ae4477c4000b1c35107b0db4f9aa0d7c3f718087abacab),
 (false,0xd9ca9f81981b66302085d46b1a2ff707c36c40f55162fdcb54b864eab3994eb4),
 (true,0x97e812cf65e0e905495c9b15a52a219bbd3ebf831ee6fecd42a8013aa5362709),
 (true,0x75c7fbfcaec895e173d0b59905282c194963d1cb3698c6f9887a4387798c374c),
 (false,0xf2b9b387a173a72307db08c16a257075a5e0f74ff4f30f651d2b51744289c6df),
 (true,0xb36aff67a381e53cf00ce5e6ec0393f0be398e388f9f72ed3f6ac4c65375b08e),
 (true,0x6d2b4e68322f6c1e58f65e87a8bdb0021560f923f63d3b833d529b642cbca207),
 (true,0xa57d63050d4e828c70a3fa29eccd0e9beb3a37ddaacb4733a66b958abe614c17),
 (false,0x5207107168788b5df9eb3b2947923cc6b65d95d2c15a6d05826fc02a068ea03b),
 (true,0x63a5fc9a8e9bfa27f772cd92da199a26fecc081dc33b8d58dcd7b906a3cae835),
 (true,0x25d7c569feaa19b943e4a1955b37958cff422514a242febd8b5e8cb81bdbfc83),
 (true,0xfed5c5cf153c97e0ee269af2a0e3f26a80e348ddc1fdab1fa43e410921bfe29b),
 (true,0x75d94409eaf0d1e15f0a896cabbad492d721b1607f20505875ba64479b333195),
 (true,0x51b424b74bf8bc18806167b11506de17954936db5ba9cc5fc44c6b2fca0f4685),
 (true,0xdf193a394bb891eb12877d0aabe34ce9cc76983d64c13eacf00b2fc3eae9a513),
 (true,0xe4e5bb8a199536d823bf8271a7065dbc385e6b48fea06060201c08c5ec7422f8),
 (true,0x88473da9a751722d38ec128f64968e02b4df2f7d89002daf986938fc107d6209),
 (true,0x3e80d1c3389a0217433d739622fbc0b50b6d177f442c646b8deb77887f57ad1b),
 (false,0xc8bfebb18d4476938ec94d08b16f1b441cecbb8615771a91ca600692e7a24227),
 (true,0xb226c095c0f1802d838ee17d4b2ab7197ebd583e28bcc3826a179fd7f86ff9a9),
 (true,0xf7629f9b2c2665fa6697b3738bb8fb8a4d1c0d10ea2f641f79e93af0e5735390),
 (true,0x7adaca0c273c49849889635da5f0aca555706a576f5c8720c1a43d1fbf7c51df),
 (true,0x61d3b07079d07c8e76c1a3245aeb2341c391448e04c7c49b77bf8080906c3c8f),
 (true,0xf80e9c7c1fe2c5a82db37db7e77b64f0f7508b737c2f2fd633223a1f25bcc3d2),
 (false,0xe5a2da2d6756d2bf64e88cbda6e9766ddba6ffe9327d6a1408497ac299d0ceda),
 (true,0x33e5040a037a55ce2d16f4f8b50a6bdef56e1d164b7ceaab6ecfc115680b19b6),
 (false,0xcd4d40fa0540457e1e02de18f3e32324068136a25e4f60df0914429740926e23),
 (true,0x96d76af367f58a3107c76f72cf08cc6d4a67cf50a6f68bb38d9f15d671690595),
 (true,0x139cfb8bd61c4aef6b492fa4a5863b7618d4dafd30c714517509357d0afda0e1),
 (true,0xde0bb8d0927e43d9568575eb11c24e57c856fbc3bf2ba4ee77d4f8d34c3b0878),
 (false,0xed23e954c67ec711f234be785216fa64ed731c7aaf333bd16afa832b8e0c2f3),
 (true,0x52113869ce0ed30b456e3b9666f0f8c634e1effa8c30d008ea12a256e775c5b6),
 (true,0xb0ef08074fd28f81cf1d04304fa0a1831719e451e5a5ae3283c22589928ccc3e),
 (false,0x628ef4940ca5a5cd1e1257fc91fddac901e45d965ac58fff75085c4cd3c6982a),
 (true,0xca570e2161abacbce47d2c570cc726999576596ab34e02aa8ac278f1f295f2ed),
 (true,0xc3f75e296bcc9664e3a7a561daaf4a9daad5daf5b5e319ecd26063e86fb1e400),
 (true,0xabe2b1f457e30a2f44a3f7544a38b41c3a9aecea5df8fc7b0edbf277f52e2caf),
 (false,0x89b8151442fcf3f682813f8deb630b9b98d380ad5dfb2d2afd2ebe966b04877f),
 (true,0x3d6975800e45cabcdefa025b8017730670d16a4eb36d817cb9e778d513de1956),
 (false,0x46e1739ee89772747ccfd4e8349f18f52c0e2881163fe3e30bdd282931424928),
 (true,0xfcabc86fd79b1fd2e9226f1262eae3a146cb62390e0e8e1f23fa422581a8108c),
 (false,0xaf7d5454057f299bbf9b76cfe0a2e0abe36a0f849086e3d207befdae8b42bc0b),
 (true,0xba8b4b55c24eee37d5a0cbe3589147a34d12d2cede4a8ed51e758585c837fd62),
 (true,0xc1f942dfdd900c0bd09a969a1498fe8a190c37ff5db8f7f9fc5fb2d9d7e8381e),
 (true,0x2e8bbbeac14b9eb39184c1f130b8cd1aab3f8ce8e1e3a786abbb8ff64405bdd0),
 (true,0x3d9b47061c0c39d26d5aee0002afc8c9491951c84d28bcd11b5337fb5cca4564),
 (true,0xb30e09704f3523a4f8d78e20502a6bcfc6c512eddd6737c579ef625ab920fd43),
 (true,0xa10e8179787d9166cc86fb8ecbfd01193bd37fb4e741c1ed1d41534d222e0430),
 (false,0xb9e0d31e069d00c458c851314424099bbc36fc8f0988028eb50a8b47920bd89d),
 (true,0xb5b07490a741ef11b49a63ec6c3d465b11bb598578bfc0c632de8e0404ab4c93),
 (false,0x6b2292867950e244ff88a5bd299356fe693aa27697edf09cb545368493ba8cee),
 (true,0x2139671b728538f7962e8785c38ad2428fa50a13d6297ec6953b3c3065e3b1a2),
 (false,0x752d81bc0bcd8f48db423b59048902bb312143b95e55a2a4d81b76fc340e3ca3),
 (true,0xb91830119581768662e51aeac760b2ed14089a3f9c2c4dc9588908aef21c2b4e),
 (true,0x56b2d52d4f262f7a6483f084e917f864ce968d984f17b72ccd5397d2ba7588b3),
 (true,0x684cfc9f03a76df569b9a94dc708011d495d0456c1ac8383f4791dc8982402b4),
 (false,0x8dfca1ec054beafeb5ddac912135feed737672fc28a7850c786eb6e5c3125e09),
 (true,0x347bff3b85eac7f229f921c6daaaceae7b9129972dfa9a3df956e314757bc8d9),
 (false,0xf815021965f86054a142c520dc4cdbc27836de0496fae49e27432d18ae4abef4),
 (true,0x6e22e87bf038b912b351a7a7b6c5bddf2310caecd46dc8caee6d683d8095ab4c),
 (true,0x28042f89a69e02c4bf70e7afbc7d42bf476f6cbaa463099994946cf1334f3a9b),
 (true,0x1d2baf14158ada06a9c66bf861f3055430820f7e8504981c9f62be07d16ec12c),
 (true,0xa0d0a48ceac28b580444ce536f3954245824290665610ec020f2750d8d912e09),
 (true,0xcd3019218e950a2f40ea7569b069af6bc8949d4917ba48bffe1135624dc940f9),
 (true,0x33754416a6c5c26e2773264ec185edc125f89c8d7f4629e8f7e1358dacad957d),
 (false,0x8771f4b0d14df9862f4f58d9c1fe477d60ef92b129d133d91205ad729bb05ed9),
 (true,0xf53b12de762a5d8f09c8b656b4c343d1d378e53de9d0a9a5a09938a699305c05),
 (false,0xdac67fa2f277d36c6204b57d1aa4bdea85cb35dc52b2acc251c19d92593adbfb),
 (true,0x438f8ca15c0b8cea7c86e8db650e753be46a09341723fe7ddebaaba17c52a837),
 (true,0x440a747ca48815d0471e7a46b7a7d9fee8c3af0189d9dd6a15fa2ddfeeeb42c5),
 (false,0x3908cf780885892816b9ff1e8bf7b9d77f9c0148d08c8bb51e759ecd44a1715b),
 (true,0xe3b7b297439670a7d788b5a90d2c47a58c73e209cd85e7539cf6f493f09cd6aa),
 (true,0xd59b392a60883865659bb06617c5f61cb434cc13953ffc3bc85dff76a527ce87),
 (false,0x675b6f5ee473bb96b47be47ac61ac96af595ce6c51263cd13b97bf451b4833eb),
 (true,0xfda7f35e8e25547959efb6019b1d9edc4835e4271fbbaced86faef820b895eea),
 (true,0x62d854f5e724781a7a0039a4e78b5350a730a6fce8ab3d3c80c4738a035d2d72),
 (false,0x2edcef27e9923e0e1d8ae512733fabcc153834f7ac40da27e63e59f35431a83c),
 (true,0x3a7e2398dbc9c2b4aa778f8516f43e7792e701c810366718c3365279f7719e99),
 (true,0x6505a24c3fd532a561f03f8fdf71ef1c032a160db328739d50d2904767056cf6),
 (false,0x64f48c1b8c8c62e2435bced90c8206a5dc55daf294ad585392b396d46d4c2a13),
 (true,0xa781ce397c737c9d34660ade7507c8f8dabe1cf2082fb5735970ca2cb66f94fc),
 (false,0xdb6802adf3fd03abc5859474a12be7be40e5cf52a47971a33c1968f25ad813d8),
 (true,0x1eb7d41d6e7580f5dce5bba5c7ba19f782fe3a62c8db2ecbd5dc30cae47bf781),
 (false,0x24b0cfafc39b0dad16f859a2773d448e0a864c0c39acfd2ecc13a54baac482a2),
 (true,0xa76c40279a11ad330c5e87da2ad9bbef7c8bd1f9951de25ab4fc7bdffe4161ef),
 (true,0x5d15555b7d3ca76b5d2e429be04ef45a87132729320875101d08e64c18c91c8e),
 (false,0x3bdd0d91512692453b634112f46b5da0276b7780c533297e4a8374c30fddded9),
 (true,0x223f6b2817391ff8a52e7d23da19950e29ace3231ce96a8ad7dd74db06e2be82),
 (false,0x13f5641c4fe015ce3e05d4b00c941ee3fcdb5077d22922c7474972e90c1ea621),
 (true,0x6fd3c0f3cf0ed0d0b3331694e09e3ad88c53ce520aea9710e5694b08668654f5),
 (false,0xdb593b554f576efeb7e36fffbe06d3a4ac2cefeb441d20fc7c07e1a15bb6a8cc),
 (true,0xcaddc5bf937d6516b7daeb6c780f8ceaa82fb56f7ced56d29450d6bd880f6340),
 (true,0x9a90f67de7047f1ddc4b11dbfda55bde56b4c592d2856b712d2a7cb5f80815e4),
 (false,0x11f9abbabfeb2d3595ca72a63ae5f473a6fac3f3fb69ad9a9b16b754f5551336),
 (true,0x33b42048141ffb408daef915a84b1257ef75d2b8c2b0931a30d401c12ba509d5),
 (true,0x388e0666f61bffb6b0be9c03cbaa5960c126409ae844678cd2eb361176f7e690),
 (false,0xe42d4859311287fb69a1ce97b41b17c4cbff210d2a687a79f3963faa305e448),
 (true,0x85d9c67368acb6e284df0f4aa6962d8ade5f973483bf878956fc4b1470402734),
 (true,0x72bfc36b5589540da6a1296d47bae425d77740fa39344ca5ad6a975bf4911112),
 (true,0x71e52dc73c68ca17afb614cf8b4821676a531173a9ae37f8e37cdb7a23def711),
 (false,0x2b4c14c045b27e9231712ae0037b15e571c660afd3792e6efb6cbd16655afb23),
 (true,0xcdfd80d92f8d7edf24ddbf7d5d69e9413aa3e5276d002e1645c2ef39583fa474),
 (false,0xc4f7d0f1df6ee64836c255863c025cc29c0d59f7ad1f44871cb0c60033395850),
 (true,0x6f9129c87753fb34788633842e32647794865d3449ce66b6a738103c28ac312e),
 (true,0xe6742e50bc134cdb4e85132f6f0455165a5e7399279525adbf1e38452a81adcd),
 (true,0xe477d4cefb706aabbfd2e26a3ebcfbdd8be117e27a2538325a56a109792d913a),
 (true,0x1da33ece17435d0feeb48878ac7406af72dce33b1c992ea8db134c703f1d6c57),
 (true,0x8ad0f73b6a4d349867a262f0b58cb3f1d0a0143d6c207e8486825d59dc2d224e),
 (false,0x11a96652ad8b36f31d5799f692821b5b1dadc6c4cace478dec0e23bebff30da4),
 (true,0xf55a81f99e3453cee0aaf9c7f748641916da6169a8936d36922495d268a33e88),
 (false,0x4a4135d96e518e75c5911e97e5426e6eee3f71f14b81165c2d592f81b5662560),
 (true,0x5e8acc2614fec2084ebb7c3b83a887ba17a0e0ff9bd993c343804deadc48537f),
 (false,0x62a88821a5fe1a4100149dc69f12226e786152bbdda3fd106aef730e3e1cecb),
 (true,0xe2e56451c7fef5ac4285462a974559ce3005249b8ecae43b10072aeeb4cec1ea),
 (true,0x4148ae4f249932e5166c77181e3cc2459148ce1d6671bab9693f193c15cd8f04),
 (false,0x669e975e6d5d322687c65b4ba6ea533e4dd4ebd7a583c0fb3d235dfc1de7333a),
 (true,0x36b00f7c93c6ebbc61583bebc9fc8f0c888cee98ef3a38888223a27d3e25d102),
 (false,0x837e06b32cc70e58dcc9ddf5e207506d2226d6488d8627008d57d0a627589740),
 (true,0x2451724154539d9128bd1985a2a0a4a2c74f111dfb97bf0ea89ee8b4f5e90e26),
 (true,0xeac69dbf2fd6b7f12a70ae9676e2c26ac1e58eb0631d2941b07e049ccd40e8be),
 (true,0x97604c0d5a6d714f756da215815bcd2cd6759ab6ac268f6d01a483eecd1e22b6),
 (true,0xefb70db583f791e39a0ddff9c0596dd20ef0d78a4986d4949bdc08df00a365b3),
 (false,0x4a85d1ca5d1b3fa79e85bf7ea41f9d046565343bde8d3746379e08743f701f96),
 (true,0x5381989f7a12efb3b09e5d4af3ac29dfb56dd41ce16a2ab23f767b552eef6844),
 (true,0x42373612007e16e299a3246c340fefc50c46cd58c8f393f1ccb95e19d2b448e9),
 (false,0xa31d54636611c47ae59607df961b224df97f282069fc3f0f6761dd0ed6c4ce55),
 (true,0x2549be6a510650256fc1095fd50261df229bb06eec505a78a9fd61979819c21a),
 (false,0x639a02f9b762383338ad3fe437f5e7691d919fd51b2c21577e0d59815a0a984b),
 (true,0x666bd05cbe67befff08655e2a1381c179f291367382026bcfd368387f8a82a98),
 (false,0x8e96c97d56fc1cf5a82b4e4e684867b91d6d09733ef1ba65383d3579cc7f3ddd),
 (true,0x2f3351ad5eca03ba49e7645c6a8d26d50b9fdb2e1ab5d498bc0b43a730407763),
 (false,0x6939f80088543f325eb78e7d5c92ebe1f67f6425e896a629cf7fd04fb93a3646),
 (true,0x224f6fb0e5c25978961fab38e218d9403f6d8f7d081b58eecf066c66e987f6c),
 (true,0x9191c21276a2a97db2fb857ea26c8ae9d843497d3cc1b4ca1cc3557b56fdf18b),
 (false,0xf3fb433059f99738116f9a38d643f4008a6b8365abaa12809e357ef02869eb44),
 (true,0x95c1950b71451203601ef32007c87db97c54c1b1b009427fccb463a206b3e370),
 (true,0x43929cf063d71ba8105545e718f6ef8e33423611c9e4c6d13b51ff5eddee6449),
 (false,0xd865678d368a907bde2573459c7dc68b316290d08ed1608f9708cb6ba2e3b590),
 (true,0xb8b0cf7774a906eb761ba682a08c44869e77b71b44f4e1c3d14da1b76c9a5ff9),
 (true,0x1ba79e6811eaf7b0f3e2594dcbe9388d837e4434196cf5d694c1f1b1737e3057),
 (false,0x8b8f2818a3e34d6191c9244c126051a6cd01393227d12376a1078be51720e5e2),
 (true,0xa2706cdd9c2a7eecae394b5224cb6aeb8d94b66db4d95a54f3dc43a8595adf63),
 (true,0x996a409fcc5c300cf686472be87db4eb60ef76af92e5dc9dbd69aa7f1085a4bf),
 (false,0xb9ed2fa3d6515027ff22cfa04db040019f9cc64475c399f715b322a392f0a958),
 (true,0xbd078f9d42f6ba2353890ac19514cc28b84a1bf65fda114f3bf3ff2feee108fa),
 (true,0x9ad6d8d9ce0d7a83a082cdc85dbaadef2a6ed716e94da172fd7054c7a9e9a990),
 (true,0xa448103ecc782ca0bc212cef7980f3812a473f73f0d99351cecb17e921e39594),
 (true,0xf45cc6b050f046a27b394816fb12e8ff22ae409b92b5d8c09e43d1e9e04ca951),
 (true,0xc7b04052ac50ff9a354ac9ff85ba9a004086ea641ba61dfd52d2bd4f03c3c239),
 (false,0xb77f4f8c6411f0cd6add0a5cce73084059026823b663d2876cc9d0afad25a84e),
 (true,0x2460b86bc08cb29e9e8008e476fe0d9efe3a456a074f7eb8cfca4e852732a7ed),
 (false,0xc5ee587ab019ca63a1bfdfb5f496631102e78ce7a6d5705693f053243f49508f),
 (true,0x555f122093bffd1e77e3bbf5fd2e3e364d81445ef1f7b59f01d462ad4b7af151),
 (false,0xfb7e74c9f35f78fffc56bbe484aa852a5ec4e8d148296eb1e4ffed2a75fa5a70),
 (true,0x154e8d0ac8639958a5cd180817729be3e2b06c2f65f67d7d7a484166297a56b),
 (true,0x61af5f40fc97f10a87a64969c6cda0b872c746b005e895f2ebb0d2b105f364ba),
 (true,0x447e2790c04cb7c3528459074d34605440c757437aa060d49c1e8fc3e93f1e83),
 (false,0x6185f7226b91bfce4919d73973d468619839e081ee0d3ba5171c35364189ae65),
 (true,0x74ebc1f88746535a00e86570c26f38e7c15c6f37d7c0b86063fd7734e60c50d7),
 (false,0xe6e6798b5bcf5940583ba4a855c46f45dae438c7fe3e4fa9ad72f800f2357bf4),
 (true,0xae3a4864b65f3755dff8e8901e2236d9989a10585303510dcff79d4c5d0dcdcf),
 (true,0xd719252849aa0d6da2ab8ed8997b7b93e77c91f5f1635b789d9de94426f52792),
 (true,0x7127e6bb68f1ef682f3ec9f971c773e3f991840658b0a042d80f38d1bf51a285),
 (false,0xfa40b6deec874777878034ebd0539de82561f4beea0bd81fd15360ff8fe729a8),
 (true,0x9e31a5cf59091fccb66ae5966fc804424c477339e04d1dcbd63a658d56e662fb),
 (false,0xaf260ce7309dda53d0fe77b0ed83fdcda5d573c4e1faaba704d71f1b518ced21),
 (true,0x338f946d46e2f8be142a0c6b5bd3f7b847345330b7ed26109e942cad0b16ce3d),
 (false,0x671a9cfcd77d54040abe04c50e5e9474b0088967d61ec2e1fc6fbc30fe27d643),
 (true,0x4b575bdd5f3fd57baca7611ca5b67a8ab62b02db8ad768f9dcab0c2c2f830142),
 (true,0x53bc57149035223966ca04674d74d94878f9206aef006d12916fde93a71febca),
 (true,0xae34e217c839d17ed525b9fdaaa18b9a3afb8b6dc6f3ba9c3e231012f1923c1d),
 (true,0x7370d032ef8088a9e02febcd7fe94dffa2958ed2c371a3966f93a51690497918),
 (true,0xb7b26c9563edc9d6b83be1015a1de7520072e6a529e37b0334d0428a0cd4b0a8),
 (true,0xe47b0ffc833d45a6692cf6a215b67e74b0e90016bc8c9f17f9e609b3ef4924bd),
 (false,0x9b8a1e63051ecf909949dbab5901db46e2bd42096e40d75b4fd3b734bb5afdd1),
 (true,0x54779e36d32e1e2d2848d00d3a0694a2fd5445de8cf03a7658c33526ce20b694),
 (true,0x6c47e450fbfb96237da9f6de788a6d69b52289f2b0b190a3451d9e6e4a07ba03),
 (false,0x8e3782193c1e8f9e8be153febb1f6d12c5c2d7a2eee073a3cbb97ff026d0ceed),
 (true,0xc818926471fa5225a8a5e561c4478da9748333a4373190e9e4ac98a7741aaec8),
 (true,0x66e2ede051e7bd399d91ae329c691d91916edf8f3e25fc3645d4f622457f16df),
 (false,0xb3c1e07cc9bccc411f4f36a7ee157d7d3876bf35f64de077c419e0263e6058d9),
 (true,0xba0f7a89f1426932f82af21f82401e8079edd2ea8763d45ae3142d3bbc40c896),
 (false,0x77cafa08a7afa686b628192e9ff3bfadd5eab46a0a3d5e30b2163e63e5949179),
 (true,0x9e3e35482113ce3fc144f3731153f8dbbc555cac683c6cfb81c47e0283b82049),
 (true,0x8e929e24788cfe1b66ecb662b2b14ca6e9ec7ba6a397c73cf92fa223af89765a),
 (true,0x96f4e472e8549f0835d7ae520d2bc28c3d9bdd203d1778637cdd36ec101fd6db),
 (true,0xa644350787a05607838ac633033ee504fc6bfe39ce1466a124f661045e496250),
 (true,0xd22ecaabaaabf68f1b6f5e9c4f87aba002259b38b512985e8b5aeaff78c2ab43),
 (false,0xd47b6d4ed8d2938e234c1de7e862f2c92e380abbced91a6a7b6420b9331da5a4),
 (true,0xc2a428640ea9c24935b649949c766f8a7d90e5dd1a0e3585c2a1b6e0a54896d0),
 (false,0xbb314d1b5d77081037714e63fca961396d77540956e902fb59a52ec148974d40),
 (true,0xee4d9ea50470eaccee1520d858267ac8f116138f406554bd36039097920ff0d1),
 (false,0x3c84360600b57e1025a0c16af7e34bcb9b90cad451a5a055feae3c7968524603),
 (true,0x26479017b330592d75e3d0a69bbcfefa074851759f892a4f1d93246f37427e7),
 (false,0x9b158b46693de294f018624508672dafe7c8a7592a88f3dd79abf2d845752024),
 (true,0x244ed631c890fd8aa44bb5f2eea81966d5f1c3de2a6bfeff82f3b9b2343546be),
 (true,0x51869d453c9cfecbfabf1b0e3d9bf0373fb4d4f0c87c23be75c5697c9db1b424),
 (true,0x49874ef6659748b1ea52b271e61f530831b9f9611084ae821926371791651f20),
 (false,0xacb8db10f7629238e5e25e3bd692a70c246e54040dcd9070e9255bd9ef813314),
 (true,0x825209d0d9be8d8a296d954e77693967dbd44881c544c783179caa37c69dcae9),
 (true,0x2f3045f92d468d5da7dadb3a0116b20aa3cf5140870891157ffeb7fcb5bd6c1d),
 (true,0x4a10cadb960e25c233b6bc4f26cf169b1e0293efdf22a089f9a92fcf938d1d7b),
 (false,0xed45830458a2f1d1921e42a49ff12154f4b34559917042607f0b01484fec2726),
 (true,0x6fae03166a4bb16cf21de6778a4b42284de12656636d7f26bb1cb52ecefd0a25),
 (true,0x357b7439f5c58c1da3fac751df93ac554968a004910c8d1fa12b46666c916451),
 (true,0xe37fe36f6eabefa3671ce0b82899a86aba78c60d7e663e283593fceea7ae5d23),
 (false,0xbb3fa11789138766e12a5f53245ecad1fe479fe07a4dcf81bd8e4a942f951171),
 (true,0xc888dd47b7c1c915945ae6e2225d780ac8a65e9861dc767f7f773b6f01a6be47),
 (false,0x492c976bfe58f547c117da5f82cf075b08f92fa8586cdd813e23c52b9b822544),
 (true,0x24f3107006ff5f855f77843dc4a5d681534e2aae5a4550609375bdd4d5258e4e),
 (true,0xab18dfb77e846b8a4eb43add9abd81910fc41eebd109f30968384ef5033e674d),
 (false,0x7ca0929c945c8ea4fc9b919c5718cef48cabde23a15403f908f9e781551f6d33),
 (true,0x561ef686c8f382318be6bb743e100d0d03697dfeb165abfed6458dc811045b62),
 (true,0x2f2316a2b37053fd6c3c84c7e883070c234a816182e59d538228a7aee0b47a1e),
 (false,0x79776167c25664eb2cb6b2d42cfb2917a27561633bbf99a782a5764068896a85),
 (true,0x3ce6c602e2e6b48334822ccb934f9d1befc22aa2c15f52b40e5c818f744cc95a),
 (false,0x2a251d5036ad9964bee8af7ea9080bd9c186fbba9e54e10dd4c0c4c91f1b5bbd),
 (true,0xa6215d5ea1ab3be2067fefbbbc011eb9f2ead5126acdfc725cd1cc67c9c31e01),
 (true,0x3e683ae080a5d8dd8a38d9cd64cb689b544496a32c3c3c519901f6fa78e85348),
 (true,0x446615ad4c951ed05447db83a8e5369e46299acd87bae64ed7015f29539f600b),
 (true,0xbfa1d2c346b991359d301eff7c4a6aa4b0a5932bfa6a0e8a5a19152017f30244),
 (true,0x485e8705d249dd0a54effbf24235c1c3c42d45747524419158a0d63eba8b3d44),
 (false,0x802d5983b8c2e8622335968d627cce651aa657ce08a3fce97e7e989ee5b6c8e6),
 (true,0x63149c5d2223a46bc58ce09296ca782880e634f63e448ed3762c15c71cd56d98),
 (true,0x293d265674f075811227be6a4da1e4c024b563623a6082f49785c5fd95ccd947),
 (true,0xfb08b1fb6b2be8828c0652e6d623d8027d415b67be0391fe5ff3ccd8059e340f),
 (false,0xbc4c0c0691e05902f9baac3c0b8cf8eb7d0cd459c6a80cf19d89de7dc2d6acde),
 (true,0x45cbd0df5cc3afe0c6767c7d5b349aebad6f50b1d6cd28ba0b6b1343347b4c01),
 (true,0x4e61c43a30ed711cb3b92316b45738f11a837a868c0aae463ebf7330800ba336),
 (false,0xb5163d904925deab5e389f21f2f08cb38fb9213c064825405834da5c5aaf6013),
 (true,0xe430fd4829668799b7040f84a2cbbe353817a9ad422c2954de9d55f522077e5d),
 (true,0xbe6e32663b38cad65c1d56a36770c3b8dad6380ccbb81f95d99dc375d45ed3a2),
 (true,0xae9ff7b1088d8bb06cbf389b2e213a8170ec359a351432427328028fdc233518),
 (false,0x68681b85c14c48b462e19a6b37fbd478e1b4fadfb15b838e3f9c1f125df7ec58),
 (true,0xe35aa27ec1059fdd930c7eac71a9be990e6304dccc0614eb336b9d207e4eff7e),
 (true,0x763cf44cfce67a6b49cf1e8404e0952fa7b0d27840bc51759c749ce4afc905ec),
 (false,0x290b84689e93243cd901da84c3adcb0e1491095f18e99cc5ffdfe6425651b6c4),
 (true,0xc397b384785504889bf907dc5fa240f36f0b64505ff15ead9daf4a7a8d6b8a6b),
 (true,0xc6d567ecc5e889e883d47dfe0e95601fe74de515468f7340a7745d9732b20e11),
 (true,0xb7b6c38cb98e9963a15a605474cde9056848e9b5b8de6b6e7b05fe19f15b852c),
 (false,0x7b43892b1e02ec54bbe532e03bed3fb0c41aeefeff92595cffa25ff7e2b09738),
 (true,0x674a27aa60545ef1f420cb72a8021683c940749318c16e93a5cc7482ef0f740d),
 (true,0xa58a0cc089ae5e1e5af16c9a28029dec68f63e4ab230d92a6053c91bf4af54f3),
 (true,0xce43abb21e02cf6a2171a71789eb6fc5ce603dbd50eb77c5375a7ef41316186c),
 (false,0xc59331f95db20af076c97cb76f7baf930eaf75ef329717f59900e8ec9617133e),
 (true,0x8af749a26b000385ca953fe6c8ca9fa2c643c889efb300b671c0db7d67c8ee18),
 (true,0xe7b542874c1fdffbf33a51dcb287e4d8507f809b42ad834719bf554c031643e4),
 (true,0xebf47aa578ef047644f82d192d8a60f49b75edba2c74df310d6c9a909fedc8bd),
 (false,0xd55c0d7cceae7ea0cc893f8e6ea3a0d9029af3c67b7f816e3c6bb75ce7454cf7),
 (true,0x23ac8739f2da2c13ca80f6dbe60ae06be14778c21e4fd0a71ed64a104fb8beaf),
 (false,0xea1a5739d97bb2f8a8c3e3260a47c7ded4971fc11cc73911e4c213a5831d0cc7),
 (true,0x2856dfd2a678e1a720f34f008e1dfeb1d02e231fecdaae735c7f0738e61cb10c),
 (false,0x4ec89e2894ddfc423c9b709fa430bf4a590ae9ca455806e0c3c327ce9204dbca),
 (true,0x7a5713ab7a1b0cc6aeaac07984eca5a32ce4f37cd017c5b52fb13f427682d6aa),
 (false,0xbb2b5a0674c2e562227a1c742ed08b0a2efd948c66ab1032b7f32c5c2da32677),
 (true,0x587ac4ecfbf0202abc3edc1a4284d6ab747defc63f5a4304aecdff8001c6d03d),
 (true,0x96934511315d66cd41623b4fb8aba3c8aec450d462c2d35009077666cc642a78),
 (false,0xb49467479a29400fd7e97c1ce2e0cfff2b985820ad6d8b567fd45ace1eb8a7d8),
 (true,0xac437a663e36f898b364f8f9ae84e2cf5c47b4300b7c435304b5451eea25c075),
 (false,0xaa4f5180e4d039c61cb891f336357a48f31c63bc3633e5dc3a6da9635759dc0d),
 (true,0xbc6ffae40777190700f5fa0653946ad66d2d587e67f4afe281cc9d4f23f024ab),
 (true,0x8f189d9fd8462d672b0e5ffcbca71110bbfc46f176a9ffc5e866af7273f400ff),
 (true,0x43e283ca0a4e4e5764742134bbef5affd9ed813b8f3a24dc67417d9ea1319b6a),
 (true,0xbd10c4a2252dfe66437b34a3bea4363a92b6063564aa2b7a90e9aca08833aac9),
 (false,0x7724881269dadca3e387ca5f87a8b5bbfc9cac427d8661d85baa1516ac38a4bb),
 (true,0x7f1d18ce7b360b2f254a937d940c5ba8e6f09f611d61abd0ec40292898e9dbd8),
 (true,0x640b39d5cc820c20248300ed400f47d7bf927a6446356209cace4f839a5839de),
 (false,0x20902739b143d26b2e5ce199f503deb713a3a5cd98ce0bf36658a6fd15a7f44d),
 (true,0x37d5af1b7ae6878a2b1185f7abf2765d09893e5b01fb3e598e90fb5d98d72081),
 (true,0x76f73d72fa0645c1fb137b866d86e7ed7255e9024f1dba3ec04da137ccb6b8fc),
 (false,0xccfb2178d0b001314c8d9b379c24c24a7a4810466c222230b9b3377a48f685eb),
 (true,0xa3af56c871f89b98f7917aa741a52a4ac16f9a480964cef2f803432dc440bd),
 (true,0x47cec114a1137d4809e4d3c0456103d6bb7c8a2606270810a6e1703ad5797a5b),
 (false,0x7a77ba2baee2322754ab2ef80dfd756fc240f56950398192a1b594d30a8aae67),
 (true,0x6bffda7de29712df0fbb1b66082f00cb4e9220f8e8bd87a83aa7636f517e0226),
 (true,0x4be48a4555f5cdb17530e9d411cfd2222fff820a35b651991be9469b6a6750f2),
 (false,0xbe89bde729dcf02a29c302bd1046aa5d190ffad4509e9e1d1ab5c946083311ce),
 (true,0x37ea72c915bd1520ffec73db63bd8dab7c6d4bb18afc88232b1bf5bddbed72a),
 (false,0xe3f868511a921fb37c2e6a79b83a9f58f10258bc2007772cd9f54f25237d83f),
 (true,0xa5b6c1f19d0bb583cb333909b98924c05e14a2d9af3f6596c97100f2fb1d7e63),
 (true,0x12a9abd81aa86f6ca264d83f2e1bb3d34d9d8195525b59722945b1760dcce9fd),
 (false,0xbe674ed91ee15750898155aa6e52de4770d118e019ce60fc0dca136a7f0d3414),
 (true,0x8bcdd17ee548a9a99420147a79e9cb7971832f47f393816970aa22e090398a77),
 (true,0xe883f1623b425ff3205d7b5417039529c94b8332cf730ef7eb0a722afb294de7),
 (false,0x7b71e9ad69e263b65055a58d5ecbd218c106c935793277d22568e9e55f05d9c3),
 (true,0xfc2c2e2874e193547527725cf58775e6c4e5c60ac35606ae59281c6480330bc4),
 (false,0xebb1c0e31ca739594aeb537d4cfeaeff1ca23580d1cbff0a6740dfa6bc367c4f),
 (true,0x41951f93ca658c518d216f5dd329387bd362d0b5fe3bf7159e1de94302f992ba),
 (true,0x8be00c8dae27c96b01e161c92f6f0b2f45cdc641309c6112a8d7d502616e59c9),
 (true,0xe8178478b66146644ad7287c43f05c0e6c8203a98e9b9cf852ffb53c034ee8b9),
 (true,0xf6ded369b0957ff38b9aa5d3f844d8073e158e02253755d141f65d99a4652fcb),
 (true,0xb8337ee9169a4f6d4aca63bdbe657a02c19d0a6c044550544ab3a5c56e7903e7)]
theorem ksteps_ok : chain ksteps 1 gx gy = some (exk,0xefd48b2aacb6a8fd1140dd9cd45e81d69d2c877b56aaf991c34d0ea84eaf3716,0x34a7e72c423213443152c82df94fe0f6851bf894fd91c64b19555346093ff492):=by decide +kernel
theorem rOf_of {k x y : Nat} (h : (grp.mul k base).1 = some (F x,F y)) : rOf k = x % pp % nn:=by
 unfold rOf
 rw [h]; rfl
theorem sOf_of {d e k r t : Nat} (hr : rOf k = r) (ht : t = iG nn k) : sOf d e k = t * ((e % nn + r * d % nn) % nn) % nn:=by
 unfold sOf
 rw [hr,← ht]
theorem ex_rOf : rOf exk = exR:=(rOf_of (zgg ksteps 1 gx gy _ (by rw [grp.mul_one]; rfl) ksteps_ok)).trans (by decide +kernel)
theorem ex_inv : exTi = iG nn exk:=iG_of nn nn_root nn_one (by decide +kernel) (by decide +kernel)
theorem ex_sOf : sOf exd exe exk = exS:=(sOf_of ex_rOf ex_inv).trans (by decide +kernel)
end Go.Proofs.YtmfjigcdhijkjaaDoor.Pt
namespace Go.Proofs.YtmfjigcdhijkjaaDoor
open Go.RowKit
open Go.Act renaming put → aP
open List renaming setIfInBounds_toArray → lA, set_cons_zero → lZ, set_cons_succ → lS
section
variable {P : Program} {ops : Array Oper} {Q : Exit → Act → World → Prop} {md : Region.Mode}
theorem zbx {rs : List Nat} {fuel : Nat} {listed : Array Bool} {a : Act} {w : World} (hr : Region.ready md ops listed = rs) (hne : rs ≠ [])
  (h : ∀ i ∈ rs,wpOp P ops Q i (wpAny P md ops Q fuel (listed.setIfInBounds i true)) a w) : wpAny P md ops Q (fuel + 1) listed a w :=
 ⟨fun h0 => absurd (hr ▸ h0) hne,hr ▸ h⟩
theorem zcu {p : Nat → Prop} : ∀ i ∈ ([] : List Nat),p i:=fun _ h => by cases h
theorem all_cons {p : Nat → Prop} {i : Nat} {rs : List Nat} (h : p i) (k : ∀ j ∈ rs,p j) : ∀ j ∈ i :: rs,p j:=fun j hj => by
 rcases List.mem_cons.1 hj with rfl | hj
 ·
  exact h
 ·
  exact k j hj
section
variable {i : Nat} {o : Oper} {d : Option Tmp} {K : Act → World → Prop} {a : Act} {W : World}
theorem zha {v : Value} (ho : ops[i]? = some o) (hd : o.dst = d) (hg : o.guard = none) (hm : Made P o v a W) (h : ∀ W',Ext W W' → K (a.put d v) W') : wpOp P ops Q i K a W:=by
 subst hd
 exact zbd ho hg (hm.wp (Ext.refl W) h)
theorem zft {ty : TypeId} {zs : Array Value} {t : TypeId} (ho : ops[i]? = some o) (hd : o.dst = d) (hg : o.guard = none) (hop : o.op = .alloc ty) (hz : ∀ W,(Instr.alloc ty true (.tuple #[])).run P W = .ok (ptrTo W.heap.size) (W.alloc (.cells zs t)))
  (h : ∀ g W',W.heap.size ≤ g → Ext W W' → W'.heap[g]? = some (.cells zs t (0,0)) → K (a.put d (ptrTo g)) W') : wpOp P ops Q i K a W:=by
 subst hd
 exact zbd ho hg (zbv hop hz (h _ _ (Nat.le_refl _) (Ext.alloc _ _) (zbm _ _)))
theorem zfs {ty : TypeId} {n : Nat} {ps : List (Nat × Operand)} {vs : List (Nat × Value)} {C : Array Value} {e : TypeId} (ho : ops[i]? = some o) (hd : o.dst = d) (hg : o.guard = none) (hop : o.op = .buildSlice ty n ps.toArray)
  (hv : ps.map (fun (i,x) => (i,a.eval x)) = vs) (hb : ∀ W,(Instr.buildSlice ty n vs.toArray).run P W = .ok (.slice (some ⟨W.heap.size,0,none⟩) n n) (W.alloc (.cells C e)))
  (h : ∀ g W',W.heap.size ≤ g → Ext W W' → W'.heap[g]? = some (.cells C e (0,0)) → K (a.put d (.slice (some ⟨g,0,none⟩) n n)) W') : wpOp P ops Q i K a W:=by
 subst hd
 refine zbd ho hg ?_
 have hb':=hb W
 rw [← hv,← List.map_toArray] at hb'
 unfold Oper.wp execOp
 simp only [hop,Sem.run_bind]
 rw [hb']
 simp only [Result.andThen_ok,Sem.run_pure]
 exact h _ _ (Nat.le_refl _) (Ext.alloc _ _) (zbm _ _)
theorem freeze_at {W : World} {g k : Nat} {C : Array Value} {e : TypeId} (hg : W.heap[g]? = some (.cells C e (0,0))) : (W.freeze ⟨g,k,none⟩ 1).heap[g]? = some (.cells C e (k,k + 1)):=by
 unfold World.freeze
 rw [if_neg (by decide)]
 show (W.heap.modify g _)[g]? = _
 rw [Array.getElem?_modify,hg]
 simp
theorem but_freeze {W : World} {g k : Nat} : But g W (W.freeze ⟨g,k,none⟩ 1):=by
 unfold World.freeze
 rw [if_neg (by decide)]
 refine ⟨rfl,rfl,rfl,?_,fun b hb hne => ?_⟩
 ·
  show W.heap.size ≤ (W.heap.modify g _).size
  rw [Array.size_modify]
  exact Nat.le_refl _
 ·
  show (W.heap.modify g _)[b]? = _
  rw [Array.getElem?_modify,if_neg (fun e => hne (congrArg some e.symm))]
theorem zdr {w W W' : World} {g : Nat} (h : Ext w W) (b : But g W W') (hg : w.heap.size ≤ g) : Ext w W' :=
 ⟨b.os.trans h.os,b.tape.trans h.tape,b.output.trans h.output,Nat.le_trans (Below.size h) b.size,fun k hk => (b.block k (Nat.lt_of_lt_of_le hk (Below.size h)) (fun e => by injection e with e; omega)).trans (Below.block h k hk)⟩
theorem run_conv_at {W : World} {t e : TypeId} {g n c : Nat} {C : Array Value} (hg : W.heap[g]? = some (.cells C e (0,0))) (ht : P.underlying t = some (.slice e)) (he : P.underlying e = some (.int .u8)) :
  (convert t t (.slice (some ⟨g,0,none⟩) n c)).run P W = .ok (.slice (some ⟨g,0,none⟩) n c) (W.freeze ⟨g,C.size,none⟩ 1):=by
 have hsh : W.shape? g = some (e,C.size):=by
  unfold World.shape?
  rw [hg]
 simp [convert,run_underlying ht,run_underlying he,markStringish,hsh]
theorem zdn {t e : TypeId} {x : Operand} {g n c : Nat} {C : Array Value} (ho : ops[i]? = some o) (hd : o.dst = d) (hg : o.guard = none) (hop : o.op = .convert t t x) (hx : a.eval x = .slice (some ⟨g,0,none⟩) n c)
  (hb : W.heap[g]? = some (.cells C e (0,0))) (ht : P.underlying t = some (.slice e)) (he : P.underlying e = some (.int .u8))
  (h : ∀ W',But g W W' → W'.heap[g]? = some (.cells C e (C.size,C.size + 1)) → K (a.put d (.slice (some ⟨g,0,none⟩) n c)) W') : wpOp P ops Q i K a W:=by
 subst hd
 refine zbd ho hg ?_
 unfold Oper.wp execOp
 simp only [hop,hx,Sem.run_bind,run_conv_at hb ht he,Result.andThen_ok,Sem.run_pure]
 exact h _ but_freeze (freeze_at hb)
end
/-! ### a piece of the text's order,whatever has come up -/
def closedB (md : Region.Mode) (ops : Array Oper) (listed : Array Bool) : Bool :=
 decide (listed.size = ops.size) && (List.range ops.size).all fun j => match ops[j]? with
  | none => true
  | some oj => !listed.getD j false || oj.after.all fun e => !Region.binds md e || listed.getD e.on false
theorem closed_of_B {listed : Array Bool} (h : closedB md ops listed = true) : Closed md ops listed:=by
 simp only [closedB,Bool.and_eq_true,decide_eq_true_eq] at h
 refine ⟨h.1,fun j oj hj hl e he hb => ?_⟩
 have h1:=List.all_eq_true.1 h.2 j (List.mem_range.2 (Array.getElem?_eq_some_iff.1 hj).1)
 simp only [hj,hl,Bool.not_true,Bool.false_or] at h1
 have h2:=Array.all_eq_true'.1 h1 e he
 simpa [hb] using h2
theorem G_seg {m n g : Nat} (hsel : Region.noSelect ops = true) (hQ : ∀ (o : Oper) v c a w,Q (.panic c) (a.put o.dst v) w → Q (.panic c) a w) (hB : lateB md ops m n = true) {w : World} {R : Act → Prop} {L : Array Bool}
  (hR : ∀ a,R a → wpG P md ops Q n g L a w) : ∀ (l : List Oper) (k : Nat) (listed : Array Bool) (a : Act),(∀ j,j < l.length → l[j]? = ops[k + j]?) → k + l.length ≤ m → Closed md ops listed →
  lexTo md ops l.length k listed = true → marked l.length k listed = L → wpMk P ops w R l a → wpG P md ops Q n (l.length + g) listed a w
 | [],k,listed,a,_,_,_,_,hL,h => by
  have hL' : listed = L:=hL
  subst hL'
  simpa using hR a h
 | o :: l,k,listed,a,hl,hk,inv,hX,hL,h => by
  have h0 : ops[k]? = some o:=by simpa using (hl 0 (by simp)).symm
  simp only [List.length_cons,lexTo,Bool.and_eq_true] at hX
  obtain ⟨⟨hr,hf⟩,hX'⟩:=hX
  have hkm : k < m:=by simp only [List.length_cons] at hk; omega
  have hr' : k ∈ Region.ready md ops listed:=by simpa using hr
  obtain ⟨v,hy,hK⟩:=h
  rw [List.length_cons,show l.length + 1 + g = (l.length + g) + 1 by omega]
  exact G_first h0 (Region.noSelect_spec hsel) (hQ o v) hB hkm _ listed a w inv (Region.free_spec h0 hf) hr' hy
   (G_seg hsel hQ hB hR l (k + 1) _ _ (fun j hj => by have:=hl (j + 1) (by simp; omega); simpa [Nat.add_assoc,Nat.add_comm 1 j] using this) (by simp only [List.length_cons] at hk; omega) (inv.set hr') hX' hL hK)
def segB (l : List Oper) (m n k c : Nat) (listed : Array Bool) : Bool :=
 Region.noSelect l.toArray && lateB .any l.toArray m n && closedB .any l.toArray listed && lexTo .any l.toArray c k listed && decide (k + c ≤ m) && decide (m ≤ l.length)
theorem zdf {l : List Oper} {m n k c g : Nat} {listed L : Array Bool} {a A : Act} {W : World} (hQ : ∀ (o : Oper) v c a w,Q (.panic c) (a.put o.dst v) w → Q (.panic c) a w) (hB : segB l m n k c listed = true) (hL : marked c k listed = L)
  (hg : (((l.drop k).take c).all fun o => o.guard.isNone) = true) (h : wpMk P #[] W (fun a' => a' = A) ((l.drop k).take c) a) (h2 : wpG P .any l.toArray Q n g L A W) : wpG P .any l.toArray Q n (c + g) listed a W:=by
 simp only [segB,Bool.and_eq_true,decide_eq_true_eq] at hB
 obtain ⟨⟨⟨⟨⟨hsel,hlate⟩,hcl⟩,hlex⟩,hkc⟩,hml⟩:=hB
 have hlen : ((l.drop k).take c).length = c:=by simp; omega
 have H:=G_seg (P:=P) (md:=.any) (Q:=Q) (g:=g) (w:=W) hsel hQ hlate (R:=fun a' => a' = A) (L:=L) (fun a' e => by subst e; exact h2) ((l.drop k).take c) k listed a (fun j hj => by
  have hj' : j < c:=by rw [hlen] at hj; exact hj
  simp [hj']) (by rw [hlen]; exact hkc) (closed_of_B hcl) (by rw [hlen]; exact hlex) (by rw [hlen]; exact hL) (mk_ops hg h)
 rwa [hlen] at H
end
def Lit (A : Nat → Nat → Act) (T : Nat → World → Prop) : Exit → Act → World → Prop:=fun e a W => ∃ g p,e = .normal ∧ a = A g p ∧ T p W
section
variable {P : Program} {Q : Exit → Act → World → Prop} {A : Nat → Nat → Act} {T : Nat → World → Prop}
theorem lit_mono {c : Code} {a : Act} {w : World} (h : c.wp P (Lit A T) a w) (k : ∀ g p W,T p W → Q .normal (A g p) W) : c.wp P Q a w:=wp_mono h fun _ _ _ ⟨g,p,h1,h2,h3⟩ => by
 subst h1 h2
 exact k g p _ h3
theorem zcg (o : Oper) (v : Value) (c : List PanicEntry) (a : Act) (w : World) (h : Lit A T (.panic c) (a.put o.dst v) w) : Lit A T (.panic c) a w:=by
 obtain ⟨_,_,h,_⟩:=h
 cases h
theorem zev (g p : Nat) {a : Act} {W : World} (ha : a = A g p) (h : T p W) : Lit A T .normal a W:=⟨g,p,rfl,ha,h⟩
section
variable {P : Program} {Q : Exit → Act → World → Prop}
theorem any_rest {l : List Oper} {m n k c g : Nat} {listed : Array Bool} {a A : Act} {W : World} (hQ : ∀ (o : Oper) v c a w,Q (.panic c) (a.put o.dst v) w → Q (.panic c) a w) (hB : segB l m n k c listed = true) (hl : l.length - m = g)
  (hL : marked c k listed = marked m 0 (Array.replicate l.length false))
  (hg : (((l.drop k).take c).all fun o => o.guard.isNone) = true) (h : wpMk P #[] W (fun a' => a' = A) ((l.drop k).take c) a) (h2 : Rest P l Q m n A W) : wpG P .any l.toArray Q n (c + g) listed a W:=by
 subst hl
 exact zdf hQ hB hL hg h h2
end
end
section
variable {P : Program} {Q : Exit → Act → World → Prop} {l : List Oper} {m g : Nat} {A : Act} {w W0 : World} {ty t : TypeId} {zs cells : Array Value} {d de : Tmp} {y : Operand}
theorem zdi {v vx : Value} {z : Operand} {dx : Tmp} {L0 L1 : Array Bool} (ox os oe : Oper) (hox : l.toArray[m]? = some ox) (hos : l.toArray[m + 2]? = some os) (hoe : l.toArray[m + 3]? = some oe) (ho : os.op = .store ty (.tmp d) y) (hoe2 : oe.op = .assign z)
  (hdx : ox.dst = some dx) (hd : os.dst = none) (hde : oe.dst = some de) (hgx : ox.guard = none) (hg : os.guard = none) (hge : oe.guard = none)
  (hr : Region.ready .any l.toArray L0 = [m,m + 2]) (hrx : Region.ready .any l.toArray (L0.setIfInBounds m true) = [m + 2]) (hrs : Region.ready .any l.toArray (L0.setIfInBounds (m + 2) true) = [m])
  (h1 : (L0.setIfInBounds m true).setIfInBounds (m + 2) true = L1) (h2 : (L0.setIfInBounds (m + 2) true).setIfInBounds m true = L1) (hr1 : Region.ready .any l.toArray L1 = [m + 3]) (hr2 : Region.ready .any l.toArray (L1.setIfInBounds (m + 3) true) = [])
  (hxv : ∀ W,(execOp A.eval ox).run P W = .ok (.value vx) W) (hx : A.eval (.tmp d) = ptrTo g) (hx' : (A.put (some dx) vx).eval (.tmp d) = ptrTo g) (hy : A.eval y = .agg cells) (hy' : (A.put (some dx) vx).eval y = .agg cells) (hz : (A.put (some dx) vx).eval z = v)
  (hi : (P.info? ty).map (·.size) = some cells.size) (hold : zs.size = cells.size) (hone : cells.all (·.oneCell') = true)
  (hE : Ext w W0) (hge0 : w.heap.size ≤ g) (hb : W0.heap[g]? = some (.cells zs t (0,0)))
  (h : ∀ W,W.heap[g]? = some (.cells cells t (0,0)) → Ext w W → Q .normal ((A.put (some dx) vx).put (some de) v) W) : wpG P .any l.toArray Q (m + 2) 3 L0 A W0:=by
 have fin : ∀ (W : World),W.heap[g]? = some (.cells cells t (0,0)) → Ext w W → wpG P .any l.toArray Q (m + 2) 1 L1 (A.put (some dx) vx) W:=fun W hb hE => by
  refine ⟨fun h0 => (by rw [hr1] at h0; cases h0),fun j hj W3 hW3 => ?_⟩
  rw [hr1] at hj
  obtain rfl : j = m + 3:=by simpa using hj
  refine zek (v:=v) hoe hge (by unfold execOp; simp only [hoe2,hz,Sem.run_pure]) ⟨fun h0 => by omega,?_⟩
  rw [hde]
  exact ⟨hr2,fun W4 hW4 => h W4 ((hW3.trans hW4).block hb) (hE.trans (hW3.trans hW4))⟩
 refine ⟨fun h0 => (by rw [hr] at h0; cases h0),fun i hi' W hW => ?_⟩
 rw [hr] at hi'
 obtain rfl | rfl : i = m ∨ i = m + 2:=by simpa using hi'
 ·
  refine zek hox hgx (hxv W) ⟨fun _ => Ext.refl _,?_⟩
  rw [hdx]
  refine ⟨fun h0 => (by rw [hrx] at h0; cases h0),fun j hj W1 hW1 => ?_⟩
  rw [hrx] at hj
  obtain rfl : j = i + 2:=by simpa using hj
  refine zbd hos hg (wp_store_row ty _ y ho g cells hx' hy' t zs ((hW.trans hW1).block hb) hi hold hone ⟨fun h0 => absurd h0 (Nat.lt_irrefl _),?_⟩)
  rw [h1,hd]
  exact fin _ (setRow_heap W1 g zs cells t (0,0) ((hW.trans hW1).block hb)) (zci (hE.trans (hW.trans hW1)) hge0 cells)
 ·
  refine zbd hos hg (wp_store_row ty _ y ho g cells hx hy t zs (hW.block hb) hi hold hone ⟨fun h0 => absurd h0 (Nat.lt_irrefl _),?_⟩)
  rw [hd]
  refine ⟨fun h0 => (by rw [hrs] at h0; cases h0),fun j hj W1 hW1 => ?_⟩
  rw [hrs] at hj
  obtain rfl : j = m:=by simpa using hj
  refine zek hox hgx (hxv W1) ⟨fun _ => Ext.refl _,?_⟩
  rw [h2,hdx]
  exact fin _ (hW1.block (setRow_heap W g zs cells t (0,0) (hW.block hb))) ((zci (hE.trans hW) hge0 cells).trans hW1)
end
end Go.Proofs.YtmfjigcdhijkjaaDoor
namespace Go.Proofs.YtmfjigcdhijkjaaDoor
open Go.RowKit
open Go.Act renaming put → aP
open List renaming setIfInBounds_toArray → lA, set_cons_zero → lZ, set_cons_succ → lS
def pstr (X Y : Nat) : ByteArray:=((List.range 64).map fun j => if j < 32 then byv X (31 - j) else byv Y (31 - (j - 32))).foldl (fun r n => r.push (UInt8.ofNat n.toNat)) ByteArray.empty
theorem str_own {w : World} {base X Y : Nat} {v : Value} (ho : Own w base 5 v 64 (ptB X Y)) : (convert 27 9 v).run Tryd.prog w = .ok (.string (pstr X Y)) w:=by
 obtain ⟨g,c,rfl,_,_,hp⟩:=ho.pre (by decide)
 rw [run_convert_bytes_string (P:=Tryd.prog) w 27 9 5 _ _ _ Tryd.underlying27 Tryd.underlying5 Tryd.underlying9]
 refine run_bytesToString (P:=Tryd.prog) w ⟨g,0,none⟩ 64 c _ ?_
 have h:=run_loadCells_list (P:=Tryd.prog) w ⟨g,0,none⟩ ((List.range 64).map (ptB X Y)) (fun j v hv => by
  have hadd : (⟨g,0,none⟩ : Addr).add j = ⟨g,j,none⟩:=by unfold Addr.add; split <;> simp_all
  rw [hadd]
  by_cases hj : j < 64
  ·
   rw [hp.cell hj]
   simp [hj] at hv
   rw [hv]
  ·
   simp [hj] at hv)
 simp only [List.length_map,List.length_range] at h
 have e : (List.range 64).map (ptB X Y) = ((List.range 64).map fun j => if j < 32 then byv X (31 - j) else byv Y (31 - (j - 32))).map (fun n => Value.int .u8 n):=by
  rw [List.map_map]
  refine List.map_congr_left fun j _ => ?_
  simp only [Function.comp,ptB,bsv]
  split <;> rfl
 rw [h,e]
end Go.Proofs.YtmfjigcdhijkjaaDoor
